import PyProof.Rows.All
import Wide.All
import OpenK.AllK
import Wide.FinOn
import Lean
import PyProof.EqAt
import PyProof.EqKinds
import PyProof.TupleCall
import PyProof.NeKinds
import PySem.Challenge.RW_helmsum_k67_costs_and_worth
set_option Elab.async false
set_option linter.all false
set_option maxRecDepth 100000
local macro_rules | `($x.$i:fieldIdx) => match i.raw.isFieldIdx? with | some 9 => `(($x).length) | some 8 => `(($x).heap) | some 7 => `(($x).size) | some 6 => `(($x).heap.objs.size) | some 5 => `(($x).toArray) | _ => Lean.Macro.throwUnsupported
local macro_rules | `(#[$a,*]) => `(⟨$a,*⟩)
local macro_rules | `(tactic| obtain $p:rcasesPatMed := $e:term) => do
 let a := p.raw[0].getSepArgs
 let q : Lean.TSyntax `rcasesPat ← if a.size == 1 then pure ⟨a[0]!⟩ else do
  let l ← a.mapM fun x => `(Lean.Parser.Tactic.rcasesPatLo| $(⟨x⟩):rcasesPat)
  `(rcasesPat| ⟨$l,*⟩)
 `(tactic| first | (refine Classical.byContradiction fun ng => ?_; (rcases $e:term with $q:rcasesPat) <;> (refine ng ?_; clear ng)) | rcases $e:term with $q:rcasesPat)
local macro_rules | `(()) => `(by first | decide | lia)
abbrev ND9:=@List.Nodup PySem.Str
abbrev ae:=@List.getD_eq_getElem?_getD
abbrev af:=@List.length_map
abbrev ai:=@List.getElem?_eq_getElem
abbrev aj:=@Nat.le_trans
abbrev ao:=@List.mem_of_getElem?
abbrev ar:=@Nat.le_refl
abbrev av:=@List.mem_map
abbrev aw:=@List.mem_append
abbrev ay:=@List.getElem?_map
abbrev aB:=@List.length_append
abbrev aD:=@List.take_of_length_le
abbrev aE:=@Nat.mul_le_mul_right
abbrev aF:=@Nat.pow_le_pow_right
abbrev aH:=@Nat.mul_le_mul
abbrev aI:=@List.mem_cons
abbrev aJ:=@Nat.pow_add
abbrev aL:=@Nat.le_of_lt
abbrev aO:=@Rat.intCast_mul
abbrev aR:=@List.getElem?_eq_some_iff
abbrev aT:=@List.not_mem_nil
abbrev aW:=@List.size_toArray
abbrev aY:=@Nat.mul_pos
abbrev bc:=@PySem.boot_len
abbrev bg:=@List.mem_singleton
abbrev bo:=@List.getElem_mem
abbrev br:=@Rat.div_def
abbrev bu:=@List.length_range
abbrev bx:=@Nat.lt_of_lt_of_le
abbrev bE:=@List.getElem?_eq_none
abbrev bF:=@Bool.false_ne_true
abbrev bK:=@Int.fdiv_eq_ediv_of_nonneg
abbrev bL:=@Rat.intCast_natCast
abbrev bM:=@List.length_zipWith
abbrev bO:=@Nat.lt_of_le_of_lt
abbrev bR:=@List.mem_cons_of_mem
abbrev bU:=@List.mem_append_right
abbrev bV:=@List.length_cons
abbrev bW:=@Nat.zero_le
abbrev bX:=@List.getElem_of_mem
abbrev bY:=@List.getElem?_range
abbrev bZ:=@Nat.dvd_mul_left
abbrev b9:=@List.getElem?_zipWith
abbrev cg:=@Nat.mul_le_mul_left
abbrev cm:=@Option.some.inj
abbrev cn:=@List.map_append
abbrev cx:=@Rat.zero_mul
abbrev cz:=@List.mem_of_mem_take
abbrev cD:=@Rat.le_of_lt
abbrev cJ:=@Rat.natCast_mul
abbrev cN:=@PySem.F.plainAttrs_list
abbrev cO:=@Int.eq_ofNat_of_zero_le
abbrev cR:=@Rat.intCast_pos
abbrev cS:=@List.mem_flatten
abbrev cT:=@Nat.ne_of_lt
abbrev cU:=@Nat.le_mul_of_pos_left
abbrev cV:=@List.append_assoc
abbrev cW:=@PySem.F.type_list_append
abbrev cX:=@PySem.F.slot_list_append
abbrev c8:=@List.length_replicate
abbrev c9:=@Rat.mul_comm
abbrev dc:=@Rat.add_zero
abbrev dd:=@List.nodup_cons
abbrev de:=@Nat.le_mul_of_pos_right
abbrev dh:=@List.length_take
abbrev dC:=@List.nodup_append
abbrev dD:=@Rat.mul_inv_cancel
abbrev dE:=@List.mem_cons_self
abbrev dG:=@Nat.two_pow_pos
abbrev dH:=@List.nil_append
abbrev dM:=@Nat.mul_assoc
abbrev dP:=@Nat.succ_mul
abbrev dX:=@Rat.mul_assoc
abbrev dY:=@PySem.W.kia_one
abbrev dZ:=@Int.mul_assoc
abbrev d5:=@Nat.mul_comm
abbrev eh:=@List.mem_or_eq_of_mem_set
abbrev eo:=@List.drop_eq_getElem_cons
abbrev eJ:=@List.length_singleton
abbrev eK:=@Rat.mul_nonneg
abbrev eP:=@Rat.intCast_inj
abbrev eQ:=@List.length_set
abbrev eX:=@Rat.mul_pos
abbrev eY:=@Option.getD_some
abbrev eZ:=@Nat.succ_le_succ
abbrev fg:=@Nat.pow_lt_pow_right
abbrev fh:=@List.length_drop
abbrev fj:=@Int.mul_pos
abbrev fk:=@Int.gcd_dvd_left
abbrev fP:=@Rat.natCast_le_natCast
abbrev fQ:=@List.getElem?_append_right
abbrev fR:=@List.flatten_cons
abbrev fU:=@Int.natAbs_mul
abbrev fV:=@Int.gcd_dvd_right
abbrev fY:=@Rat.mul_one
abbrev gG:=@List.getElem?_append_left
abbrev gI:=@Int.natAbs_dvd_natAbs
abbrev gL:=@List.cons_append
abbrev gQ:=@Nat.lt_irrefl
abbrev gR:=@Nat.dvd_trans
abbrev gU:=@Rat.one_mul
abbrev gV:=@List.mem_range
abbrev gW:=@List.mem_of_mem_drop
abbrev gX:=@List.getElem_zipWith
abbrev il:=@List.replicate_succ
abbrev iw:=@Rat.mul_zero
abbrev iB:=@Rat.intCast_le_intCast
abbrev iC:=@Int.mul_comm
abbrev iG:=@Nat.lt_succ_self
abbrev iH:=@Bool.and_eq_true
abbrev iK:=@Rat.inv_mul_cancel
abbrev iL:=@Rat.div_mul_cancel
abbrev iZ:=@Rat.intCast_neg
abbrev je:=@Rat.le_trans
abbrev jf:=@Nat.pow_succ
abbrev jF:=@Rat.mul_le_mul_of_nonneg_right
abbrev jG:=@List.nodup_nil
abbrev jO:=@Nat.lt_or_ge
abbrev jP:=@Int.natAbs_natCast
abbrev jQ:=@Int.emod_lt_of_pos
abbrev jR:=@Bool.false_eq_true
abbrev kq:=@Rat.intCast_add
abbrev ks:=@Nat.le_of_dvd
abbrev lD:=@List.mem_append_left
abbrev mD:=@PySem.IsL.update
abbrev mE:=@List.lookup_cons
abbrev mF:=@List.ext_getElem
abbrev mG:=@Int.gcd_comm
abbrev mP:=@PySem.F.plain_extend_loop
abbrev mQ:=@PySem.mem_of_lookup
abbrev mR:=@List.map_congr_left
abbrev mW:=@List.map_cons
abbrev nB:=@Rat.natCast_pos
abbrev nD:=@Int.emod_nonneg
abbrev oC:=@List.getElem?_replicate
abbrev oE:=@Int.dvd_mul_of_dvd_left
abbrev o9:=@Option.map_eq_some_iff
abbrev pe:=@Nat.add_comm
abbrev ph:=@List.ext_getElem?
abbrev pj:=@Int.natAbs_neg
abbrev rz:=@PySem.F.slot_zip_next
abbrev tJ:=@Rat.mul_le_mul_of_nonneg_left
abbrev tK:=@List.map_id
abbrev tM:=@Nat.not_lt_zero
abbrev tN:=@List.length_zip
abbrev tO:=@List.append_nil
abbrev tP:=@Int.gcd_pos_of_ne_zero_right
abbrev tQ:=@Bool.eq_iff_iff
abbrev vb:=@Bool.or_eq_true_iff
abbrev v7:=@Nat.one_le_two_pow
abbrev wa:=@Int.eq_of_mul_eq_mul_right
abbrev yq:=@Rat.le_refl
abbrev yr:=@Nat.one_mul
abbrev yt:=@Int.natAbs_add_le
abbrev yu:=@List.eq_of_mem_replicate
abbrev yv:=@Int.mul_ediv_cancel_left
abbrev Ap:=@Rat.intCast_eq_zero_iff
abbrev Aq:=@List.all_eq_true
abbrev Ar:=@Int.natCast_dvd_natCast
abbrev AR:=@Rat.zero_add
abbrev AS:=@Rat.add_comm
abbrev AU:=@PySem.W.cellsFrom_some
abbrev AV:=@Nat.dvd_refl
abbrev CY:=@Rat.mul_eq_zero
abbrev CZ:=@List.sum_append
abbrev C0:=@List.range_succ
abbrev C8:=@Bool.beq_eq_decide_eq
abbrev Eo:=@Nat.le_succ
abbrev Ep:=@List.replicate_succ'
abbrev Er:=@List.forIn_nil
abbrev F3:=@PySem.W.plainGet_of
abbrev F4:=@List.zipWith_append
abbrev F5:=@List.filterMap_cons
abbrev Ir:=@Int.dvd_trans
abbrev Iy:=@PySem.W.callWith_K
abbrev Iz:=@List.getElem?_drop
abbrev IA:=@List.append_of_mem
abbrev K0:=@Nat.ne_of_gt
abbrev K1:=@Nat.mul_zero
abbrev K2:=@Nat.min_self
abbrev K3:=@Nat.dvd_mul_right
abbrev K4:=@List.map_map
abbrev K5:=@Int.zero_add
abbrev K6:=@Int.dvd_refl
abbrev Mw:=@Nat.le_add_right
abbrev Mx:=@List.getElem_map
abbrev OV:=@Rat.neg_mul
abbrev OW:=@Rat.den_pos
abbrev OX:=@Nat.mul_add
abbrev OY:=@Nat.add_mul
abbrev OZ:=@Int.neg_neg
abbrev O0:=@Int.dvd_gcd
abbrev Pa:=@Rat.inv_mul_rev
abbrev Pb:=@Rat.intCast_sub
abbrev Pc:=@Nat.min_eq_left
abbrev Pd:=@List.of_mem_zip
abbrev Pe:=@List.forIn_cons
abbrev So:=@Rat.le_of_mul_le_mul_right
abbrev Sq:=@Int.ediv_pos_of_pos_of_dvd
abbrev Uo:=@PySem.F.entry_extend_loop
abbrev Uq:=@List.getElem?_zip_eq_some
abbrev Ur:=@Int.natAbs_ediv_of_nonneg
abbrev Uy:=@Rat.add_assoc
abbrev Uz:=@Option.isSome_iff_exists
abbrev UA:=@List.sum_cons
abbrev UB:=@List.getElem?_take_of_lt
abbrev VR:=@PySem.F.args_zip_next_1
abbrev LR9:=List (List Rat)
abbrev FG9:=PySem.W.Frag
namespace L2
open PySem PySem.Spec PyProof.Rows
abbrev Key:=Sum Int Str
def RN:Key->Value->Bool
 | .inl k,v=>Value.isInt k v
 | .inr x,v=>Value.isStrOf x v
def Wc (w:World):Key->Int
 | .inl k=>hashInt k
 | .inr x=>hashStr w x
theorem ia:∀{k:Key} {v:Value},RN k v=true->(∃i t,k=Sum.inl i/\v=Value.int i t)\/(∃x t,k=Sum.inr x/\v=Value.str x t)
 | .inl i,v,h=>by
  obtain t|e:=Value.isInt_shape (k:=i) (v:=v) h;exact .inl #[i,t,rfl,e]
 | .inr x,v,h=>by
  obtain t|e:=Value.isStrOf_shape (x:=x) (v:=v) h;exact .inr #[x,t,rfl,e]
theorem Tx (a b:Int):decide ((Sum.inl a:Key)=Sum.inl b)=(a == b):=by
 by_cases e:a=b
 ·subst e;simp
 ·have h:¬(Sum.inl a:Key)=Sum.inl b:=λq=>e (Sum.inl.inj q)
  rw[decide_eq_false h];exact (beq_eq_false_iff_ne.mpr e).symm
theorem Tu (a b:Str):decide ((Sum.inr a:Key)=Sum.inr b)=decide (a=b):=by
 by_cases e:a=b
 ·subst e;simp
 ·have h:¬(Sum.inr a:Key)=Sum.inr b:=λq=>e (Sum.inr.inj q)
  rw[decide_eq_false h,decide_eq_false e]
theorem Tw (a:Int) (b:Str):decide ((Sum.inl a:Key)=Sum.inr b)=false:=decide_eq_false (λq=>nomatch q)
theorem Tv (a:Str) (b:Int):decide ((Sum.inr a:Key)=Sum.inl b)=false:=decide_eq_false (λq=>nomatch q)
def Kn (prog:Program) (w:World):PySem.KeyKind prog w Key where
 is:=RN
 hash:=Wc w
 inj:=λv a b ha hb=>by
  rcases ia ha with ⟨i,t,rfl,rfl⟩ | ⟨x,t,rfl,rfl⟩
  ·rcases ia hb with ⟨j,u,rfl,e⟩ | ⟨y,u,rfl,e⟩
   ·injection e with e1 _;rw[e1]
   ·exact nomatch e
  ·rcases ia hb with ⟨j,u,rfl,e⟩ | ⟨y,u,rfl,e⟩
   ·exact nomatch e
   ·injection e with e1 _;rw[e1]
 byValue:=λk v h=>by
  rcases ia h with ⟨i,t,rfl,rfl⟩ | ⟨x,t,rfl,rfl⟩ <;> rfl
 pyHash:=λhv h=>by
  rcases ia hv with ⟨i,t,rfl,rfl⟩ | ⟨x,t,rfl,rfl⟩
  ·exact wpAny_pyHash_int h
  ·exact wpAny_pyHash_str h
 eqBool:=λhu hv h=>by
  rcases ia hu with ⟨i,t,rfl,rfl⟩ | ⟨x,t,rfl,rfl⟩
  ·rcases ia hv with ⟨j,u,rfl,rfl⟩ | ⟨y,u,rfl,rfl⟩
   ·rw[Tx] at h;exact wpAny_eqBool_int h
   ·rw[Tw] at h;exact SeqAt.EqAt.int_str i t y u _ _ _ _ h
  ·rcases ia hv with ⟨j,u,rfl,rfl⟩ | ⟨y,u,rfl,rfl⟩
   ·rw[Tv] at h;exact SeqAt.EqAt.str_int x t j u _ _ _ _ h
   ·rw[Tu] at h;exact wpAny_eqBool_str h
 «strs»:=λk x t v h=>by
  rcases ia h with ⟨i,u,rfl,e⟩ | ⟨y,u,rfl,e⟩
  ·exact nomatch e
  ·injection e with e1 _
   subst e1;cases v <;> rfl
inductive V where
  | non | bl (b : Bool) | int (i : Int) | str (x : Str) | byt (b : Array UInt8) | flt (b : UInt64) | ref (a : Addr) | ty (n : String)
  deriving DecidableEq

def RelV:V->Value->Prop
 | .non,u=>u=Value.none
 | .bl b,u=>u=Value.bool b
 | .int i,u=>∃t,u=Value.int i t
 | .str x,u=>∃t,u=Value.str x t
 | .byt b,u=>∃t,u=Value.bytes b t
 | .flt b,u=>∃t,u=Value.float b t
 | .ref a,u=>u=Value.ref a
 | .ty n,u=>u=Value.type n
abbrev di:List V->List Value->Prop:=Paired RelV
theorem di.length (r:di xs us):xs.9=us.9:=Paired.length r
theorem di.get:∀{xs:List V} {us:List Value} {i:Nat} {x:V},di xs us->xs[i]?=some x->∃u,us[i]?=some u/\RelV x u
 | _,_,_,_,.nil,e=>by simp at e
 | _,_,0,_,.cons r _,e=>by simp at e;subst e;exact #[_,rfl,r]
 | _,_,i+1,x,.cons _ t,e=>by
  obtain u|h1|h2:=di.get (i:=i) (x:=x) t (by simpa using e);exact #[u,by simpa using h1,h2]
theorem di.set {x:V} {u:Value} (r:RelV x u):∀{xs:List V} {us:List Value} (i:Nat),di xs us->di (xs.set i x) (us.set i u)
 | _,_,_,.nil=>.nil
 | _,_,0,.cons _ t=>.cons r t
 | _,_,i+1,.cons q t=>.cons q (di.set r i t)
theorem di.append:∀{xs ys:List V} {us ws:List Value},di xs us->di ys ws->di (xs++ys) (us++ws)
 | _,_,_,_,.nil,s=>s
 | _,_,_,_,.cons r t,s=>.cons r (di.append t s)
theorem di.take:∀{xs:List V} {us:List Value} (n:Nat),di xs us->di (xs.take n) (us.take n)
 | _,_,0,_=>.nil
 | _,_,_+1,.nil=>.nil
 | _,_,n+1,.cons r t=>.cons r (di.take n t)
theorem di.drop:∀{xs:List V} {us:List Value} (n:Nat),di xs us->di (xs.drop n) (us.drop n)
 | _,_,0,r=>r
 | _,_,_+1,.nil=>.nil
 | _,_,n+1,.cons _ t=>di.drop n t
def Du:Option V->Option Value->Prop
 | some v,some u=>RelV v u
 | none,none=>True
 | _,_=>False
def KV {κ:Type}:List (κ×V)->List (κ×Value)->Prop:=Paired λ(p:κ×V) (q:κ×Value)=>p.1=q.1/\RelV p.2 q.2
def kV:Key->V
 | .inl i=>.int i
 | .inr x=>.str x
inductive HO where
 | lst (xs:List V)
 | tup (xs:List V)
 | dK (kvs:List (Key×V)) | dT (kvs:List (List Key×V))
 | set (S:Int->Bool) (n:Nat)
 | ins (C dx:Addr) (fs:List (Str×V))
 | own (x:Addr)
 | xd (fs:List (Str×V))
 | met (f x:Addr)
 | rng (lo hi:Int)
 | frz (o:Obj) (u:HO)
 | tbl (ps:Array Value)
 | ext (φ:Heap->Prop)
abbrev Hp:=Addr->Option HO
def upd (H:Hp) (a:Addr) (o:HO):Hp:=λb=>if b=a then some o else H b
theorem aK:upd H a o a=some o:=by unfold upd;rw[if_pos rfl]
theorem a7 (h:b≠a):upd H a o b=H b:=by unfold upd;rw[if_neg h]
theorem fW {H:Hp} (h:H a=some o) (h':H b=none):a≠b:=by
 intro e;subst e;rw[h] at h';cases h'
section
variable (P:Program) (w:World)
def jL (H:Hp) (h:Heap) (a:Addr):HO->Prop
 | .lst xs=>xs.9<=sizeLine/\∃(its:List Value) (n:Nat),di xs its/\h.get? a=some { cls:=.type "list",data:=.seq its.toArray n }
 | .tup xs=>xs.9<=sizeLine/\∃its:List Value,di xs its/\IsTup h a its.5
 | .dK kvs=>kvs.9<=sizeLine/\(a == sysModules)=false/\∃vs,KV kvs vs/\h.DictOf (Kn P w) a vs
 | .dT kvs=>kvs.9<=sizeLine/\(a == sysModules)=false/\∃xs:List (List Key×Addr×Value),
   Paired (λ(p:List Key×V) (q:List Key×Addr×Value)=>p.1=q.1/\H q.2.1=some (.tup (p.1.map kV))/\RelV p.2 q.2.2) kvs xs /\
   ∃o es ep,h.get? a=some o/\o.ExactDict/\o.data=.dict es ep/\es.toList=xs.map (entryOfKey (tupleKind (Kn P w)))/\(xs.map (·.1)).Nodup
 | .set S n=>h.SetOf (intKind P w) a S n
 | .ins C dx fs=>H dx=some (.own a)/\fs.9<=1000/\dx≠a/\h.get? a=some (PySem.W.instObj C dx) /\
   ∃mA,h.Ns1 dx mA/\(∀f,Du (fs.lookup f) (mA f))/\PySem.Within mA (fs.map (·.1))
 | .own _=>∃o,h.get? a=some o
 | .xd fs=>∃mA,h.Ns1 a mA/\∀f,Du (fs.lookup f) (mA f)
 | .rng lo hi=>∃t u v,h.get? a=some { cls:=.type "range",data:=.fields [.int lo t,.int hi u,.int 1 v].toArray }
 | .frz o u=>h.get? a=some o/\jL H h a u
 | .tbl ps=>h.get? a=some { cls:=.none,data:=.fields ps }
 | .met f x=>h.get? a=some (PySem.W.methodObj (.ref f) (.ref x))
 | .ext φ=>φ h/\(∃o,h.get? a=some o)/\∀h1 h2:Heap,φ h1->(∀o,h1.get? a=some o->h2.get? a=some o)->φ h2
def AQ (H:Hp) (h:Heap):Prop:=∀a o,H a=some o->jL P w H h a o
end
section
variable {P:Program} {w:World} {H H':Hp} {h h':Heap} {a:Addr} {o:HO}
theorem jL.lt (x:jL P w H h a o):a < h.objs.7:=by
 cases o with
 | lst xs=>obtain _|_|_|_|e:=x;exact Heap.lt_size e
 | tup xs=>obtain _|_|_|p:=x;exact p.lt
 | dK kvs=>obtain _|_|_|_|o|_|_|e|_:=x;exact Heap.lt_size e
 | dT kvs=>obtain _|_|_|_|o|_|_|e|_:=x;exact Heap.lt_size e
 | set S n=>obtain o|_|_|_|e|_:=x;exact Heap.lt_size e
 | ins C dx fs=>obtain _|_|_|e|_:=x;exact Heap.lt_size e
 | own y=>obtain _|e:=x;exact Heap.lt_size e
 | xd fs=>obtain _|⟨_,_,_,e,_⟩|_:=x;exact Heap.lt_size e
 | rng lo hi=>obtain _|_|_|e:=x;exact Heap.lt_size e
 | frz ob u=>obtain e|_:=x;exact Heap.lt_size e
 | tbl ps=>exact Heap.lt_size (show h.get? a=some _ from x)
 | met f y=>exact Heap.lt_size (show h.get? a=some _ from x)
 | ext φ=>obtain _|⟨_,e⟩|_:=x;exact Heap.lt_size e
theorem Paired.mapP {α β:Type} {F G:α->β->Prop}:∀{l₁:List α} {l₂:List β},Paired F l₁ l₂->(∀a b,F a b->G a b)->Paired G l₁ l₂
 | _,_,.nil,_=>.nil
 | _,_,.cons r t,f=>.cons (f _ _ r) (Paired.mapP t f)
theorem Paired.imp' {F G:α->β->Prop} (f:∀a b,F a b->G a b) {l₁:List α} {l₂:List β} (r:Paired F l₁ l₂):Paired G l₁ l₂:=Paired.mapP r f
theorem jL.stay (x:jL P w H h a o) (k:∀b u,(b=a\/H b=some (.own a))->h.get? b=some u->h'.get? b=some u)
  (ho:∀b,H b=some (.own a)->H' b=some (.own a)) (ht:∀b xs,H b=some (.tup xs)->H' b=some (.tup xs)):jL P w H' h' a o:=by
 induction o with
 | lst xs=>obtain z|its|n|r|e:=x;exact #[z,its,n,r,k _ _ (.inl rfl) e]
 | tup xs=>obtain z|its|r|ob|e|c:=x;exact #[z,its,r,ob,k _ _ (.inl rfl) e,c]
 | dK kvs=>obtain z|y|vs|r|ob|es|ep|e|c:=x;exact #[z,y,vs,r,ob,es,ep,k _ _ (.inl rfl) e,c]
 | dT kvs =>
  obtain z|y|xs|r|ob|es|ep|e|c:=x;exact #[z,y,xs,Paired.mapP r λp q z=>#[z.1,ht _ _ z.2.1,z.2.2],ob,es,ep,k _ _ (.inl rfl) e,c]
 | set S n=>obtain ob|es|ep|t|e|c:=x;exact #[ob,es,ep,t,k _ _ (.inl rfl) e,c]
 | ins C dx fs =>
  obtain d|z|ne|e|mA|⟨od,es,ep,e2,c⟩|r:=x;exact #[ho _ d,z,ne,k _ _ (.inl rfl) e,mA,#[od,es,ep,k _ _ (.inr d) e2,c],r]
 | own y=>obtain ob|e:=x;exact #[ob,k _ _ (.inl rfl) e]
 | xd fs=>obtain mA|⟨od,es,ep,e,c⟩|r:=x;exact #[mA,#[od,es,ep,k _ _ (.inl rfl) e,c],r]
 | rng lo hi=>obtain t|u|v|e:=x;exact #[t,u,v,k _ _ (.inl rfl) e]
 | frz ob u ih=>obtain e|q:=x;exact #[k _ _ (.inl rfl) e,ih q]
 | tbl ps =>
  have e:h.get? a=some { cls:=.none,data:=.fields ps }:=x;show h'.get? a=some { cls:=.none,data:=.fields ps }
  exact k a _ (.inl rfl) e
 | met f y =>
  have e:h.get? a=some (PySem.W.methodObj (.ref f) (.ref y)):=x;show h'.get? a=some (PySem.W.methodObj (.ref f) (.ref y))
  exact k a _ (.inl rfl) e
 | ext φ=>obtain p|⟨o,e⟩|st:=x;exact #[st _ _ p λo q=>k _ _ (.inl rfl) q,#[o,k _ _ (.inl rfl) e],st]
theorem AQ.lt (x:AQ P w H h) (e:H a=some o):a < h.objs.7:=(x a o e).lt
theorem AQ.fresh (x:AQ P w H h) (e:h.objs.7<=a):H a=none:=by
 cases q:H a with
 | none=>rfl
 | some u=>exact absurd (bx (x.lt q) e) (gQ _)
theorem AQ.kept (x:AQ P w H h) (k:∀b u,h.get? b=some u->h'.get? b=some u):AQ P w H h':=λa o e =>
 (x a o e).stay (λb u _ q=>k b u q) (λ_ q=>q) λ_ _ q=>q
theorem AQ.laid (x:AQ P w H h) (k:∀b u,h.get? b=some u->h'.get? b=some u) (hp:h.objs.7<=a) (new:jL P w (upd H a o) h' a o):AQ P w (upd H a o) h':=λb u e=>by
 have hn:=x.fresh hp;by_cases hb:b=a
 ·subst hb;rw[aK] at e;cases e;exact new
 ·rw[a7 hb] at e;exact (x b u e).stay (λc v _ q=>k c v q) (λc q=>by rw[a7 (fW q hn)];exact q) λc xs q=>by rw[a7 (fW q hn)];exact q
end
def Rd (H:Hp) (a:Addr) (u:HO):Prop:=H a=some u\/∃o,H a=some (.frz o u)
theorem Rd.ok (r:Rd H a u) (x:AQ P w H h):jL P w H h a u:=by
 rcases r with r | ⟨o,r⟩
 ·exact x a u r
 ·obtain _|q:=x a _ r;exact q
def VX:Option HO->Prop
 | some (.lst _)=>True
 | some (.dK _)=>True
 | some (.dT _)=>True
 | some (.set _ _)=>True
 | some (.ins _ _ _)=>True
 | some (.ext _)=>True
 | _=>False
section
variable {P:Program} {w:World} {H:Hp} {h h':Heap} {x e:Addr} {o':HO}
theorem AQ.write (ok:AQ P w H h) (mu:VX (H x)) (he:e=x\/H e=some (.own x)) (k:∀b u,b≠e->h.get? b=some u->h'.get? b=some u) (heo:∃u,h'.get? e=some u)
  (new:jL P w (upd H x o') h' x o'):AQ P w (upd H x o') h':=λb u q=>by
 have nown:∀c y,H c=some (.own y)->c≠x:=λc y r z=>by subst z;rw[r] at mu;exact mu
 have ntup:∀c xs,H c=some (.tup xs)->c≠x:=λc xs r z=>by subst z;rw[r] at mu;exact mu
 by_cases hb:b=x
 ·subst hb;rw[aK] at q;cases q;exact new
 ·rw[a7 hb] at q;by_cases hbe:b=e
  ·have q':H b=some (.own x):=by
    rcases he with z | z
    ·exact absurd (hbe.trans z) hb
    ·rw[hbe];exact z
   rw[q] at q';cases q';obtain v|hv:=heo;exact #[v,by rw[hbe];exact hv]
  ·refine (ok b u q).stay (λc v hc r=>k c v ?_ r) (λc r=>by rw[a7 (nown c b r)];exact r) λc xs r=>by rw[a7 (ntup c xs r)];exact r
   rcases hc with rfl | hc
   ·exact hbe
   ·rintro rfl;rcases he with z | z
    ·exact nown c b hc z
    ·rw[hc] at z;cases z;exact hb rfl
end
structure Un (fs ex:List Addr) (H H':Hp) (h h':Heap):Prop where
 keep:∀b o,h.get? b=some o->H b=none->b∉fs->b∉ex->h'.get? b=some o
 slot:∀b o,h.get? b=some o->H b=none->b∈fs->b∉ex->∃sl,h'.get? b=some { o with slots:=sl }
 free:∀b o,h.get? b=some o->H b=none->b∉ex->H' b=none
 there:∀b o,h.get? b=some o->b∉ex->∃o',h'.get? b=some o'
 tups:∀b xs,H b=some (.tup xs)->H' b=some (.tup xs)
 frzs:∀b o u,H b=some (.frz o u)->H' b=some (.frz o u)
 tbls:∀b ps,H b=some (.tbl ps)->∃more,H' b=some (.tbl (ps++more))
section
variable {fs fs' ex ex':List Addr} {H H1 H2:Hp} {h h1 h2 h':Heap} {a x e:Addr} {o:HO}
theorem Un.any (u:Un fs ex H H1 h h1) (q:h.get? b=some ob) (n:H b=none) (hx:b∉ex):∃sl,h1.get? b=some { ob with slots:=sl }:=by
 by_cases hb:b∈fs
 ·exact u.slot b ob q n hb hx
 ·exact #[ob.slots,u.keep b ob q n hb hx]
theorem Un.kept (k:∀b u,h.get? b=some u->h'.get? b=some u):Un fs ex H H h h' :=
 #[λb ob q _ _ _=>k b ob q,λb ob q _ _ _=>#[ob.slots,k b ob q],λ_ _ _ n _=>n,λb ob q _=>#[ob,k b ob q],λ_ _ q=>q,λ_ _ _ q=>q,λ_ ps q=>#[[].toArray,by rw[q];simp]]
theorem Un.refl:Un fs ex H H h h:=Un.kept λ_ _ q=>q
theorem Un.laid (k:∀b u,h.get? b=some u->h'.get? b=some u) (hp:h.objs.7<=a) (hn:H a=none):Un fs ex H (upd H a o) h h' where
 keep:=λb u q _ _ _=>k b u q
 slot:=λb u q _ _ _=>#[u.slots,k b u q]
 free:=λb u q n _=>by rw[a7 (cT (bx (Heap.lt_size q) hp))];exact n
 there:=λb u q _=>#[u,k b u q]
 tups:=λb xs q=>by rw[a7 (fW q hn)];exact q
 frzs:=λb u xs q=>by rw[a7 (fW q hn)];exact q
 tbls:=λb ps q=>#[[].toArray,by rw[a7 (fW q hn),q];simp]
theorem Un.write (mu:VX (H x)) (he:e=x\/H e=some (.own x)) (k:∀b u,b≠e->h.get? b=some u->h'.get? b=some u) (heo:∃u,h'.get? e=some u):Un fs ex H (upd H x o) h h':=by
 have hx:∀b,H b=none->b≠x:=λb n z=>by subst z;rw[n] at mu;exact mu
 have hb:∀b,H b=none->b≠e:=λb n z=>by
  subst z;rcases he with r | r
  ·exact hx b n r
  ·rw[n] at r;cases r
 have hm:∀b u,H b=some u->¬VX (some u)->b≠x:=λb u q nm z=>by subst z;rw[q] at mu;exact nm mu
 refine #[λb u q n _ _=>k b u (hb b n) q,λb u q n _ _=>#[u.slots,k b u (hb b n) q],λb u q n _=>by rw[a7 (hx b n)];exact n,λb u q _=>?_,
  λb xs q=>by rw[a7 (hm b _ q λz=>z)];exact q,λb u xs q=>by rw[a7 (hm b _ q λz=>z)];exact q,λb ps q=>#[[].toArray,by rw[a7 (hm b _ q λz=>z),q];simp]]
 by_cases hbe:b=e
 ·subst hbe;exact heo
 ·exact #[u,k b u hbe q]
end
def VS (h:Heap) (H:Hp):List Addr:=(List.range h.objs.7).filter λa=>(H a).isSome
def Fq (h:Heap) (H:Hp):Heap:=PySem.W.hideAll h (VS h H)
theorem LR (h:Heap) (H:Hp):(Fq h H).objs.size=h.objs.7:=PySem.W.hideAll_size _ _
theorem Od (e:h.get? b=some o) (n:H b=none):(Fq h H).get? b=some o :=
 PySem.W.hideAll_get _ e λhm=>by
  have q:(H b).isSome=true:=(List.mem_filter.mp hm).2;rw[n] at q;simp at q
theorem Qq (e:(Fq h H).get? b=some o):h.get? b=some o/\H b=none:=by
 have e':h.get? b=some o:=PySem.W.of_hideAll (VS h H) e;refine #[e',?_];cases q:H b with
 | none=>rfl
 | some x =>
  have hm:b∈VS h H:=List.mem_filter.mpr #[gV.mpr (Heap.lt_size e'),by simp [q]];have z:(Fq h H).get? b=none:=PySem.W.hideAll_none (VS h H) hm;rw[z] at e;cases e
structure Mod (K:FG9) (mg:Str->Option Value) (base:Heap):Prop where
 kin:K.In base
 glob:base.Ns mainGlobals mg
 blt:∃mb,base.Ns builtinsNs mb/\∀x:Str,x≠"__name__"->mb x=bootBuiltins x
 nolimit:base.NoLimit
 seer:base.NoSeer
structure Cx where
 prog:Program
 w:World
 K:FG9
 mg:Str->Option Value
 base:Heap
 A:Around
 N:List Str
 s₀:Shared
 H₀:Hp
 env:Env
 outer:List Env
 stack:List Env
 ex:List Addr
 fn:Str->Bool
 calm:Bool
 pn:List (Addr×Obj)
 xe:Value->Shared->Prop
def Mr (l:List Env):List Addr:=l.filterMap (·.frame)
abbrev Cx.fs (X:Cx):List Addr:=Mr X.outer
def Wi (sc:Scope) (x:Str):Prop:=sc.names.lookup x=some .local\/sc.names.lookup x=some .cell\/sc.names.lookup x=some .free
def Loc (sc:Scope) (x:Str):Prop:=sc.names.lookup x=some .local\/sc.names.lookup x=some .cell
def Look (env:Env) (h:Heap) (m:Str->Option Value) (x:Str) (u:Value):Prop :=
 (env.kindOf x=some .local/\m x=some u)\/((env.kindOf x=some .cell\/env.kindOf x=some .free)/\∃c,env.cells.lookup x=some c/\h.IsCell c (some u))
structure Cx.Ok (X:Cx):Prop where
 mod:Mod X.K X.mg X.base
 kind:X.env.scope.kind=.function
 glob:X.env.globals=mainGlobals
 blt:X.env.builtins=builtinsNs
 above:X.s₀.6<=X.env.locals
 inj:∀x y c,X.env.cells.lookup x=some c->X.env.cells.lookup y=some c->x=y
 has:∀x,(X.env.kindOf x=some .cell\/X.env.kindOf x=some .free)->∃c,X.env.cells.lookup x=some c
 cab:∀x c,X.fn x=true->X.env.cells.lookup x=some c->X.s₀.6<=c
 hd:X.calm=true->X.A.handled=none
 frames:X.A.frames=some X.stack
 stk:X.stack=X.outer\/(X.stack=X.env :: X.outer/\X.env.frame=some X.env.locals)
 exf:∀b∈X.ex,b≠X.env.locals/\∀x c,X.env.cells.lookup x=some c->c≠b
 bs:∀b o,X.base.get? b=some o->X.s₀.heap.get? b=some o/\X.H₀ b=none
 bsz:X.base.objs.7<=X.s₀.heap.objs.size
 noex:∀b o,X.base.get? b=some o->b∉X.ex
 exfs:∀b∈X.ex,b∉X.fs
 funs:X.s₀.heap.FunFrames X.base X.outer
 frf:∀b∈X.fs,X.H₀ b=none
structure Inv (X:Cx) (pins:List (Addr×Obj)) (σ:List (Option V)) (H:Hp) (s:Shared):Prop where
 ok:X.Ok
 os:s.os=X.s₀.os
 bare:AllBare s.gens
 base:Un X.fs X.ex X.H₀ H X.s₀.heap s.heap
 loc:∃m,s.heap.Ns X.env.locals m/\∀(i:Nat) (x:Str) (v:V),X.N[i]?=some x->σ[i]?=some (some v)->Wi X.env.scope x->∃u,RelV v u/\Look X.env s.heap m x u
 cell:∀x c,X.env.cells.lookup x=some c->∃v,s.heap.IsCell c v
 free:H X.env.locals=none
 freeC:∀x c,X.env.cells.lookup x=some c->H c=none
 pin:∀p∈X.pn++pins,s.heap.get? p.1=some p.2/\H p.1=none/\p.1≠X.env.locals/\p.1∉X.fs/\∀v,p.2.data≠.cell v
 hok:AQ X.prog X.w H s.heap
 len:σ.9=X.N.9
section
variable {X:Cx} {pins:List (Addr×Obj)} {σ:List (Option V)} {H H':Hp} {s:Shared} {h':Heap}
theorem Cx.Ok.nofr (ok:X.Ok) (e:X.base.get? b=some o):b∉X.fs:=λhb=>by
 have:=(ok.funs.mem hb).1;rw[e] at this;cases this
theorem Inv.bs (I:Inv X pins σ H s):∀b o,X.base.get? b=some o->s.heap.get? b=some o/\H b=none:=λb o e =>
 #[I.base.keep b o (I.ok.bs b o e).1 (I.ok.bs b o e).2 (I.ok.nofr e) (I.ok.noex b o e),I.base.free b o (I.ok.bs b o e).1 (I.ok.bs b o e).2 (I.ok.noex b o e)]
theorem Inv.bk (I:Inv X pins σ H s):∀b o,X.base.get? b=some o->s.heap.get? b=some o:=λb o e=>(I.bs b o e).1
theorem Inv.mod (I:Inv X pins σ H s):Mod X.K X.mg X.base:=I.ok.mod
theorem Inv.kIn (I:Inv X pins σ H s):X.K.In s.8:=I.ok.mod.kin.keeps I.bk
theorem Inv.nolimit (I:Inv X pins σ H s):s.heap.NoLimit:=I.ok.mod.nolimit.keeps I.bk
theorem Inv.lt (I:Inv X pins σ H s):X.env.locals < s.6:=let ⟨_,hn,_⟩:=I.loc;hn.lt
theorem Inv.sz (I:Inv X pins σ H s):X.s₀.6<=s.6:=aj I.ok.above (aL I.lt)
theorem Inv.nofs (I:Inv X pins σ H s) {a:Addr} (h:s.6<=a):a∉X.fs:=λhb=>by
 obtain _|o|ho|_:=I.ok.funs.mem hb;exact absurd (bx (Heap.lt_size ho) (aj I.sz h)) (gQ _)
theorem Inv.cne (I:Inv X pins σ H s):∀x c,X.env.cells.lookup x=some c->c≠X.env.locals:=λx c e z=>by
 obtain v|o|ho|hd:=I.cell x c e;obtain m|⟨o',es,ep,ho',hd',_⟩|_:=I.loc;rw[z,ho'] at ho;cases ho;rw[hd'] at hd;cases hd
theorem Inv.funs (I:Inv X pins σ H s):s.heap.FunFrames X.base X.outer:=by
 have all:∀(l:List Env),(∀b∈Mr l,b∈X.fs)->X.s₀.heap.FunFrames X.base l->s.heap.FunFrames X.base l:=by
  intro l
  induction l with
  | nil=>intro _ _;trivial
  | cons env r ih =>
   intro hs hl;obtain hk|⟨L,o,hf,hn,ho,hd⟩|hr:=hl;have hL:L∈X.fs:=hs L (by unfold Mr;rw[F5,hf];exact dE);obtain sl|e:=I.base.slot L o ho (I.ok.frf L hL) hL λz=>I.ok.exfs L z hL
   exact #[hk,#[L,_,hf,hn,e,hd],ih (λb hb=>hs b (by unfold Mr;rw[F5,hf];exact bR _ hb)) hr]
 exact all X.outer (λ_ hb=>hb) I.ok.funs
theorem Inv.stack (I:Inv X pins σ H s):s.heap.FunFrames X.base X.stack:=by
 rcases I.ok.stk with e | ⟨e,hf⟩
 ·rw[e];exact I.funs
 ·rw[e];obtain m|hn|_:=I.loc;refine .cons (by rw[I.ok.kind];decide) hf hn ?_ I.funs;exact Heap.get?_none_of_le (aj I.ok.bsz I.ok.above)
theorem Inv.stkSub (I:Inv X pins σ H s):∀b∈Mr X.stack,b∈X.env.locals :: X.fs:=λb hb=>by
 rcases I.ok.stk with e | ⟨e,hf⟩
 ·rw[e] at hb;exact bR _ hb
 ·rw[e] at hb;unfold Mr at hb;rw[F5,hf] at hb;exact hb
theorem Inv.stkFree (I:Inv X pins σ H s):∀b∈Mr X.stack,H b=none:=λb hb=>by
 rcases aI.mp (I.stkSub b hb) with e | hb
 ·rw[e];exact I.free
 ·obtain _|o|ho|_:=I.ok.funs.mem hb;exact I.base.free b o ho (I.ok.frf b hb) λz=>I.ok.exfs b z hb
theorem Inv.step {ch:List Addr} (I:Inv X pins σ H s)
  (hch:∀b∈ch,(b∈X.ex\/X.s₀.6<=b)/\b≠X.env.locals/\(∀x c,X.env.cells.lookup x=some c->c≠b)/\∀p∈X.pn++pins,p.1≠b)
  (keep:∀b o,b≠X.env.locals->b∉X.fs->b∉ch->s.heap.get? b=some o->H b=none->h'.get? b=some o)
  (slot:∀b o,b≠X.env.locals->b∈X.fs->b∉ch->s.heap.get? b=some o->H b=none->∃sl,h'.get? b=some { o with slots:=sl }) (free:∀b o,b∉ch->s.heap.get? b=some o->H b=none->H' b=none)
  (there:∀b o,b∉ch->s.heap.get? b=some o->∃o',h'.get? b=some o')
  (tups:∀b xs,H b=some (.tup xs)->H' b=some (.tup xs)) (frzs:∀b o u,H b=some (.frz o u)->H' b=some (.frz o u)) (tbls:∀b ps,H b=some (.tbl ps)->∃more,H' b=some (.tbl (ps++more)))
  (ns:∀m,s.heap.Ns X.env.locals m->h'.Ns X.env.locals m) (hok:AQ X.prog X.w H' h') (hg:AllBare g') :
  Inv X pins σ H' { s with heap:=h',gens:=g',drawn:=d',toks:=t' }:=by
 have neL:∀b o,X.s₀.heap.get? b=some o->b≠X.env.locals:=λb o e=>cT (bx (Heap.lt_size e) I.ok.above)
 have neC:∀b o,X.s₀.heap.get? b=some o->b∉X.ex->b∉ch:=λb o e hx hb=>by
  rcases (hch b hb).1 with z | z
  ·exact hx z
  ·exact absurd (bx (Heap.lt_size e) z) (gQ _)
 have cellK:∀x c,X.env.cells.lookup x=some c->∀v,s.heap.IsCell c v->h'.IsCell c v:=λx c e v #[o,ho,hd]=>by
  have nch:c∉ch:=λz=>(hch c z).2.2.1 x c e rfl
  by_cases hc:c∈X.fs
  ·obtain sl|q:=slot c o (I.cne x c e) hc nch ho (I.freeC x c e);exact #[_,q,hd]
  ·exact #[o,keep c o (I.cne x c e) hc nch ho (I.freeC x c e),hd]
 refine #[I.ok,I.os,hg,#[λb o e n hb hx=>?_,λb o e n hb hx=>?_,λb o e n hx=>?_,λb o e hx=>?_,λb xs e=>tups b xs (I.base.tups b xs e),λb o xs e=>frzs b o xs (I.base.frzs b o xs e),λb ps e=>?_],?_,λx c e=>?_,?_,λx c e=>?_,λp hp=>?_,hok,I.len]
 ·exact keep b o (neL b o e) hb (neC b o e hx) (I.base.keep b o e n hb hx) (I.base.free b o e n hx)
 ·obtain sl|e1:=I.base.slot b o e n hb hx;obtain sl'|e2:=slot b _ (neL b o e) hb (neC b o e hx) e1 (I.base.free b o e n hx);exact #[sl',e2]
 ·obtain o'|e1:=I.base.there b o e hx;exact free b o' (neC b o e hx) e1 (I.base.free b o e n hx)
 ·obtain o'|e1:=I.base.there b o e hx;exact there b o' (neC b o e hx) e1
 ·obtain m1|e1:=I.base.tbls b ps e;obtain m2|e2:=tbls b _ e1;exact #[m1++m2,by rw[e2,Array.append_assoc]]
 ·obtain m|hn|hl:=I.loc;refine #[m,ns m hn,λi x v e1 e2 e3=>?_];obtain u|r|l:=hl i x v e1 e2 e3;refine #[u,r,?_];rcases l with l | ⟨k,c,e,z⟩
  ·exact .inl l
  ·exact .inr #[k,c,e,cellK x c e _ z]
 ·obtain v|z:=I.cell x c e;exact #[v,cellK x c e v z]
 ·obtain m|⟨o,_,_,ho,_⟩|_:=I.loc;exact free _ o (λz=>(hch _ z).2.1 rfl) ho I.free
 ·obtain v|o|ho|hd:=I.cell x c e;exact free c o (λz=>(hch c z).2.2.1 x c e rfl) ho (I.freeC x c e)
 ·obtain e|n|ne|nf|d:=I.pin p hp;have nch:p.1∉ch:=λz=>(hch p.1 z).2.2.2 p hp rfl
  exact #[keep p.1 p.2 ne nf nch e n,free p.1 p.2 nch e n,ne,nf,d]
theorem Inv.un (I:Inv X pins σ H s) (u:Un X.fs [] H H' s.heap h') (hok:AQ X.prog X.w H' h'):Inv X pins σ H' { s with heap:=h',toks:=t' }:=by
 obtain m|⟨o,es,ep,ho,r⟩|_:=id I.loc;obtain sl|hL:=u.any ho I.free (by simp)
 exact I.step (g':=s.gens) (d':=s.drawn) (ch:=[]) (λ_ z=>nomatch z) (λb o _ hb _ e n=>u.keep b o e n hb (by simp)) (λb o _ hb _ e n=>u.slot b o e n hb (by simp)) (λb o _ e n=>u.free b o e n (by simp)) (λb o _ e=>u.there b o e (by simp)) u.tups u.frzs u.tbls (λm' hm=>by
  obtain o'|es'|ep'|ho'|r':=hm;rw[ho] at ho';cases ho';exact #[_,es',ep',hL,r']) hok I.bare
theorem Inv.call (I:Inv X pins σ H s) (u:Un (Mr X.stack) ch H H' s.heap h') (hok:AQ X.prog X.w H' h') (hg:AllBare g')
  (hch:∀b∈ch,(b∈X.ex\/X.s₀.6<=b)/\b≠X.env.locals/\(∀x c,X.env.cells.lookup x=some c->c≠b)/\∀p∈X.pn++pins,p.1≠b) :
  Inv X pins σ H' { s with heap:=h',gens:=g',drawn:=d',toks:=t' }:=by
 obtain m|⟨o,es,ep,ho,r⟩|_:=id I.loc;obtain sl|hL:=u.any ho I.free λz=>(hch _ z).2.1 rfl
 exact I.step (ch:=ch) hch (λb o hL hb hc e n=>u.keep b o e n (λz=>(aI.mp (I.stkSub b z)).elim hL hb) hc) (λb o _ _ hc e n=>u.any e n hc) (λb o hc e n=>u.free b o e n hc) (λb o hc e=>u.there b o e hc) u.tups u.frzs u.tbls (λm' hm=>by
  obtain o'|es'|ep'|ho'|r':=hm;rw[ho] at ho';cases ho';exact #[_,es',ep',hL,r']) hok hg
theorem Inv.turned (I:Inv X pins σ H s) (k:∀b o,b≠it->s.heap.get? b=some o->h'.get? b=some o) (hn:H it=none) (hL:it≠X.env.locals)
  (h1:it∈X.ex\/X.s₀.6<=it) (h2:∀x c,X.env.cells.lookup x=some c->c≠it) (h3:∀p∈X.pn++pins,p.1≠it):Inv X pins σ H { s with heap:=h',toks:=t' }:=by
 have nit:∀b u,H b=some u->b≠it:=λb u e z=>by rw[z,hn] at e;cases e
 refine I.step (g':=s.gens) (d':=s.drawn) (ch:=[it]) (λb hb=>?_) (λb o _ _ hc e _=>k b o (λz=>hc (by simp [z])) e) (λb o _ _ hc e _=>#[o.slots,k b o (λz=>hc (by simp [z])) e]) (λ_ _ _ _ n=>n)
  (λb o hc e=>#[o,k b o (λz=>hc (by simp [z])) e]) (λ_ _ e=>e) (λ_ _ _ e=>e) (λb ps e=>#[[].toArray,by rw[e];simp]) (λm hm=>?_) (λb u e=>?_) I.bare
 ·have e:b=it:=by simpa using hb
  subst e;exact #[h1,hL,h2,h3]
 ·obtain o|es|ep|ho|r:=hm;exact #[o,es,ep,k _ o (Ne.symm hL) ho,r]
 ·refine (I.hok b u e).stay (λc v hc q=>k c v ?_ q) (λ_ q=>q) λ_ _ q=>q
  rcases hc with z | z
  ·rw[z];exact nit b u e
  ·exact nit c _ z
theorem Inv.tok (I:Inv X pins σ H s) (t:Nat):Inv X pins σ H { s with toks:=t }:=I.un (h':=s.8) (t':=t) Un.refl I.hok
theorem Inv.kept (I:Inv X pins σ H s) (k:∀b u,s.heap.get? b=some u->h'.get? b=some u):Inv X pins σ H { s with heap:=h',toks:=t' }:=I.un (Un.kept k) (I.hok.kept k)
theorem Inv.laid {a:Addr} (I:Inv X pins σ H s) (k:∀b u,s.heap.get? b=some u->h'.get? b=some u) (hp:s.6<=a) (new:jL X.prog X.w (upd H a o) h' a o) :
  Inv X pins σ (upd H a o) { s with heap:=h',toks:=t' }:=I.un (Un.laid k hp (I.hok.fresh hp)) (I.hok.laid k hp new)
theorem Inv.write (I:Inv X pins σ H s) (mu:VX (H x)) (he:e=x\/H e=some (.own x)) (k:∀b u,b≠e->s.heap.get? b=some u->h'.get? b=some u) (heo:∃u,h'.get? e=some u)
  (new:jL X.prog X.w (upd H x o) h' x o):Inv X pins σ (upd H x o) { s with heap:=h',toks:=t' }:=I.un (Un.write mu he k heo) (I.hok.write mu he k heo new)
theorem Inv.pins_of (I:Inv X pins σ H s) (h:∀p∈pins',s.heap.get? p.1=some p.2/\H p.1=none/\p.1≠X.env.locals/\p.1∉X.fs/\∀v,p.2.data≠.cell v):Inv X pins' σ H s :=
 #[I.ok,I.os,I.bare,I.base,I.loc,I.cell,I.free,I.freeC,λp hp=>(aw.mp hp).elim (λz=>I.pin p (lD _ z)) (h p),I.hok,I.len]
theorem Ho {N:List Str} (hN:N.Nodup) {i j:Nat} (a:N[i]?=some x) (b:N[j]?=some x):i=j:=by
 obtain h1|e1:=aR.mp a;obtain h2|e2:=aR.mp b;exact (List.getElem_inj hN).mp (e1.trans e2.symm)
theorem DF {M:Model} {A:Around} {E:Value->Shared->Prop} {i:Nat} {x:Str} {v:V} {u:Value} {Q:Unit->Shared->Prop} (I:Inv X pins σ H s) (hN:X.N.Nodup) (hi:X.N[i]?=some x) (hx:Loc X.env.scope x) (r:RelV v u)
  (h:∀s',Inv X pins (σ.set i (some v)) H s'->(∃a,Heap.SameBut a s.heap s'.8/\(a=X.env.locals\/X.env.cells.lookup x=some a))->Q .unit s') (hf:X.fn x=true\/X.env.scope.names.lookup x=some .local:=by first | exact .inl rfl | exact .inr rfl | assumption):wpAny M A (storeName X.env x u) Q E s:=by
 obtain m|hn|hl:=id I.loc;have hcls:(X.env.scope.kind == .class || (X.env.scope.kind == .module && X.env.locals != X.env.globals))=false:=by rw[I.ok.kind];rfl
 have hiσ:i < σ.9:=by rw[I.len];exact (aR.mp hi).1
 have cne:=I.cne
 have tracked:∀{a:Addr} {h':Heap},(∃o,s.heap.get? a=some o/\H a=none)->Heap.SameBut a s.heap h'->AQ X.prog X.w H h':=λ{a h'} ha hs b ob e=>by
  obtain _|_|hfree:=ha;refine (I.hok b ob e).stay (λc w' hc q=>(hs.2 c ?_).trans q) (λ_ q=>q) λ_ _ q=>q
  rintro rfl;rcases hc with rfl | hc
  ·rw[hfree] at e;cases e
  ·rw[hfree] at hc;cases hc
 rcases hx with hk | hk
 ·refine wpAny_storeName_local hk hn (λh' hn' hs=>?_) hcls;obtain oL|_|_|hoL|_:=id hn;refine h _ #[I.ok,I.os,I.bare,#[λb o e n hb hx=>?_,λb o e n hb hx=>?_,I.base.free,λb o e hx=>?_,I.base.tups,I.base.frzs,I.base.tbls],#[_,hn',λj y v' e1 e2 e3=>?_],λy c e=>?_,I.free,I.freeC,λp hp=>?_,tracked #[oL,hoL,I.free] hs,by simpa using I.len] #[_,hs,.inl rfl]
  ·exact (hs.2 b (cT (bx (Heap.lt_size e) I.ok.above))).trans (I.base.keep b o e n hb hx)
  ·obtain sl|e1:=I.base.slot b o e n hb hx;exact #[sl,(hs.2 b (cT (bx (Heap.lt_size e) I.ok.above))).trans e1]
  ·obtain o'|e1:=I.base.there b o e hx;exact #[o',(hs.2 b (cT (bx (Heap.lt_size e) I.ok.above))).trans e1]
  ·by_cases hj:j=i
   ·subst hj;rw[hi] at e1;cases e1;rw[List.getElem?_set_self hiσ] at e2;cases e2;exact #[u,r,.inl #[hk,by simp]]
   ·rw[List.getElem?_set_ne (Ne.symm hj)] at e2;obtain u'|r'|q:=hl j y v' e1 e2 e3;refine #[u',r',?_];rcases q with ⟨k,e⟩ | ⟨k,c,e,z⟩
    ·refine .inl #[k,?_];have:y≠x:=λe=>hj (Ho hN e1 (e ▸ hi))
     simp [this,e]
    ·exact .inr #[k,c,e,z.sameBut hs (cne y c e)]
  ·obtain w'|z:=I.cell y c e;exact #[w',z.sameBut hs (cne y c e)]
  ·obtain e|n|ne|nf|d:=I.pin p hp;exact #[(hs.2 p.1 ne).trans e,n,ne,nf,d]
 ·have hfn:X.fn x=true:=by
   rcases hf with z | z
   ·exact z
   ·rw[z] at hk;cases hk
  obtain c|hc:=I.ok.has x (.inl hk);obtain w'|z:=I.cell x c hc;refine wpAny_storeName_cell I.ok.kind hk hc z (λh' hc' hs=>?_);obtain oc|hoc|hocd:=id z;refine h { s with heap:=h' } ⟨I.ok,I.os,I.bare,⟨λb o e n hb hx=>?_,λb o e n hb hx=>?_,I.base.free,λb o e hx=>?_,I.base.tups,I.base.frzs,I.base.tbls⟩,#[m,hn.sameBut hs (Ne.symm (cne x c hc)),λj y v' e1 e2 e3=>?_],λy c' e=>?_,I.free,I.freeC,λp hp=>?_,tracked #[oc,hoc,I.freeC x c hc] hs,by simpa using I.len⟩ #[c,hs,.inr hc]
  ·exact (hs.2 b (cT (bx (Heap.lt_size e) (I.ok.cab x c hfn hc)))).trans (I.base.keep b o e n hb hx)
  ·obtain sl|e1:=I.base.slot b o e n hb hx;exact #[sl,(hs.2 b (cT (bx (Heap.lt_size e) (I.ok.cab x c hfn hc)))).trans e1]
  ·obtain o'|e1:=I.base.there b o e hx;exact #[o',(hs.2 b (cT (bx (Heap.lt_size e) (I.ok.cab x c hfn hc)))).trans e1]
  ·by_cases hj:j=i
   ·subst hj;rw[hi] at e1;cases e1;rw[List.getElem?_set_self hiσ] at e2;cases e2;exact #[u,r,.inr #[.inl hk,c,hc,hc']]
   ·rw[List.getElem?_set_ne (Ne.symm hj)] at e2;obtain u'|r'|q:=hl j y v' e1 e2 e3;refine #[u',r',?_];rcases q with q | ⟨k,c',e,z'⟩
    ·exact .inl q
    ·refine .inr #[k,c',e,z'.sameBut hs ?_];rintro rfl;exact hj (Ho hN e1 (I.ok.inj _ _ _ e hc ▸ hi))
  ·by_cases hcc:c'=c
   ·subst hcc;exact #[_,hc']
   ·obtain w2|z2:=I.cell y c' e;exact #[w2,z2.sameBut hs hcc]
  ·obtain e|n|ne|nf|d:=I.pin p hp;refine #[(hs.2 p.1 ?_).trans e,n,ne,nf,d];intro q;rw[q,hoc] at e;have q':oc=p.2:=cm e;exact d w' (by rw[<- q'];exact hocd)
theorem xl {M:Model} {A:Around} {E:Value->Shared->Prop} {i:Nat} {x:Str} {v:V} {u:Value} {Q:Unit->Shared->Prop} (I:Inv X pins σ H s) (hN:X.N.Nodup) (hi:X.N[i]?=some x) (hx:Loc X.env.scope x) (r:RelV v u)
  (h:∀s',Inv X pins (σ.set i (some v)) H s'->Q .unit s') (hf:X.fn x=true\/X.env.scope.names.lookup x=some .local:=by first | exact .inl rfl | exact .inr rfl | assumption):wpAny M A (storeName X.env x u) Q E s :=
 DF I hN hi hx r (λs' I' _=>h s' I') hf
theorem Inv.call' (I:Inv X pins σ H s) (ho:s'.os=s.os) (u:Un (Mr X.stack) ch H H' s.heap s'.8) (hok:AQ X.prog X.w H' s'.8) (hg:AllBare s'.gens)
  (hch:∀b∈ch,(b∈X.ex\/X.s₀.6<=b)/\b≠X.env.locals/\(∀x c,X.env.cells.lookup x=some c->c≠b)/\∀p∈X.pn++pins,p.1≠b):Inv X pins σ H' s':=by
 obtain h'|g'|d'|t'|o':=s';have e:o'=s.os:=ho;subst e;exact I.call (g':=g') (t':=t') (d':=d') u hok hg hch
end
abbrev XK:=Value->Option Addr->Hp->Prop
abbrev St:=List (Option V)
abbrev VK:=V->Hp->Prop
abbrev TE:=St->Hp->VK->Prop
abbrev TT:=St->Hp->(Bool->Hp->Prop)->Prop
abbrev TA:=St->Hp->(List V->Hp->Prop)->Prop
structure Ends where
 nx:St->Hp->Prop
 rt:VK
 bk:St->Hp->Prop:=λ_ _=>False
 ct:St->Hp->Prop:=λ_ _=>False
abbrev TS:=Ends->St->Hp->Prop
def EP (X:Cx) (pins:List (Addr×Obj)) (σ:St) (Q:VK) (u:Value) (s':Shared):Prop:=∃v H',Inv X pins σ H' s'/\RelV v u/\Q v H'
def TP (X:Cx) (pins:List (Addr×Obj)) (σ:St) (Q:Bool->Hp->Prop) (b:Bool) (s':Shared):Prop:=∃H',Inv X pins σ H' s'/\Q b H'
def AP (X:Cx) (pins:List (Addr×Obj)) (σ:St) (Q:List V->Hp->Prop) (us:List Value) (s':Shared):Prop:=∃vs H',Inv X pins σ H' s'/\di vs us/\Q vs H'
def SP (X:Cx) (pins:List (Addr×Obj)) (D:Ends) (f:Flow) (s':Shared):Prop :=
 match f with
 | .next=>∃σ' H',Inv X pins σ' H' s'/\D.nx σ' H'
 | .brk=>∃σ' H',Inv X pins σ' H' s'/\D.bk σ' H'
 | .cont=>∃σ' H',Inv X pins σ' H' s'/\D.ct σ' H'
 | .ret u=>∃v σ' H',Inv X pins σ' H' s'/\RelV v u/\D.rt v H'
def PE (X:Cx) (e:Expr) (t:TE):Prop :=
 ∀(pins:List (Addr×Obj)) (s:Shared) (σ:St) (H:Hp) (Q:VK),Inv X pins σ H s->t σ H Q->wpAny (model X.prog X.w) X.A (eval e X.env) (EP X pins σ Q) X.xe s
def PT (X:Cx) (e:Expr) (t:TT):Prop :=
 ∀(pins:List (Addr×Obj)) (s:Shared) (σ:St) (H:Hp) (Q:Bool->Hp->Prop),Inv X pins σ H s->t σ H Q->wpAny (model X.prog X.w) X.A (isTrue e X.env (eval e X.env)) (TP X pins σ Q) X.xe s
def PW (X:Cx) (e:Expr) (t:TT):Prop :=
 ∀(whole:Sem Value) (pins:List (Addr×Obj)) (s:Shared) (σ:St) (H:Hp) (Q:Bool->Hp->Prop),Inv X pins σ H s->t σ H Q->wpAny (model X.prog X.w) X.A (isTrue e X.env whole) (TP X pins σ Q) X.xe s
theorem PW.pt (h:PW X e t):PT X e t:=h _
def PA (X:Cx) (es:List Expr) (t:TA):Prop :=
 ∀(pos:Pos) (pins:List (Addr×Obj)) (s:Shared) (σ:St) (H:Hp) (Q:List V->Hp->Prop),Inv X pins σ H s->t σ H Q->wpAny (model X.prog X.w) X.A (spliced (backTo pos (starEach es X.env))) (AP X pins σ Q) X.xe s
def PS (X:Cx) (st:Stmt) (t:TS):Prop :=
 ∀(pins:List (Addr×Obj)) (s:Shared) (σ:St) (H:Hp) (D:Ends),Inv X pins σ H s->t D σ H->wpAny (model X.prog X.w) X.A (exec st X.env) (SP X pins D) X.xe s
def JG (X:Cx) (st:List Stmt) (t:TS):Prop :=
 ∀(pins:List (Addr×Obj)) (s:Shared) (σ:St) (H:Hp) (D:Ends),Inv X pins σ H s->t D σ H->wpAny (model X.prog X.w) X.A (execs st X.env) (SP X pins D) X.xe s
theorem iX {t:Sem α} {Q Q':α->Shared->Prop} (h:wpAny M A t Q E s) (hQ:∀a s,Q a s->Q' a s):wpAny M A t Q' E s:=wpAny_mono h hQ λ_ _ x=>x
section
variable {X:Cx}
def Sy (i:Nat):TE:=λσ H Q=>∃v,σ[i]?=some (some v)/\Q v H
def tC (v:V):TE:=λ_ H Q=>Q v H
theorem Ti {i:Nat} {x:Str} {pos:Pos} (hN:X.N[i]?=some x) (hv:Wi X.env.scope x) (hd:(x == ("__debug__":Str))=false:=by decide) (hcd:(x == ("__classdict__":Str))=false:=by decide):PE X (.Name x pos) (Sy i):=by
 intro pins s σ H Q I h;obtain v|e|h:=h;obtain m|hn|hl:=I.loc;obtain u|r|l:=hl i x v hN e hv;have fin:EP X pins σ Q u s:=#[v,H,I,r,h];rcases l with ⟨hk,hm⟩ | ⟨hk,c,hc,hcell⟩
 ·exact wpAny_Name (wpAny_loadName_local I.ok.kind hk hn hm fin) hd
 ·rcases hk with hk | hk
  ·exact wpAny_Name (wpAny_loadName_cell I.ok.kind hk hc hcell fin) hd
  ·exact wpAny_Name (wpAny_loadName_free I.ok.kind hk hc hcell fin hcd) hd
theorem ak:PE X (.Constant (.int i) j pos) (tC (.int i)):=λ_ _ _ H _ I h=>wpAny_Constant_int #[.int i,H,I.tok _,#[_,rfl],h]
theorem oK:PE X (.Constant (.bool b) j pos) (tC (.bl b)):=λ_ _ _ H _ I h=>Constant_bool #[.bl b,H,I,rfl,h]
def Gl (X:Cx) (x:Str):Prop:=X.env.kindOf x=some .globalImplicit
theorem Fn {E:Value->Shared->Prop} {pins:List (Addr×Obj)} {s:Shared} {σ:St} {H:Hp} {x:Str} {u:Value} {pos:Pos} {Q:Value->Shared->Prop} (I:Inv X pins σ H s) (hg:Gl X x) (hm:X.mg x=some u) (h:Q u s)
  (hd:(x == ("__debug__":Str))=false:=by decide):wpAny (model X.prog X.w) X.A (eval (.Name x pos) X.env) Q E s :=
 Calls.Name_function_global I.ok.kind hg (Calls.loadGlobal_global (by rw[I.ok.glob];exact I.mod.glob.keeps I.bk) hm h) hd
theorem pZ {E:Value->Shared->Prop} {pins:List (Addr×Obj)} {s:Shared} {σ:St} {H:Hp} {x:Str} {u:Value} {pos:Pos} {Q:Value->Shared->Prop} (I:Inv X pins σ H s) (hg:Gl X x) (hm:X.mg x=none) (hv:bootBuiltins x=some u) (h:Q u s)
  (hn:x≠"__name__":=by decide) (hd:(x == ("__debug__":Str))=false:=by decide):wpAny (model X.prog X.w) X.A (eval (.Name x pos) X.env) Q E s:=by
 obtain mb|h1|h2:=I.mod.blt;exact Calls.Name_function_global I.ok.kind hg (Calls.loadGlobal_builtin (by rw[I.ok.glob];exact I.mod.glob.keeps I.bk) hm (by rw[I.ok.blt];exact h1.keeps I.bk) ((h2 x hn).trans hv) h) hd
theorem E3 {x:Str} {v:V} {u:Value} {pos:Pos} (hg:Gl X x) (hm:X.mg x=some u) (r:RelV v u) (hd:(x == ("__debug__":Str))=false:=by decide):PE X (.Name x pos) (tC v) :=
 λ_ _ _ H _ I h=>Fn I hg hm #[v,H,I,r,h] hd
theorem Kj {x:Str} {v:V} {u:Value} {pos:Pos} (hg:Gl X x) (hm:X.mg x=none) (hv:bootBuiltins x=some u) (r:RelV v u) (hn:x≠"__name__":=by decide) (hd:(x == ("__debug__":Str))=false:=by decide):PE X (.Name x pos) (tC v) :=
 λ_ _ _ H _ I h=>pZ I hg hm hv #[v,H,I,r,h] hn hd
variable {a b:Expr} {ta tb:TE} {pos:Pos}
def tB (t:TE):TT:=λσ H Q=>t σ H λx H1=>∃c,x=.bl c/\Q c H1
theorem iY {e:Expr} {t:TE} (h:PE X e t) (he:∀whole,isTrue e X.env whole=(do let v <- whole;standAt e.pos;holding [v] (truthy v)):=by intro _;rfl):PT X e (tB t):=by
 intro pins s σ H Q I hw;refine isTrue_plain (iX (h pins s σ H _ I hw) λv s1 #[x,H1,I1,r1,q1]=>?_) (he _);obtain d|rfl|q:=q1;cases r1;exact wpAny_truthy_bool #[H1,I1,q]
variable {tA tB':TT} {rest:List Expr}
def UU (t u:TT):TT:=λσ H Q=>t σ H λc H1=>if c=true then u σ H1 Q else Q false H1
def tOr (t u:TT):TT:=λσ H Q=>t σ H λc H1=>if c=true then Q true H1 else u σ H1 Q
def UP (t:TT):TT:=λσ H Q=>t σ H λc H1=>Q (!c) H1
theorem l5 (ha:PT X a tA):PW X (.BoolOp .And [a] pos) tA:=by
 intro wh pins s σ H Q I h;refine isTrue_and (iX (ha pins s σ H Q I h) λc s1 e=>?_);cases c with
 | true=>exact isTrue_and_nil e
 | false=>exact e
theorem jT (ha:PT X a tA):PW X (.BoolOp .Or [a] pos) tA:=by
 intro wh pins s σ H Q I h;refine isTrue_or (iX (ha pins s σ H Q I h) λc s1 e=>?_);cases c with
 | false=>exact isTrue_or_nil e
 | true=>exact e
theorem kE (ha:PT X a tA) (hb:PW X (.BoolOp .And (b :: rest) pos) tB'):PW X (.BoolOp .And (a :: b :: rest) pos) (UU tA tB'):=by
 intro wh pins s σ H Q I h;refine isTrue_and (iX (ha pins s σ H _ I h) λc s1 #[H1,I1,q1]=>?_);cases c with
 | true=>exact hb wh pins s1 σ H1 Q I1 q1
 | false=>exact #[H1,I1,q1]
theorem lC (ha:PT X a tA) (hb:PW X (.BoolOp .Or (b :: rest) pos) tB'):PW X (.BoolOp .Or (a :: b :: rest) pos) (tOr tA tB'):=by
 intro wh pins s σ H Q I h;refine isTrue_or (iX (ha pins s σ H _ I h) λc s1 #[H1,I1,q1]=>?_);cases c with
 | true=>exact #[H1,I1,q1]
 | false=>exact hb wh pins s1 σ H1 Q I1 q1
theorem jU (ha:PT X a tA):PT X (.UnaryOp .Not a pos) (UP tA):=by
 intro pins s σ H Q I h;exact isTrue_not (ha pins s σ H (λc H1=>Q (!c) H1) I h)
def Rw (ta tb:TE):TE:=λσ H Q=>ta σ H λx H1=>∃c,x=.bl c/\if c=true then tb σ H1 Q else Q (.bl false) H1
def Rk (ta:TE):TE:=λσ H Q=>ta σ H λx H1=>∃c,x=.bl c/\Q (.bl (!c)) H1
theorem E2 (h:PE X a t):PE X (.BoolOp op [a] pos) t:=λpins s σ H Q I hw=>BoolOp_one (h pins s σ H Q I hw)
theorem E5 (ha:PE X a ta) (hb:PE X (.BoolOp .And (b :: rest) pos) tb):PE X (.BoolOp .And (a :: b :: rest) pos) (Rw ta tb):=by
 intro pins s σ H Q I h;refine BoolOp_and (iX (ha pins s σ H _ I h) λv s1 #[x,H1,I1,r1,q1]=>?_);obtain c|rfl|q1:=q1;cases r1;refine wpAny_truthy_bool ?_;cases c with
 | true=>exact hb pins s1 σ H1 Q I1 q1
 | false=>exact #[.bl false,H1,I1,rfl,q1]
theorem Tj (ha:PE X a ta):PE X (.UnaryOp .Not a pos) (Rk ta):=by
 intro pins s σ H Q I h;refine UnaryOp_ (iX (ha pins s σ H _ I h) λv s1 #[x,H1,I1,r1,q1]=>?_);obtain c|rfl|q1:=q1;cases r1;exact not_of (wpAny_truthy_bool #[.bl (!c),H1,I1,rfl,q1])
def tIf (t:TT) (ta tb:TE):TE:=λσ H Q=>t σ H λc H1=>if c=true then ta σ H1 Q else tb σ H1 Q
theorem ND (hc:PT X c tA) (ha:PE X a ta) (hb:PE X b tb):PE X (.IfExp c a b pos) (tIf tA ta tb):=by
 intro pins s σ H Q I h;refine wpAny_IfExp (iX (hc pins s σ H _ I h) λd s1 #[H1,I1,q1]=>?_);cases d with
 | true=>exact ha pins s1 σ H1 Q I1 q1
 | false=>exact hb pins s1 σ H1 Q I1 q1
end
def bJ (K:FG9) (H:Hp) (a:Addr) (xs:List V):Prop :=
 Rd H a (.lst xs) \/
  ∃(o:Obj) (its:Array Value) (n:Nat),K.lookup a=some o/\o.cls=.type "list"/\o.dict=none/\o.data=.seq its n/\its.7<=sizeLine/\di xs its.toList
def nG (K:FG9) (H:Hp) (a:Addr) (xs:List V):Prop :=
 Rd H a (.tup xs) \/
  ∃(o:Obj) (its:Array Value) (n:Nat),K.lookup a=some o/\o.cls=.type "tuple"/\o.data=.seq its n/\its.7<=sizeLine/\di xs its.toList
def Wh:Value->Option V
 | .none=>some .non
 | .bool b=>some (.bl b)
 | .int i _=>some (.int i)
 | .str x _=>some (.str x)
 | .bytes b _=>some (.byt b)
 | .float b _=>some (.flt b)
 | .ref a=>some (.ref a)
 | .type n=>some (.ty n)
 | _=>none
theorem RelV.abs (r:RelV x u):Wh u=some x:=by
 cases x with
 | non=>cases r;rfl
 | bl _=>cases r;rfl
 | int _=>obtain t|rfl:=r;rfl
 | str _=>obtain t|rfl:=r;rfl
 | byt _=>obtain t|rfl:=r;rfl
 | flt _=>obtain t|rfl:=r;rfl
 | ref _=>cases r;rfl
 | ty _=>cases r;rfl
theorem RelV.inj (r:RelV x u) (q:RelV y u):x=y:=cm (r.abs.symm.trans q.abs)
theorem di.inj:∀{xs ys:List V} {us:List Value},di xs us->di ys us->xs=ys
 | _,_,_,.nil,.nil=>rfl
 | _,_,_,.cons r t,.cons r' t'=>by rw[r.inj r',di.inj t t']
section
variable {X:Cx} {pins:List (Addr×Obj)} {σ:St} {H:Hp} {s:Shared} {a:Addr} {xs ys:List V}
theorem bJ.of {K:FG9} (h:H a=some (.lst xs)):bJ K H a xs:=.inl (.inl h)
theorem nG.of {K:FG9} (h:H a=some (.tup xs)):nG K H a xs:=.inl (.inl h)
theorem Inv.list (I:Inv X pins σ H s) (h:bJ X.K H a xs):∃its:List Value,di xs its/\PlainL s.heap a its.5/\xs.9<=sizeLine:=by
 rcases h with h | ⟨o,its,n,hk,hc,hd,hs,hz,r⟩
 ·obtain z|its|n|r|e:=h.ok I.hok;exact #[its,r,#[_,n,e,rfl,rfl,rfl],z]
 ·refine #[its.toList,r,#[o,n,I.kIn a o hk,hc,hd,by simpa using hs],?_];have e:=r.9;simp only[Array.length_toList] at e
  lia
theorem Inv.tuple (I:Inv X pins σ H s) (h:nG X.K H a xs):∃its:List Value,di xs its/\IsTup s.heap a its.5/\xs.9<=sizeLine:=by
 rcases h with h | ⟨o,its,n,hk,hc,hs,hz,r⟩
 ·obtain z|its|r|p:=h.ok I.hok;exact #[its,r,p,z]
 ·refine #[its.toList,r,#[o,I.kIn a o hk,hc,n,by simpa using hs],?_];have e:=r.9;simp only[Array.length_toList] at e
  lia
theorem Inv.list_inj (I:Inv X pins σ H s) (h:bJ X.K H a xs) (h':bJ X.K H a ys):xs=ys:=by
 obtain its|r|⟨o,n,e,_,_,d⟩|_:=I.list h;obtain its'|r'|⟨o',n',e',_,_,d'⟩|_:=I.list h';rw[e] at e';cases e';rw[d] at d';injection d' with d1 _
 have:its=its':=by simpa using congrArg Array.toList d1
 subst this;exact r.inj r'
theorem Inv.tuple_inj (I:Inv X pins σ H s) (h:nG X.K H a xs) (h':nG X.K H a ys):xs=ys:=by
 obtain its|r|⟨o,e,_,n,d⟩|_:=I.tuple h;obtain its'|r'|⟨o',e',_,n',d'⟩|_:=I.tuple h';rw[e] at e';cases e';rw[d] at d';injection d' with d1 _
 have:its=its':=by simpa using congrArg Array.toList d1
 subst this;exact r.inj r'
end
abbrev Cx.wish (X:Cx) (E:Value->Shared->Prop):Cx:={ X with xe:=E }
abbrev Cx.nox (X:Cx):Cx:=X.wish λ_ _=>False
theorem Cx.Ok.wish {X:Cx} (ok:X.Ok) (E:Value->Shared->Prop):(X.wish E).Ok :=
 #[ok.mod,ok.kind,ok.glob,ok.blt,ok.above,ok.inj,ok.has,ok.cab,ok.hd,ok.frames,ok.stk,ok.exf,ok.bs,ok.bsz,ok.noex,ok.exfs,ok.funs,ok.frf]
theorem Cx.Ok.unwish {X:Cx} (ok:(X.wish E).Ok):X.Ok :=
 #[ok.mod,ok.kind,ok.glob,ok.blt,ok.above,ok.inj,ok.has,ok.cab,ok.hd,ok.frames,ok.stk,ok.exf,ok.bs,ok.bsz,ok.noex,ok.exfs,ok.funs,ok.frf]
section
variable {X:Cx} {pins:List (Addr×Obj)} {σ:St} {H:Hp} {s:Shared} {E:Value->Shared->Prop}
theorem Inv.wish (I:Inv X pins σ H s) (E:Value->Shared->Prop):Inv (X.wish E) pins σ H s:=#[I.ok.wish E,I.os,I.bare,I.base,I.loc,I.cell,I.free,I.freeC,I.pin,I.hok,I.len]
theorem Inv.unwish (I:Inv (X.wish E) pins σ H s):Inv X pins σ H s:=#[I.ok.unwish,I.os,I.bare,I.base,I.loc,I.cell,I.free,I.freeC,I.pin,I.hok,I.len]
theorem SP.unwish (h:SP (X.wish E) pins D f s'):SP X pins D f s':=by
 cases f with
 | next=>obtain σ'|H'|I|q:=h;exact #[σ',H',I.unwish,q]
 | brk=>obtain σ'|H'|I|q:=h;exact #[σ',H',I.unwish,q]
 | cont=>obtain σ'|H'|I|q:=h;exact #[σ',H',I.unwish,q]
 | ret u=>obtain v|σ'|H'|I|r|q:=h;exact #[v,σ',H',I.unwish,r,q]
theorem JG.nox {st:List Stmt} (h:JG X.nox st t):JG X st t:=λpins s σ H D I hw =>
 wpAny_mono (h pins s σ H D (I.wish _) hw) (λ_ _ q=>q.unwish) λ_ _ z=>False.elim z
end
section
variable {X:Cx} {st:Stmt} {rest:List Stmt} {t u:TS} {e:Expr} {te:TE} {pos:Pos}
def Rl:TS:=λD σ H=>D.nx σ H
def UL (t u:TS):TS:=λD σ H=>t { D with nx:=u D } σ H
theorem ck:JG X [] Rl:=λ_ _ σ H _ I h=>wpAny_execs_nil #[σ,H,I,h]
theorem au (h1:PS X st t) (h2:JG X rest u):JG X (st :: rest) (UL t u):=by
 intro pins s σ H D I h;refine wpAny_execs_cons (iX (h1 pins s σ H { D with nx:=u D } I h) λf s1 q=>?_);cases f with
 | next =>
  obtain σ'|H'|I'|q:=q;exact h2 pins s1 σ' H' D I' q
 | ret v=>exact q
 | brk=>exact q
 | cont=>exact q
theorem az (h1:PS X st t):JG X [st] t:=by
 intro pins s σ H D I h;refine wpAny_execs_cons (iX (h1 pins s σ H D I h) λf s1 q=>?_);cases f with
 | next=>exact wpAny_execs_nil q
 | ret v=>exact q
 | brk=>exact q
 | cont=>exact q
theorem Inv.quiet {σ:St} (I:Inv X pins σ H s):interactive X.env=false:=by simp [interactive,I.ok.kind]
def Ro (te:TE):TS:=λD σ H=>te σ H λ_ H1=>D.nx σ H1
theorem i8 (he:PE X e te) (hs:swapsWith e none pos.line X.env=pure false:=by rfl):PS X (.Expr e pos) (Ro te):=by
 intro pins s σ H D I h;exact wpAny_Expr_any (iX (he pins s σ H _ I h) λv s1 #[x,H1,I1,r1,q1]=>#[σ,H1,I1,q1]) I.quiet hs
def UM (te:TE):TS:=λD σ H=>te σ H D.rt
theorem a8 (he:PE X e te):PS X (.Return (some e) pos) (UM te):=by
 intro pins s σ H D I h;exact wpAny_Return_some (iX (he pins s σ H _ I h) λv s1 #[x,H1,I1,r1,q1]=>#[x,σ,H1,I1,r1,q1])
def UR (c:TT) (t u:TS):TS:=λD σ H=>c σ H λb H1=>if b=true then t D σ H1 else u D σ H1
theorem dO (hc:PT X c tc) (ha:JG X a t) (hb:JG X b u):PS X (.If c a b pos) (UR tc t u):=by
 intro pins s σ H D I h;refine wpAny_If (iX (hc pins s σ H _ I h) λd s1 #[H1,I1,q1]=>?_);cases d with
 | true=>exact ha pins s1 σ H1 D I1 q1
 | false=>exact hb pins s1 σ H1 D I1 q1
end
abbrev TG:=V->St->Hp->(St->Hp->Prop)->Prop
abbrev O4:=List V->St->Hp->(St->Hp->Prop)->Prop
def PG (X:Cx) (target:Expr) (t:TG):Prop :=
 ∀(pins:List (Addr×Obj)) (s:Shared) (σ:St) (H:Hp) (v:V) (u:Value) (Q:St->Hp->Prop),Inv X pins σ H s->RelV v u->t v σ H Q →
  wpAny (model X.prog X.w) X.A (assign target X.env u) (λ_ s'=>∃σ' H',Inv X pins σ' H' s'/\Q σ' H') X.xe s
def VJ (X:Cx) (ts:List Expr) (t:O4):Prop :=
 ∀(pins:List (Addr×Obj)) (s:Shared) (σ:St) (H:Hp) (vs:List V) (us:List Value) (Q:St->Hp->Prop),Inv X pins σ H s->di vs us->t vs σ H Q →
  wpAny (model X.prog X.w) X.A (assignInOrder ((assignEach ts X.env).map (·.2)) us) (λ_ s'=>∃σ' H',Inv X pins σ' H' s'/\Q σ' H') X.xe s
abbrev JE:=V->V->V->Hp->(Hp->Prop)->Prop
def Ug (X:Cx) (t:JE):Prop :=
 ∀(pins:List (Addr×Obj)) (s:Shared) (σ:St) (H:Hp) (o i v:V) (ov iv u:Value) (Q:Hp->Prop),Inv X pins σ H s->RelV o ov->RelV i iv->RelV v u->t o i v H Q →
  wpAny (model X.prog X.w) X.A (setItem ov iv u) (λ_ s'=>∃H',Inv X pins σ H' s'/\Q H') X.xe s
abbrev VF:=V->V->Hp->VK->Prop
def PIp (X:Cx) (op:Operator) (t:VF):Prop :=
 ∀(pins:List (Addr×Obj)) (s:Shared) (σ:St) (H:Hp) (x y:V) (v u:Value) (Q:VK),Inv X pins σ H s->RelV x v->RelV y u->t x y H Q →
  wpAny (model X.prog X.w) X.A (inplaceOp op v u) (EP X pins σ Q) X.xe s
section
variable {X:Cx} {pos:Pos}
def Ky (i:Nat):TG:=λv σ H Q=>Q (σ.set i (some v)) H
theorem aN {i:Nat} {x:Str} (hN:X.N.Nodup) (hi:X.N[i]?=some x:=by exact rfl) (hx:Loc X.env.scope x:=by exact Or.inl rfl) (hf:X.fn x=true\/X.env.scope.names.lookup x=some .local:=by first | exact .inl rfl | exact .inr rfl | assumption):PG X (.Name x pos) (Ky i):=by
 intro pins s σ H v u Q I r h;exact wpAny_assign_Name (xl I hN hi hx r (λs' I'=>#[_,H,I',h]) hf)
def Vw:O4:=λvs σ H Q=>vs=[]/\Q σ H
def RR (t:TG) (u:O4):O4:=λvs σ H Q=>∃v r,vs=v :: r/\t v σ H λσ' H'=>u r σ' H' Q
theorem kF:VJ X [] Vw:=by
 intro pins s σ H vs us Q I r h;obtain e|h:=h;subst e;cases r;exact assignInOrder_nil #[σ,H,I,h]
theorem cZ {e:Expr} {es:List Expr} {t:TG} {u:O4} (h1:PG X e t) (h2:VJ X es u)
  (hs:(assignEach (e :: es) X.env).map (·.2)=assign e X.env :: (assignEach es X.env).map (·.2):=by rfl):VJ X (e :: es) (RR t u):=by
 intro pins s σ H vs us Q I r h;obtain v|vr|e1|h:=h;subst e1;cases r with
 | cons r rr =>
  rw[hs];refine assignInOrder_cons (iX (h1 pins s σ H _ _ _ I r h) λ_ s1 #[σ1,H1,I1,q1]=>?_);exact h2 pins s1 σ1 H1 _ _ Q I1 rr q1
def TK (K:FG9) (n:Nat) (t:O4):TG:=λv σ H Q=>∃a xs,v=.ref a/\nG K H a xs/\xs.9=n/\t xs σ H Q
theorem yK {es:List Expr} {k:Nat} {t:O4} {n:Nat} (hc:X.calm=true) (h:VJ X es t)
  (hn:(assignEach es X.env).9=n:=by rfl) (hst:(assignEach es X.env).findIdx? (·.1)=none:=by rfl):PG X (.Tuple es k pos) (TK X.K n t):=by
 intro pins s σ H v u Q I r hw;obtain a|xs|e1|hq|hl|hw:=hw;subst e1;cases r;obtain its|rv|ht|hz:=I.tuple hq;refine assign_Tuple_tuple (I.ok.hd hc) ht (by simp [hn,<- hl,rv.9]) hst λh' hx=>?_
 have I1:Inv X pins σ H { s with heap:=h' }:=I.kept (t':=s.toks) λb o e=>hx b o (cT (Heap.lt_size e)) e
 exact h pins _ σ H xs _ Q I1 (by simpa using rv) hw
def Vv (to ti:TE) (t:JE):TG:=λv σ H Q=>to σ H λo H1=>ti σ H1 λi H2=>t o i v H2 λH3=>Q σ H3
theorem jk {o i : Expr} {to ti : TE} {t : JE} (ho : PE X o to) (hi : PE X i ti) (hs : Ug X t)
    (ha : ∀ v, assign (.Subscript o i pos) X.env v = (do
      let ov <- holding [v] (eval o X.env)
      let iv <- holding [v, ov] (eval i X.env)
      standAt pos
      holding [v, ov, iv] (setItem ov iv v)
      release [v, ov, iv] []) := by intro _; rfl) : PG X (.Subscript o i pos) (Vv to ti t) := by
  intro pins s σ H v u Q I r h;rw [ha];refine wpAny_bind (wpAny_holding (iX (ho pins s σ H _ I h) λov s1 #[x, H1, I1, r1, q1] => ?_));refine wpAny_bind (wpAny_holding (iX (hi pins s1 σ H1 _ I1 q1) λiv s2 #[y, H2, I2, r2, q2] => ?_));refine wpAny_bind (wpAny_standAt (wpAny_bind (wpAny_holding (iX (hs pins s2 σ H2 x y v ov iv u _ I2 r1 r2 r q2) λ_ s3 #[H3, I3, q3] => ?_))));exact wpAny_release #[σ, H3, I3, q3]
def Pk (te:TE) (g:TG):TS:=λD σ H=>te σ H λx H1=>g x σ H1 D.nx
theorem iE {tg e:Expr} {te:TE} {g:TG} (he:PE X e te) (hg:PG X tg g) (hs:swapsWithSole [tg] e pos.line X.env=pure false:=by rfl) (hw:swappedStores [tg] e X.env=pure none:=by rfl)
  (h1:(assignEach [tg] X.env).map (·.2)=[assign tg X.env]:=by rfl):PS X (.Assign [tg] e pos) (Pk te g):=by
 intro pins s σ H D I h;refine wpAny_Assign_stores (iX (he pins s σ H _ I h) λv s1 #[x,H1,I1,r1,q1]=>?_) hs hw;rw[h1];exact iX (hg pins s1 σ H1 x v _ I1 r1 q1) λ_ s2 q=>q
theorem aZ {i:Nat} {x:Str} {e:Expr} {te:TE} {pos':Pos} (hN:X.N.Nodup) (hi:X.N[i]?=some x) (hx:Loc X.env.scope x) (he:PE X e te) (hs:swapsWith e (some (.Name x pos')) pos.line X.env=pure false:=by rfl) (hf:X.fn x=true\/X.env.scope.names.lookup x=some .local:=by first | exact .inl rfl | exact .inr rfl | assumption) :
  PS X (.Assign [.Name x pos'] e pos) (Pk te (Ky i)):=by
 intro pins s σ H D I h;refine wpAny_Assign_Name (iX (he pins s σ H _ I h) λv s1 #[y,H1,I1,r1,q1]=>?_) hs;exact xl I1 hN hi hx r1 (λs2 I2=>#[_,H1,I2,q1]) hf
def UN (i j:Nat) (ta:TA):TS:=λD σ H=>ta σ H λvs H1=>∃v w,vs=[v,w]/\D.nx ((σ.set i (some v)).set j (some w)) H1
theorem Nu {i j:Nat} {x y:Str} {a b:Expr} {ta:TA} {px py pt:Pos} {kt k2 pt2} (hc:X.calm=true) (hN:X.N.Nodup) (hi:X.N[i]?=some x) (hj:X.N[j]?=some y) (hij:i≠j)
  (hx:X.env.scope.names.lookup x=some .local) (hy:X.env.scope.names.lookup y=some .local) (ha:PA X [a,b] ta)
  (hw:swappedStores [.Tuple [.Name x px,.Name y py] kt pt] (.Tuple [a,b] k2 pt2) X.env=pure (some [x,y]))
  (hs:swapsWithSole [.Tuple [.Name x px,.Name y py] kt pt] (.Tuple [a,b] k2 pt2) pos.line X.env=pure false:=by rfl) :
  PS X (.Assign [.Tuple [.Name x px,.Name y py] kt pt] (.Tuple [a,b] k2 pt2) pos) (UN i j ta):=by
 intro pins s σ H D I h;rw[exec_Assign_arm];refine wpAny_bind (wpAny_standAt ?_);rw[hs];refine wpAny_bind (wpAny_pure ?_);rw[if_neg ()];refine wpAny_bind (Tuple_ (iX (ha _ pins s σ H _ I h) λus s1 #[vs,H1,I1,r1,q1]=>?_));obtain v|w|e1|q1:=q1;subst e1
 obtain ⟨u1,u2,rfl,rv,rw'⟩:∃u1 u2,us=[u1,u2]/\RelV v u1/\RelV w u2:=by
  cases r1 with
  | cons p q =>
   cases q with
   | cons p' q' =>
    cases q';exact #[_,_,rfl,p,p']
 refine wpAny_newObj_type ?_ (by show 2<=sizeLine;decide);have I2:Inv X pins σ H1 { s1 with heap:=s1.heap.push { cls:=.type "tuple",data:=.seq [u1,u2].5 } }:=I1.kept (t':=s1.toks) λb o e=>Heap.get?_push_of_some _ e
 rw[hw];refine wpAny_bind (wpAny_pure ?_);show wpAny (model X.prog X.w) X.A (do rule "assign.swapped-stores";let items <- unpackItems (.ref s1.6) 2 none;assignInOrder [λv=>bindName X.env y v,λv=>bindName X.env x v] items.reverse;pure Flow.next) _ _ _
 refine wpAny_bind (wpAny_rule (wpAny_bind (unpackItems_tuple (items:=[u1,u2].toArray) (I.ok.hd hc) (IsTup.new s1.heap _) λh' hx'=>?_)));have I3:=I2.kept (h':=h') (t':=s1.toks) λb o e=>hx' b o (cT (Heap.lt_size e)) e
 show wpAny _ _ (assignInOrder [λv=>bindName X.env y v,λv=>bindName X.env x v] [u2,u1] >>= λ_=>pure Flow.next) _ _ _
 refine wpAny_bind (assignInOrder_cons (wpAny_bindName (xl I3 hN hj (.inl hy) rw' (λs2 I4=>?_) (.inr hy))));refine assignInOrder_cons (wpAny_bindName (xl I4 hN hi (.inl hx) rv (λs3 I5=>assignInOrder_nil (wpAny_pure ?_)) (.inr hx)));rw[List.set_comm _ _ (Ne.symm hij)] at I5;exact #[_,H1,I5,q1]
def Rr (to ti te:TE) (tget:V->V->Hp->VK->Prop) (tip:VF) (tset:JE):TS:=λD σ H=>to σ H λo H1=>ti σ H1 λi H2=>tget o i H2 λx H3=>te σ H3 λy H4=>tip x y H4 λz H5=>tset o i z H5 λH6=>D.nx σ H6
def VL (X:Cx) (t:V->V->Hp->VK->Prop):Prop :=
 ∀(pins:List (Addr×Obj)) (s:Shared) (σ:St) (H:Hp) (o i:V) (ov iv:Value) (Q:VK),Inv X pins σ H s->RelV o ov->RelV i iv->t o i H Q →
  wpAny (model X.prog X.w) X.A (getItem ov iv) (EP X pins σ Q) X.xe s
theorem Ql {o i e:Expr} {to ti te:TE} {tget:V->V->Hp->VK->Prop} {tip:VF} {tset:JE} {op:Operator} {tpos:Pos} (ho:PE X o to) (hi:PE X i ti) (hg:VL X tget) (he:PE X e te) (hp:PIp X op tip) (hs:Ug X tset)
  (ha:∀ov iv new,augStore i ov iv new=(do holding [new,ov,iv] (setItem ov iv new);release [new,ov,iv] [];pure .next):=by intros;rfl):PS X (.AugAssign (.Subscript o i tpos) op e pos) (Rr to ti te tget tip tset):=by
 intro pins s σ H D I h;refine wpAny_AugAssign_SubscriptAny (iX (ho pins s σ H _ I h) λov s1 #[x1,H1,I1,r1,q1]=>?_) ha;refine iX (hi pins s1 σ H1 _ I1 q1) λiv s2 #[x2,H2,I2,r2,q2]=>?_
 refine iX (hg pins s2 σ H2 x1 x2 ov iv _ I2 r1 r2 q2) λold s3 #[x3,H3,I3,r3,q3]=>?_
 refine iX (he pins s3 σ H3 _ I3 q3) λv s4 #[x4,H4,I4,r4,q4]=>?_
 refine iX (hp pins s4 σ H4 x3 x4 old v _ I4 r3 r4 q4) λnew s5 #[x5,H5,I5,r5,q5]=>?_
 exact iX (hs pins s5 σ H5 x1 x2 x5 ov iv new _ I5 r1 r2 r5 q5) λ_ s6 #[H6,I6,q6]=>#[σ,H6,I6,q6]
def ipI (f:Int->Int->Int):VF:=λx y H Q=>∃i j,x=.int i/\y=.int j/\Q (.int (f i j)) H
theorem TC:PIp X .Add (ipI λi j=>i+j):=by
 intro pins s σ H x y v u Q I r1 r2 h;obtain i|j|e1|e2|q:=h;subst e1;subst e2;obtain t|rfl:=r1;obtain t'|rfl:=r2;exact iadd_int #[.int _,H,I.tok _,#[_,rfl],q]
end
section
variable {X:Cx} {pos:Pos}
def MJ (c:TT) (tb:TS):TS:=λD σ H=>∃W:Nat->St->Hp->Prop,(∃m,W m σ H)/\∀m σ H,W m σ H →
 c σ H λb H1=>if b=true then ∃N:St->Hp->Prop,(∀σ' H',N σ' H'->∃m',m' < m/\W m' σ' H')/\tb { D with nx:=N,ct:=N,bk:=D.nx } σ H1 else D.nx σ H1
theorem By (hp:PassesOwn (model X.prog X.w) X.A X.env X.xe) (hc:PT X c tc) (hb:JG X body tb):PS X (.While c body [] pos) (MJ tc tb):=by
 intro pins s σ H D I h;obtain W|⟨m0,w0⟩|turn:=h;refine wpAny_While (codeAny_whileLoop (λn s'=>∃σ' H',Inv X pins σ' H' s'/\W n σ' H') ?_ m0 #[σ,H,I,w0]);rintro n s1 ⟨σ1,H1,I1,w1⟩;refine wpAny_passesOwn hp (iX (hc pins s1 σ1 H1 _ I1 (turn n σ1 H1 w1)) λb s2 #[H2,I2,q2]=>?_);cases b with
 | true =>
  obtain N|hN|q2:=q2;rw[if_pos rfl];refine wpAny_passesOwn hp (iX (hb pins s2 σ1 H2 _ I2 q2) λf s3 q3=>?_);cases f with
  | next =>
   obtain σ3|H3|I3|n3:=q3;obtain m'|hm|w3:=hN σ3 H3 n3;exact #[m',hm,σ3,H3,I3,w3]
  | cont =>
   obtain σ3|H3|I3|n3:=q3;obtain m'|hm|w3:=hN σ3 H3 n3;exact #[m',hm,σ3,H3,I3,w3]
  | brk=>exact q3
  | ret v=>exact q3
 | false =>
  rw[if_neg bF];exact wpAny_execs_nil #[σ1,H2,I2,q2]
end
structure It where
 go:Nat->Hp->Prop
 yld:Nat->Hp->V->Hp->Prop
 stop:Nat->Hp->Prop
def lZ (X:Cx) (pins:List (Addr×Obj)) (H:Hp) (b:Addr):Prop :=
 H b=none/\b≠X.env.locals/\b∉X.fs/\(b∈X.ex\/X.s₀.6<=b)/\(∀x c,X.env.cells.lookup x=some c->c≠b)/\∀p∈X.pn++pins,p.1≠b
theorem Inv.fpOk {σ:St} {b:Addr} (I:Inv X pins σ H s) (hb:s.6<=b) (hn:H' b=none):lZ X pins H' b:=by
 refine #[hn,K0 (bx I.lt hb),I.nofs hb,.inr (aj I.sz hb),λx c e z=>?_,λp hp z=>?_]
 ·obtain v|q:=I.cell x c e;exact absurd (bx q.lt (by rw[z];exact hb)) (gQ _)
 ·exact absurd (bx (Heap.lt_size (I.pin p hp).1) (by rw[z];exact hb)) (gQ _)
structure Turn (P:Program) (w:World) (K:FG9) (tg:Expr) (J:It) (fp:List Addr) (it:Addr) (tn:Nat->Heap->Prop):Prop where
 mem:it∈fp
 obj:∀i h,tn i h->∀b∈fp,∃o,h.get? b=some o/\∀v,o.data≠.cell v
 keep:∀i h h',tn i h->(∀b∈fp,∀o,h.get? b=some o->h'.get? b=some o)->tn i h'
 item:∀(X:Cx),X.prog=P->X.w=w->X.K=K->X.calm=true->∀(i:Nat) (pins:List (Addr×Obj)) (s:Shared) (σ:St) (H:Hp) (E:Value->Shared->Prop),Inv X pins σ H s->(∀b∈fp,lZ X pins H b)->tn i s.8->J.go i H →
  wpAny (model P w) X.A (pyNext (.ref it)) (λr s1=>∃u,r=some u /\
   wpAny (model P w) X.A (letOwnedTupleGo tg (.ref it) u) (λ_ s2=>∃x H',Inv X pins σ H' s2/\RelV x u/\J.yld i H x H'/\tn (i+1) s2.8/\∀b∈fp,H' b=none) E s1) E s
 done:∀(X:Cx),X.prog=P->X.w=w->X.K=K->X.calm=true->∀(i:Nat) (pins:List (Addr×Obj)) (s:Shared) (σ:St) (H:Hp) (E:Value->Shared->Prop),Inv X pins σ H s->(∀b∈fp,lZ X pins H b)->tn i s.8->J.stop i H →
  wpAny (model P w) X.A (pyNext (.ref it)) (λr s1=>r=none/\Inv X pins σ H s1) E s
 self:∀(A:Around) (i:Nat) (s:Shared) (Q:Value->Shared->Prop) (E:Value->Shared->Prop),tn i s.8->Q (.ref it) s->wpAny (model P w) A (pyIter (.ref it)) Q E s
abbrev TI:=St->Hp->(It->Hp->Prop)->Prop
def PIE (X:Cx) (pins:List (Addr×Obj)) (σ:St) (tg:Expr) (R:It->Hp->Prop) (itv:Value) (s2:Shared):Prop :=
 ∃(it:Addr) (fp:List Addr) (tn:Nat->Heap->Prop) (J:It) (H':Hp),itv=.ref it/\Inv X pins σ H' s2/\Turn X.prog X.w X.K tg J fp it tn/\tn 0 s2.8/\(∀b∈fp,lZ X pins H' b)/\R J H'
def PI (X:Cx) (tg iter:Expr) (wi:TI):Prop :=
 ∀(pins:List (Addr×Obj)) (s:Shared) (σ:St) (H:Hp) (R:It->Hp->Prop),Inv X pins σ H s->wi σ H R →
  wpAny (model X.prog X.w) X.A (eval iter X.env) (λv s1=>wpAny (model X.prog X.w) X.A (pyIter v) (PIE X pins σ tg R) X.xe s1) X.xe s
theorem Og (ho:s.heap.get? it=some o) (hc:o.cls=.type n) (hd:o.data=.fields vs)
  (hn:["enumerate","zip","dict_itemiterator","dict_reverseitemiterator","odict_iterator","itertools.zip_longest","itertools.pairwise"].contains n=false) (hQ:Q .unit s):wpAny M A (letOwnedTupleGo tg (.ref it) u) Q E s:=by
 unfold letOwnedTupleGo
 cases tg <;> first
  | exact wpAny_pure hQ
  | (cases u <;> first | exact wpAny_pure hQ | (refine wpAny_bind (wpAny_load ho ?_);rw[hc,hd];show wpAny M A (if (["enumerate","zip","dict_itemiterator","dict_reverseitemiterator","odict_iterator","itertools.zip_longest","itertools.pairwise"].contains n && vs[0]? == some (rawInt _))=true then _ else _) Q E s;rw[if_neg (by intro h;rw[hn,Bool.false_and] at h;cases h)];exact wpAny_pure hQ))
def OQ (K:FG9) (a:Addr):It :=
 #[λi H=>∃xs x,bJ K H a xs/\xs[i]?=some x,λi H x H'=>H'=H/\∀xs,bJ K H a xs->xs[i]?=some x,λi H=>∃xs,bJ K H a xs/\xs.9<=i]
def Si (K:FG9) (a:Addr):It :=
 #[λi H=>∃xs x,nG K H a xs/\xs[i]?=some x,λi H x H'=>H'=H/\∀xs,nG K H a xs->xs[i]?=some x,λi H=>∃xs,nG K H a xs/\xs.9<=i]
def KZ (lo:Int) (n:Nat):It:=#[λi _=>i < n,λi H x H'=>H'=H/\x=.int (lo+i),λi _=>n<=i]
theorem K8 {P:Program} {w:World} {K:FG9} {tg:Expr} (a it:Addr):Turn P w K tg (OQ K a) [it] it (λi h=>h.IsListIter it a i) where
 mem:=by simp
 obj:=λi h st b hb=>by
  have e:b=it:=by simpa using hb
  subst e;obtain o|e|c|d:=st;exact #[o,e,λv z=>by rw[d] at z;cases z]
 keep:=λi h h' st k=>st.at λo e=>k it (by simp) o e
 item:=by
  intro X hP hw hK hc i pins s σ H E I hf st hg;subst hP hw hK;obtain xs|x|hq|hx:=hg;obtain its|rv|p|hz:=I.list hq;obtain u|hu|ru:=rv.get hx;obtain f0|f1|f2|f3|f4|f5:=hf it (by simp);refine wpAny_pyNext_list_item st p.isList (x:=u) (by simpa using hu) λh' st' sb=>?_
  have I1:Inv X pins σ H { s with heap:=h' }:=I.turned (t':=s.toks) (λb o hb e=>(sb.2 b hb).trans e) f0 f1 f3 f4 f5;obtain o|e|c|d:=id st';exact #[u,rfl,Og (s:={ s with heap:=h' }) e c d () ⟨x,H,I1,ru,⟨rfl,λys hy=>by rw[I.list_inj hy hq];exact hx⟩,st',λb hb=>(hf b hb).1⟩]
 done:=by
  intro X hP hw hK hc i pins s σ H E I hf st hg;subst hP hw hK;obtain xs|hq|hx:=hg;obtain its|rv|p|hz:=I.list hq;obtain f0|f1|f2|f3|f4|f5:=hf it (by simp);have hl:=rv.9;exact wpAny_pyNext_list_end (I.ok.hd hc) st p.isList (by simp;lia) λh' eb=>#[rfl,I.turned (t':=s.toks) (λb o hb e=>eb b o hb e) f0 f1 f3 f4 f5]
 self:=λ_ _ _ _ _ st h=>wpAny_pyIter_listiter st h
theorem ID {P:Program} {w:World} {K:FG9} {tg:Expr} (a it:Addr):Turn P w K tg (Si K a) [it] it (λi h=>h.IsTupleIter it a i) where
 mem:=by simp
 obj:=λi h st b hb=>by
  have e:b=it:=by simpa using hb
  subst e;obtain o|e|c|d:=st;exact #[o,e,λv z=>by rw[d] at z;cases z]
 keep:=λi h h' st k=>st.at λo e=>k it (by simp) o e
 item:=by
  intro X hP hw hK hc i pins s σ H E I hf st hg;subst hP hw hK;obtain xs|x|hq|hx:=hg;obtain its|rv|p|hz:=I.tuple hq;obtain u|hu|ru:=rv.get hx;obtain f0|f1|f2|f3|f4|f5:=hf it (by simp);refine wpAny_pyNext_tuple_item st (show s.heap.IsTuple a its.toArray from p) (x:=u) (by simpa using hu) λh' st' sb=>?_
  have I1:Inv X pins σ H { s with heap:=h' }:=I.turned (t':=s.toks) (λb o hb e=>(sb.2 b hb).trans e) f0 f1 f3 f4 f5;obtain o|e|c|d:=id st';exact #[u,rfl,Og (s:={ s with heap:=h' }) e c d () ⟨x,H,I1,ru,⟨rfl,λys hy=>by rw[I.tuple_inj hy hq];exact hx⟩,st',λb hb=>(hf b hb).1⟩]
 done:=by
  intro X hP hw hK hc i pins s σ H E I hf st hg;subst hP hw hK;obtain xs|hq|hx:=hg;obtain its|rv|p|hz:=I.tuple hq;obtain f0|f1|f2|f3|f4|f5:=hf it (by simp);have hl:=rv.9;exact wpAny_pyNext_tuple_end (I.ok.hd hc) st (show s.heap.IsTuple a its.toArray from p) (by simp;lia) λh' eb=>#[rfl,I.turned (t':=s.toks) (λb o hb e=>eb b o hb e) f0 f1 f3 f4 f5]
 self:=λ_ _ _ _ _ st h=>wpAny_pyIter_tupleiter st h
theorem IE {P:Program} {w:World} {K:FG9} {tg:Expr} (it:Addr) (lo:Int) (n:Nat):Turn P w K tg (KZ lo n) [it] it (λi h=>IsRangeIter h it (lo+(i:Nat)*1) ((n:Int) - (i:Nat)) 1) where
 mem:=by simp
 obj:=λi h st b hb=>by
  have e:b=it:=by simpa using hb
  subst e
  exact #[_,st,λv z=>by
   have z':Data.fields _=Data.cell v:=z;cases z']
 keep:=λi h h' st k=>k it (by simp) _ st
 item:=by
  intro X hP hw hK hc i pins s σ H E I hf st hg;subst hP hw hK;obtain f0|f1|f2|f3|f4|f5:=hf it (by simp);have W:=Walks.range (prog:=X.prog) (w:=X.w) (I.ok.hd hc) it lo 1 n;refine W.item i s _ _ hg st λv h' tk hv st' kk=>?_
  obtain t|rfl:=hv;have I1:Inv X pins σ H { s with heap:=h',toks:=tk }:=I.turned (λb o hb e=>kk b o (by simpa using hb) e) f0 f1 f3 f4 f5;refine #[_,rfl,Og (s:={ s with heap:=h',toks:=tk }) (n:="range_iterator") st' rfl rfl () ⟨.int (lo+i),H,I1,⟨t,?_⟩,⟨rfl,rfl⟩,st',λb hb=>(hf b hb).1⟩];rw[Int.mul_one]
 done:=by
  intro X hP hw hK hc i pins s σ H E I hf st hg;subst hP hw hK;obtain f0|f1|f2|f3|f4|f5:=hf it (by simp);exact wpAny_pyNext_range_end (I.ok.hd hc) st (by have:n<=i:=hg;lia) λh' eb=>#[rfl,I.turned (t':=s.toks) (λb o hb e=>eb b o hb e) f0 f1 f3 f4 f5]
 self:=λ_ _ _ _ _ st h=>wpAny_pyIter_rangeiter st h
section
variable {X:Cx} {tg:Expr}
def Ob (K:FG9) (tl:TE):TI:=λσ H R=>tl σ H λx H1=>∃a,x=.ref a/\(∃xs,bJ K H1 a xs)/\R (OQ K a) H1
def Vu (K:FG9) (tl:TE):TI:=λσ H R=>tl σ H λx H1=>∃a,x=.ref a/\(∃xs,nG K H1 a xs)/\R (Si K a) H1
theorem b7 (hl:PE X l tl):PI X tg l (Ob X.K tl):=by
 intro pins s σ H R I h;refine iX (hl pins s σ H _ I h) λv s1 #[x,H1,I1,r1,q1]=>?_
 obtain a|e|⟨xs,hq⟩|q:=q1;subst e;cases r1;obtain its|rv|p|hz:=I1.list hq;refine wpAny_pyIter_list p.isList ?_;refine #[s1.6,[s1.6],_,_,H1,rfl,I1.kept (t':=s1.toks) λb o e=>Heap.get?_push_of_some _ e,K8 a _,#[_,Heap.get?_push_size _ rfl,rfl,rfl],λb hb=>?_,q];have e:b=s1.6:=by simpa using hb
 subst e;exact I1.fpOk (ar _) (I1.hok.fresh (ar _))
theorem Ny (hl:PE X l tl):PI X tg l (Vu X.K tl):=by
 intro pins s σ H R I h;refine iX (hl pins s σ H _ I h) λv s1 #[x,H1,I1,r1,q1]=>?_
 obtain a|e|⟨xs,hq⟩|q:=q1;subst e;cases r1;obtain its|rv|p|hz:=I1.tuple hq;refine wpAny_pyIter_tuple (show s1.heap.IsTuple a its.toArray from p) ?_;refine #[s1.6,[s1.6],_,_,H1,rfl,I1.kept (t':=s1.toks) λb o e=>Heap.get?_push_of_some _ e,ID a _,#[_,Heap.get?_push_size _ rfl,rfl,rfl],λb hb=>?_,q];have e:b=s1.6:=by simpa using hb
 subst e;exact I1.fpOk (ar _) (I1.hok.fresh (ar _))
theorem Nq {σ:St} {lo hi:Int} (I:Inv X pins σ H s) (h1:-(2^62)<=lo) (h2:lo < 2^62) (h3:-(2^62)<=hi) (h4:hi < 2^62)
  (q:R (KZ lo (hi - lo).toNat) H):wpAny (model X.prog X.w) X.A (pyIter (.ref s.6)) (PIE X pins σ tg R) E { s with heap:=s.heap.push { cls:=.type "range",data:=.fields [.int lo t,.int hi u,.int 1 v].toArray },toks:=tk }:=by
 refine wpAny_pyIter_range (IsRange.new ..) (small_one h1 h2 h3 h4) ?_;have I1:Inv X pins σ H { s with heap:=s.heap.push { cls:=.type "range",data:=.fields [.int lo t,.int hi u,.int 1 v].toArray },toks:=tk }:=I.kept λb o e=>Heap.get?_push_of_some _ e
 refine #[(s.heap.push { cls:=.type "range",data:=.fields [.int lo t,.int hi u,.int 1 v].toArray }).objs.size,[(s.heap.push { cls:=.type "range",data:=.fields [.int lo t,.int hi u,.int 1 v].toArray }).objs.size],_,_,H,rfl,
  I1.kept (t':=tk) λb o e=>Heap.get?_push_of_some _ e,IE _ lo (hi - lo).toNat,?_,λb hb=>?_,q]
 ·have e1:lo+((0:Nat):Int)*1=lo:=by simp
  have e2:(((hi - lo).toNat:Nat):Int) - ((0:Nat):Int)=Builtin.Range.rangeSize lo hi 1:=by rw[rangeSize_one];split <;> lia
  show IsRangeIter _ _ (lo+((0:Nat):Int)*1) ((((hi - lo).toNat:Nat):Int) - ((0:Nat):Int)) 1
  rw[e1,e2];exact Heap.get?_push_size _ rfl
 ·have e:b=(s.heap.push { cls:=.type "range",data:=.fields [.int lo t,.int hi u,.int 1 v].toArray }).objs.size:=by simpa using hb
  subst e;exact I1.fpOk (ar _) (I1.hok.fresh (ar _))
def RO (ta:TA):TI:=λσ H R=>ta σ H λvs H1=>∃j:Int,vs=[.int j]/\-(2^62)<=j/\j < 2^62/\R (KZ 0 j.toNat) H1
theorem cC {a:Expr} {ta:TA} {p pos:Pos} (hg:Gl X "range") (hm:X.mg "range"=none) (ha:PA X [a] ta) (hs:starEach [a] X.env=[(false,eval a X.env)]:=by rfl):PI X tg (.Call (.Name "range" p) [a] [] pos) (RO ta):=by
 intro pins s σ H R I h;refine Call_ (pZ I hg hm boot_range (PyProof.Rows.callWith_type1 (iX (ha pos pins s σ H _ I h) λus s1 #[vs,H1,I1,r1,q1]=>?_) hs rfl));obtain j|e|q1|q2|q:=q1;subst e;cases r1 with
 | cons r rr =>
  cases rr;obtain t|rfl:=r;exact call_range_1 (Nq I1 () () q1 q2 (by simpa using q))
def US (wi:TI) (g:TG) (tb:TS):TS:=λD σ H=>wi σ H λJ H1=>∃W:Nat->Nat->St->Hp->Prop,(∃m,W 0 m σ H1)/\∀i m σ H,W i m σ H →
 (J.stop i H/\D.nx σ H)\/(J.go i H/\∃N:St->Hp->Prop,(∀σ' H',N σ' H'->∃m',m' < m/\W (i+1) m' σ' H')/\∀x H',J.yld i H x H'->g x σ H' λσ2 H2=>tb { D with nx:=N,ct:=N,bk:=D.nx } σ2 H2)
def BB (fp:List Addr) (h:Heap):List (Addr×Obj):=fp.filterMap λb=>(h.get? b).map λo=>(b,o)
theorem sO (hb:b∈fp) (e:h.get? b=some o):(b,o)∈BB fp h:=List.mem_filterMap.mpr #[b,hb,by rw[e];rfl]
theorem LI (hp:p∈BB fp h):p.1∈fp/\h.get? p.1=some p.2:=by
 obtain b|hb|e:=List.mem_filterMap.mp hp;cases q:h.get? b with
 | none=>rw[q] at e;cases e
 | some o =>
  rw[q] at e;have e':(b,o)=p:=cm e;subst e';exact #[hb,q]
theorem Inv.pinned {σ:St} (I:Inv X pins σ H s) (hf:∀b∈fp,lZ X pins H b) (ho:∀b∈fp,∃o,s.heap.get? b=some o/\∀v,o.data≠.cell v):Inv X (pins++BB fp s.8) σ H s :=
 I.pins_of λp hp=>(aw.mp hp).elim (λz=>I.pin p (bU _ z)) λz=>by
  obtain hb|e:=LI z;obtain f0|f1|f2|_:=hf p.1 hb;obtain o|e'|d:=ho p.1 hb;rw[e] at e';cases e';exact #[e,f0,f1,f2,d]
theorem Inv.unpinned {σ:St} (I:Inv X (pins++pl) σ H s):Inv X pins σ H s:=I.pins_of λp hp=>I.pin p (bU _ (lD _ hp))
theorem dW {iter:Expr} {body:List Stmt} {wi:TI} {g:TG} {tb:TS} {pos:Pos} (hp:PassesOwn (model X.prog X.w) X.A X.env X.xe) (hc:X.calm=true) (hi:PI X tg iter wi) (hg:PG X tg g) (hb:JG X body tb)
  (hs:∀x,foldedSetIterable iter X.env x=pure x:=by intro _;rfl):PS X (.For tg iter body [] pos) (US wi g tb):=by
 intro pins s σ H D I h;refine wpAny_For (iX (hi pins s σ H _ I h) λv s1 h1=>iX h1 λitv s2 h2=>?_) hs;obtain it|fp|tn|J|H2|e|I2|T|st2|f2|W|⟨m0,w0⟩|turn:=h2;subst e;have stat:∀{H':Hp},(∀b∈fp,H' b=none)->∀b∈fp,lZ X pins H' b:=λhn b hb=>#[hn b hb,(f2 b hb).2]
 refine codeAny_forLoop_any (λn s'=>∃i σ' H',Inv X pins σ' H' s'/\tn i s'.8/\(∀b∈fp,H' b=none)/\W i n σ' H') ?_ m0 #[0,σ,H2,I2,st2,λb hb=>(f2 b hb).1,w0];rintro n s3 ⟨i,σ3,H3,I3,st3,fr3,w3⟩;rcases turn i n σ3 H3 w3 with ⟨stop,qn⟩ | ⟨go,N,hN,step⟩
 ·refine wpAny_passesOwn hp (iX (T.done X rfl rfl rfl hc i pins s3 σ3 H3 X.xe I3 (stat fr3) st3 stop) λr s4 #[hr,I4]=>?_);subst hr;exact wpAny_execs_nil #[σ3,H3,I4,qn]
 ·refine wpAny_passesOwn hp (iX (T.item X rfl rfl rfl hc i pins s3 σ3 H3 X.xe I3 (stat fr3) st3 go) λr s4 #[u,hr,h4]=>?_);subst hr;refine wpAny_passesOwn hp (iX h4 λ_ s5 #[x,H5,I5,r5,y5,st5,fr5]=>?_);have I5':=I5.pinned (stat fr5) (T.obj _ _ st5);refine wpAny_passesOwn hp (iX (hg _ s5 σ3 H5 x u _ I5' r5 (step x H5 y5)) λ_ s6 #[σ6,H6,I6,q6]=>?_);refine wpAny_passesOwn hp (iX (hb _ s6 σ6 H6 _ I6 q6) λf s7 q7=>?_)
  have again:∀{σ7:St} {H7:Hp},Inv X (pins++BB fp s5.8) σ7 H7 s7->N σ7 H7->∃m,m < n/\∃i σ' H',Inv X pins σ' H' s7/\tn i s7.8/\(∀b∈fp,H' b=none)/\W i m σ' H':=λ{σ7 H7} I7 n7=>by
   obtain m'|hm|w7:=hN σ7 H7 n7;refine #[m',hm,i+1,σ7,H7,I7.unpinned,T.keep _ _ _ st5 λb hb o e=>(I7.pin (b,o) (bU _ (bU _ (sO hb e)))).1,λb hb=>?_,w7];obtain o|e|d:=T.obj _ _ st5 b hb;exact (I7.pin (b,o) (bU _ (bU _ (sO hb e)))).2.1
  cases f with
  | next=>obtain σ7|H7|I7|n7:=q7;exact again I7 n7
  | cont=>obtain σ7|H7|I7|n7:=q7;exact again I7 n7
  | brk=>obtain σ7|H7|I7|q7:=q7;exact #[σ7,H7,I7.unpinned,q7]
  | ret v=>obtain x7|σ7|H7|I7|r7|q7:=q7;exact #[x7,σ7,H7,I7.unpinned,r7,q7]
end
theorem ib {K:FG9} {g:TG} {tb:TS} {D:Ends} (Pv:Nat->St->Hp->Prop) (h0:Pv 0 σ H) (hl:∀i σ H,i<=xs.9->Pv i σ H->bJ K H a xs)
  (hs:∀i x σ H,xs[i]?=some x->Pv i σ H->g x σ H λσ2 H2=>tb { D with nx:=Pv (i+1),ct:=Pv (i+1),bk:=D.nx } σ2 H2) (hd:∀σ H,Pv xs.9 σ H->D.nx σ H) :
  ∃W:Nat->Nat->St->Hp->Prop,(∃m,W 0 m σ H)/\∀i m σ H,W i m σ H →
   ((OQ K a).stop i H/\D.nx σ H)\/((OQ K a).go i H/\∃N:St->Hp->Prop,(∀σ' H',N σ' H'->∃m',m' < m/\W (i+1) m' σ' H')/\∀x H',(OQ K a).yld i H x H'->g x σ H' λσ2 H2=>tb { D with nx:=N,ct:=N,bk:=D.nx } σ2 H2):=by
 refine #[λi m σ H=>m=xs.9 - i/\i<=xs.9/\Pv i σ H,#[xs.9,by simp,bW _,h0],?_];rintro i m σ H ⟨rfl,hi,p⟩;have q:=hl i σ H hi p;by_cases hlt:i < xs.9
 ·refine .inr #[#[xs,xs[i],q,by simp [hlt]],Pv (i+1),λσ' H' p'=>#[xs.9 - (i+1),(),rfl,hlt,p'],λx H' y=>?_];obtain e|y:=y;subst e;exact hs i x σ _ (y xs q) p
 ·have e:i=xs.9:=()
  subst e;exact .inl #[#[xs,q,ar _],hd σ H p]
theorem Qz {K:FG9} {g:TG} {tb:TS} {D:Ends} (Pv:Nat->St->Hp->Prop) (h0:Pv 0 σ H) (hl:∀i σ H,i<=xs.9->Pv i σ H->nG K H a xs)
  (hs:∀i x σ H,xs[i]?=some x->Pv i σ H->g x σ H λσ2 H2=>tb { D with nx:=Pv (i+1),ct:=Pv (i+1),bk:=D.nx } σ2 H2) (hd:∀σ H,Pv xs.9 σ H->D.nx σ H) :
  ∃W:Nat->Nat->St->Hp->Prop,(∃m,W 0 m σ H)/\∀i m σ H,W i m σ H →
   ((Si K a).stop i H/\D.nx σ H)\/((Si K a).go i H/\∃N:St->Hp->Prop,(∀σ' H',N σ' H'->∃m',m' < m/\W (i+1) m' σ' H')/\∀x H',(Si K a).yld i H x H'->g x σ H' λσ2 H2=>tb { D with nx:=N,ct:=N,bk:=D.nx } σ2 H2):=by
 refine #[λi m σ H=>m=xs.9 - i/\i<=xs.9/\Pv i σ H,#[xs.9,by simp,bW _,h0],?_];rintro i m σ H ⟨rfl,hi,p⟩;have q:=hl i σ H hi p;by_cases hlt:i < xs.9
 ·refine .inr #[#[xs,xs[i],q,by simp [hlt]],Pv (i+1),λσ' H' p'=>#[xs.9 - (i+1),(),rfl,hlt,p'],λx H' y=>?_];obtain e|y:=y;subst e;exact hs i x σ _ (y xs q) p
 ·have e:i=xs.9:=()
  subst e;exact .inl #[#[xs,q,ar _],hd σ H p]
theorem LV {lo:Int} {g:TG} {tb:TS} {D:Ends} (Pv:Nat->St->Hp->Prop) (h0:Pv 0 σ H)
  (hs:∀i σ H,i < n->Pv i σ H->g (.int (lo+i)) σ H λσ2 H2=>tb { D with nx:=Pv (i+1),ct:=Pv (i+1),bk:=D.nx } σ2 H2) (hd:∀σ H,Pv n σ H->D.nx σ H) :
  ∃W:Nat->Nat->St->Hp->Prop,(∃m,W 0 m σ H)/\∀i m σ H,W i m σ H →
   ((KZ lo n).stop i H/\D.nx σ H)\/((KZ lo n).go i H/\∃N:St->Hp->Prop,(∀σ' H',N σ' H'->∃m',m' < m/\W (i+1) m' σ' H')/\∀x H',(KZ lo n).yld i H x H'->g x σ H' λσ2 H2=>tb { D with nx:=N,ct:=N,bk:=D.nx } σ2 H2):=by
 refine #[λi m σ H=>m=n - i/\i<=n/\Pv i σ H,#[n,by simp,bW _,h0],?_];rintro i m σ H ⟨rfl,hi,p⟩;by_cases hlt:i < n
 ·refine .inr #[hlt,Pv (i+1),λσ' H' p'=>#[n - (i+1),(),rfl,hlt,p'],λx H' y=>?_];obtain e|y:=y;subst e y;exact hs i σ _ hlt p
 ·have e:i=n:=()
  subst e;exact .inl #[ar _,hd σ H p]
abbrev R2:=V->V->Hp->VK->Prop
def C7 (X:Cx) (f:Value->Value->Sem Value) (r:R2):Prop :=
 ∀(pins:List (Addr×Obj)) (s:Shared) (σ:St) (H:Hp) (x y:V) (v u:Value) (Q:VK),Inv X pins σ H s->RelV x v->RelV y u->r x y H Q →
  wpAny (model X.prog X.w) X.A (f v u) (EP X pins σ Q) X.xe s
def Wj (X:Cx) (f:Value->Sem Value) (r:V->Hp->VK->Prop):Prop :=
 ∀(pins:List (Addr×Obj)) (s:Shared) (σ:St) (H:Hp) (x:V) (v:Value) (Q:VK),Inv X pins σ H s->RelV x v->r x H Q →
  wpAny (model X.prog X.w) X.A (f v) (EP X pins σ Q) X.xe s
def rn (X:Cx) (f:Value) (r:List V->Hp->VK->Prop):Prop :=
 ∀(pins:List (Addr×Obj)) (s:Shared) (σ:St) (H:Hp) (xs:List V) (us:List Value) (Q:VK),Inv X pins σ H s->di xs us->r xs H Q →
  wpAny (model X.prog X.w) X.A (call f us) (EP X pins σ Q) X.xe s
def UO (r:R2) (ta tb:TE):TE:=λσ H Q=>ta σ H λx H1=>tb σ H1 λy H2=>r x y H2 Q
def VT (r:V->Hp->VK->Prop) (ta:TE):TE:=λσ H Q=>ta σ H λx H1=>r x H1 Q
def rI (C:Int->Int->Prop) (g:Int->Int->V):R2:=λx y H Q=>∃i j,x=.int i/\y=.int j/\C i j/\Q (g i j) H
def Qi (g:Int->Int->V):R2:=λx y H Q=>∃i j,x=.int i/\y=.int j/\Q (g i j) H
def rU (g:Int->V):V->Hp->VK->Prop:=λx H Q=>∃i,x=.int i/\Q (g i) H
section
variable {X:Cx} {a b c:Expr} {ta tb tc:TE} {pos:Pos}
theorem T9 (ha:PE X a ta) (hb:PE X b tb) {σ:St} {R:V->V->Hp->Prop} (I:Inv X pins σ H s)
  (h:ta σ H λx H1=>tb σ H1 λy H2=>R x y H2) {f:Value->Value->Sem Value}
  (hf:∀v u s2 x y H2,Inv X pins σ H2 s2->RelV x v->RelV y u->R x y H2->wpAny (model X.prog X.w) X.A (f v u) Q X.xe s2) :
  wpAny (model X.prog X.w) X.A (eval a X.env) (λv s₁=>wpAny (model X.prog X.w) X.A (eval b X.env) (λu s₂=>wpAny (model X.prog X.w) X.A (f v u) Q X.xe s₂) X.xe s₁) X.xe s:=by
 refine iX (ha pins s σ H _ I h) λv s1 #[x,H1,I1,r1,q1]=>?_
 refine iX (hb pins s1 σ H1 _ I1 q1) λu s2 #[y,H2,I2,r2,q2]=>?_
 exact hf v u s2 x y H2 I2 r1 r2 q2
theorem bA (ho:C7 X (binaryOp op) r) (ha:PE X a ta) (hb:PE X b tb):PE X (.BinOp a op b pos) (UO r ta tb):=by
 intro pins s σ H Q I h;exact wpAny_BinOp (T9 ha hb I h λv u s2 x y H2 I2 rx ry q=>ho pins s2 σ H2 x y v u Q I2 rx ry q)
theorem vC (ho:Wj X (unaryOp op) r) (ha:PE X a ta):PE X (.UnaryOp op a pos) (VT r ta):=by
 intro pins s σ H Q I h;exact UnaryOp_ (iX (ha pins s σ H _ I h) λv s1 #[x,H1,I1,r1,q1]=>ho pins s1 σ H1 x v Q I1 r1 q1)
theorem Wa {g:Int->Int->Int}
  (rule:∀(i j:Int) (t u:Tok) (s:Shared) (Q:Value->Shared->Prop) (E:Value->Shared->Prop),C i j->Q (.int (g i j) s.toks) { s with toks:=s.toks+1 }->wpAny (model X.prog X.w) X.A (f (.int i t) (.int j u)) Q E s) :
  C7 X f (rI C λi j=>.int (g i j)):=by
 intro pins s σ H x y v u Q I rx ry h;obtain i|j|rfl|rfl|hc|q:=h;obtain t|rfl:=rx;obtain t'|rfl:=ry;exact rule i j t t' s _ _ hc #[.int (g i j),H,I.tok _,#[_,rfl],q]
theorem Vj {g:Int->Int->Int}
  (rule:∀(i j:Int) (t u:Tok) (s:Shared) (Q:Value->Shared->Prop) (E:Value->Shared->Prop),Q (.int (g i j) s.toks) { s with toks:=s.toks+1 }->wpAny (model X.prog X.w) X.A (f (.int i t) (.int j u)) Q E s) :
  C7 X f (Qi λi j=>.int (g i j)):=by
 intro pins s σ H x y v u Q I rx ry h;obtain i|j|rfl|rfl|q:=h;obtain t|rfl:=rx;obtain t'|rfl:=ry;exact rule i j t t' s _ _ #[.int (g i j),H,I.tok _,#[_,rfl],q]
theorem Qo {g:Int->Int->Bool}
  (rule:∀(i j:Int) (t u:Tok) (s:Shared) (Q:Value->Shared->Prop) (E:Value->Shared->Prop),Q (.bool (g i j)) s->wpAny (model X.prog X.w) X.A (f (.int i t) (.int j u)) Q E s) :
  C7 X f (Qi λi j=>.bl (g i j)):=by
 intro pins s σ H x y v u Q I rx ry h;obtain i|j|rfl|rfl|q:=h;obtain t|rfl:=rx;obtain t'|rfl:=ry;exact rule i j t t' s _ _ #[.bl (g i j),H,I,rfl,q]
def Um (i j:Int):Prop:=(-(2^64) < i/\i < 2^64)\/(-(2^64) < j/\j < 2^64)
theorem Um.ok (h:Um i j):IntMulOk i j:=by
 rcases h with ⟨h1,h2⟩ | ⟨h1,h2⟩
 ·exact .of_left (intBits_le_64 h1 h2)
 ·exact .of_right (intBits_le_64 h1 h2)
theorem gN:C7 X (binaryOp .Add) (Qi λi j=>.int (i+j)):=Vj λ_ _ _ _ _ _ _ q=>add_int q
theorem nV:C7 X (binaryOp .Sub) (Qi λi j=>.int (i - j)):=Vj λ_ _ _ _ _ _ _ q=>sub_int q
theorem pQ:C7 X (binaryOp .Mod) (rI (λ_ j=>0 < j) λi j=>.int (i % j)):=Wa λi j _ _ _ _ _ hc q=>by
 have h1:(0:Int) < j:=hc;exact mod_int' () (by rw[Int.fmod_eq_emod_of_nonneg i ()];exact q)
theorem Qn:C7 X (binaryOp .Mod) (rI (λ_ j=>j≠0) λi j=>.int (i.fmod j)):=Wa λ_ _ _ _ _ _ _ hc q=>mod_int' hc q
theorem unI {g:Int->Int}
  (rule:∀(i:Int) (t:Tok) (s:Shared) (Q:Value->Shared->Prop) (E:Value->Shared->Prop),Q (.int (g i) s.toks) { s with toks:=s.toks+1 }->wpAny (model X.prog X.w) X.A (f (.int i t)) Q E s) :
  Wj X f (rU λi=>.int (g i)):=by
 intro pins s σ H x v Q I rx h;obtain i|rfl|q:=h;obtain t|rfl:=rx;exact rule i t s _ _ #[.int (g i),H,I.tok _,#[_,rfl],q]
theorem pB:Wj X (unaryOp .USub) (rU λi=>.int (-i)):=unI λ_ _ _ _ _ q=>neg_int q
end
def U1:V->V->Bool
 | .non,.non=>true | .non,.int _=>true | .int _,.non=>true | .non,.bl _=>true | .bl _,.non=>true | .non,.str _=>true | .str _,.non=>true
 | .int _,.int _=>true | .bl _,.bl _=>true | .str _,.str _=>true | .byt _,.byt _=>true
 | .int _,.str _=>true | .str _,.int _=>true | .bl _,.str _=>true | .str _,.bl _=>true
 | _,_=>false
def rEq:R2:=λx y H Q=>U1 x y=true/\Q (.bl (decide (x=y))) H
def rNe:R2:=λx y H Q=>U1 x y=true/\Q (.bl (!decide (x=y))) H
theorem KJ:decide (V.int i=V.int j)=(i == j):=by
 rw[tQ];simp
theorem OA:decide (V.bl i=V.bl j)=(i == j):=by
 rw[tQ];simp
theorem KI:decide (V.str i=V.str j)=(i == j):=by
 rw[tQ];simp
theorem KL:decide (V.byt i=V.byt j)=(i.toList == j.toList):=by
 rw[tQ];cases i;cases j;simp
section
variable {X:Cx} {a b c:Expr} {ta tb tc:TE} {pos:Pos}
theorem d7 {σ:St} (I:Inv X pins σ H s) (q:Q (.bl k) H) (e:k=k'):EP X pins σ Q (.bool k') s:=by
 subst e;exact #[.bl k,H,I,rfl,q]
theorem ik:C7 X (compareOp .Eq) rEq:=by
 intro pins s σ H x y v u Q I rx ry h;obtain hs|q:=h;cases x with
 | non =>
  cases rx;cases y with
  | non=>cases ry;exact PySem.EqNone.eq_none_none (d7 I q (by simp))
  | bl j=>cases ry;exact PySem.EqNone.eq_none_bool (d7 I q (by simp))
  | int j=>obtain t'|rfl:=ry;exact PySem.EqNone.eq_none_int (d7 I q (by simp))
  | str j=>obtain t'|rfl:=ry;exact PySem.EqNone.eq_none_str (d7 I q (by simp))
  | _=>exact absurd (show false=true from hs) bF
 | bl i =>
  cases rx;cases y with
  | non=>cases ry;exact PySem.EqNone.eq_bool_none (d7 I q (by simp))
  | bl j=>cases ry;exact eq_bool (d7 I q OA)
  | str j=>obtain t'|rfl:=ry;exact PySem.EqMixed.eq_bool_str (d7 I q (by simp))
  | _=>exact absurd (show false=true from hs) bF
 | int i =>
  obtain t|rfl:=rx;cases y with
  | non=>cases ry;exact PySem.EqNone.eq_int_none (d7 I q (by simp))
  | int j=>obtain t'|rfl:=ry;exact eq_int (d7 I q KJ)
  | str j=>obtain t'|rfl:=ry;exact PySem.EqMixed.eq_int_str (d7 I q (by simp))
  | _=>exact absurd (show false=true from hs) bF
 | str i =>
  obtain t|rfl:=rx;cases y with
  | non=>cases ry;exact PySem.EqNone.eq_str_none (d7 I q (by simp))
  | bl j=>cases ry;exact PySem.EqMixed.eq_str_bool (d7 I q (by simp))
  | int j=>obtain t'|rfl:=ry;exact PySem.EqMixed.eq_str_int (d7 I q (by simp))
  | str j=>obtain t'|rfl:=ry;exact eq_str (d7 I q KI)
  | _=>exact absurd (show false=true from hs) bF
 | byt i =>
  obtain t|rfl:=rx;cases y with
  | byt j=>obtain t'|rfl:=ry;exact PySem.W.eq_bytes (d7 I q KL)
  | _=>exact absurd (show false=true from hs) bF
 | _=>cases y <;> exact absurd (show false=true from hs) bF
theorem zB:C7 X (compareOp .NotEq) rNe:=by
 intro pins s σ H x y v u Q I rx ry h;obtain hs|q:=h;cases x with
 | non =>
  cases rx;cases y with
  | non=>cases ry;exact PySem.EqNone.ne_none_none (d7 I q (by simp))
  | bl j=>cases ry;exact PySem.EqNone.ne_none_bool (d7 I q (by simp))
  | int j=>obtain t'|rfl:=ry;exact PySem.EqNone.ne_none_int (d7 I q (by simp))
  | str j=>obtain t'|rfl:=ry;exact PySem.EqNone.ne_none_str (d7 I q (by simp))
  | _=>exact absurd (show false=true from hs) bF
 | bl i =>
  cases rx;cases y with
  | non=>cases ry;exact PySem.EqNone.ne_bool_none (d7 I q (by simp))
  | bl j=>cases ry;exact ne_bool (d7 I q (congrArg not OA))
  | str j=>obtain t'|rfl:=ry;exact PySem.EqMixed.ne_bool_str (d7 I q (by simp))
  | _=>exact absurd (show false=true from hs) bF
 | int i =>
  obtain t|rfl:=rx;cases y with
  | non=>cases ry;exact PySem.EqNone.ne_int_none (d7 I q (by simp))
  | int j=>obtain t'|rfl:=ry;exact ne_int (d7 I q (congrArg not KJ))
  | str j=>obtain t'|rfl:=ry;exact PySem.EqMixed.ne_int_str (d7 I q (by simp))
  | _=>exact absurd (show false=true from hs) bF
 | str i =>
  obtain t|rfl:=rx;cases y with
  | non=>cases ry;exact PySem.EqNone.ne_str_none (d7 I q (by simp))
  | bl j=>cases ry;exact PySem.EqMixed.ne_str_bool (d7 I q (by simp))
  | int j=>obtain t'|rfl:=ry;exact PySem.EqMixed.ne_str_int (d7 I q (by simp))
  | str j=>obtain t'|rfl:=ry;exact ne_str (d7 I q (congrArg not KI))
  | _=>exact absurd (show false=true from hs) bF
 | byt i =>
  obtain t|rfl:=rx;cases y with
  | byt j=>obtain t'|rfl:=ry;exact PySem.W.ne_bytes (d7 I q (congrArg not KL))
  | _=>exact absurd (show false=true from hs) bF
 | _=>cases y <;> exact absurd (show false=true from hs) bF
theorem vF:C7 X (compareOp .Lt) (Qi λi j=>.bl (decide (i < j))):=Qo λ_ _ _ _ _ _ _ q=>lt_int q
theorem Vi:C7 X (compareOp .LtE) (Qi λi j=>.bl (decide (i<=j))):=Qo λ_ _ _ _ _ _ _ q=>le_int q
theorem xy:C7 X (compareOp .Gt) (Qi λi j=>.bl (decide (j < i))):=Qo λ_ _ _ _ _ _ _ q=>gt_int q
theorem BH:C7 X (compareOp .GtE) (Qi λi j=>.bl (decide (j<=i))):=Qo λ_ _ _ _ _ _ _ q=>ge_int q
theorem bI (b:Expr) {op:CmpOp} (h:op≠.In:=by decide) (h2:op≠.NotIn:=by decide):behindInMarks op b=false:=by
 have e1:(op == CmpOp.In)=false:=by cases op <;> first | rfl | exact absurd rfl h
 have e2:(op == CmpOp.NotIn)=false:=by cases op <;> first | rfl | exact absurd rfl h2
 cases b <;> simp [behindInMarks,e1,e2]
theorem jM (ho:C7 X (compareOp op) r) (ha:PE X a ta) (hb:PE X b tb) (hm:behindInMarks op b=false):PE X (.Compare a [op] [b] pos) (UO r ta tb):=by
 intro pins s σ H Q I h;exact wpAny_Compare1 (T9 ha hb I h λv u s2 x y H2 I2 rx ry q=>ho pins s2 σ H2 x y v u Q I2 rx ry q) hm
def Ri (t:TE):TT:=λσ H Q=>t σ H λx H'=>∃k,x=.bl k/\Q k H'
theorem bC (ho:C7 X (compareOp op) r) (ha:PE X a ta) (hb:PE X b tb) (hm:behindInMarks op b=false):PT X (.Compare a [op] [b] pos) (Ri (UO r ta tb)):=by
 intro pins s σ H Q I h
 refine wpAny_isTrue_Compare1 (iX (ha pins s σ H _ I h) λv s1 #[x,H1,I1,r1,q1]=>iX (hb pins s1 σ H1 _ I1 q1) λu s2 #[y,H2,I2,r2,q2] =>
  iX (ho pins s2 σ H2 x y v u _ I2 r1 r2 q2) λc s3 #[z,H3,I3,r3,k,e,q3]=>?_) hm
 subst e;cases r3;exact wpAny_truthy_bool #[H3,I3,q3]
theorem BX:(sizeLine:Nat) < 2^63:=by rw[sizeLine_eq];decide
theorem vals1 (r:di [x] us):∃u,us=[u]/\RelV x u:=by
 cases r with
 | cons r1 r2=>cases r2;exact #[_,rfl,r1]
theorem vals2 (r:di [x,y] us):∃u w',us=[u,w']/\RelV x u/\RelV y w':=by
 cases r with
 | cons r1 r2 =>
  cases r2 with
  | cons r3 r4=>cases r4;exact #[_,_,rfl,r1,r3]
theorem xY:rn X (.builtin "abs") (λxs H Q=>∃i,xs=[.int i]/\Q (.int (if i < 0 then -i else i)) H):=by
 intro pins s σ H xs us Q I r h;obtain i|rfl|q:=h;obtain u|rfl|t|rfl:=vals1 r;exact call_abs_int λu tk=>#[.int (if i < 0 then -i else i),H,I.tok _,#[_,rfl],q]
theorem qR (hc:X.calm=true):rn X (.builtin "min") (λxs H Q=>∃i j,xs=[.int i,.int j]/\Q (.int (if j < i then j else i)) H):=by
 intro pins s σ H xs us Q I r h;obtain i|j|rfl|q:=h;obtain u|w'|rfl|⟨t,rfl⟩|⟨t',rfl⟩:=vals2 r;refine min_two_ints (I.ok.hd hc) λh' tk k=>#[_,H,I.kept k,?_,q]
 by_cases hj:j < i
 ·rw[if_pos hj,if_pos hj];exact #[_,rfl]
 ·rw[if_neg hj,if_neg hj];exact #[_,rfl]
end
structure JH (h:Heap) (x dx C:Addr) (mA:Str->Option Value):Prop where
 obj:h.get? x=some (PySem.W.instObj C dx)
 ns:h.Ns1 dx mA
 ne:dx≠x
theorem LN {h:Heap} (n:h.Ns1 dx mA):∃od,h.get? dx=some od/\∀name,PySem.W.lookIn name od=some (mA name):=by
 obtain o|es|ep|ho|hd|hk|_|hm:=n;refine #[o,ho,λname=>?_];have e:=hm name;unfold nsFind findBy at e;rw[<- Array.find?_toList] at e;unfold PySem.W.lookIn;rw[hd]
 dsimp only
 split
 ·rename_i y q
  rw[q] at e;exact congrArg some e
 ·rename_i q
  rw[q] at e
  have a:es.toList.any (·.refKey)=false:=by
   rw[List.any_eq_false];intro y hy;obtain z|t|hkey:=hk y (Array.mem_toList_iff.mp hy);simp [DictEntry.refKey,hkey]
  have a':¬es.toList.any (·.refKey)=true:=by rw[a];exact bF
  rw[if_neg a'];exact congrArg some e
theorem JH.look (I:JH h x dx C mA):∃od,PySem.W.InstAt h x (PySem.W.instObj C dx) C (some od)/\∀name,PySem.W.lookIn name od=some (mA name) :=
 let ⟨od,ho,hl⟩:=LN I.ns
 #[od,#[I.obj,rfl,rfl,ho],hl]
section
variable {prog:Program} {w:World} {A:Around} {E:Value->Shared->Prop} {s:Shared} {K:FG9} {x dx C f:Addr} {mA:Str->Option Value} {name:Str} {v:Value}
theorem get_map (X:K.In s.8) (I:JH s.heap x dx C mA) (hg:PySem.W.plainGet K C name=true) (hh:PySem.W.hasDictIn K C=true)
  (ha:PySem.W.findIn K (.ref C) name=some none) (hv:mA name=some v) (hv':PySem.W.handedIn v=true) (h:Q v { s with toks:=s.toks+1 }) :
  wpAny (model prog w) A (getAttr (.ref x) name expr) Q E s:=by
 obtain od|J|hl:=I.look;exact PySem.W.get_value X J (F3 hg).1 (PySem.W.findObj_own hh ha rfl (by rw[hl,hv])) hv' h
theorem Oh (X:K.In s.8) (I:JH s.heap x dx C mA) (hg:PySem.W.plainGet K C name=true)
  (hf:PySem.W.findIn K (.ref C) name=some (some (.ref f))) (ht:PySem.W.isFn K (.ref f)=true) (hv:mA name=none) (h:Q (.ref f,[.ref x]) s) :
  wpAny (model prog w) A (getMethod (.ref x) name pl) Q E s:=by
 obtain od|J|hl:=I.look;exact PySem.W.method_fn X J (F3 hg).1 (F3 hg).2 hf (beq_iff_eq.mp ht) (by show (PySem.W.lookIn name od).map (·.isSome)=some false;rw[hl,hv];rfl) h
theorem Px (X:K.In s.8) (I:JH s.heap x dx C mA)
  (hs:PySem.W.findIn K (.ref C) "__setattr__"=some (some (.builtin "object.__setattr__"))) (hp:PySem.W.plainOver K C=true) (ht:PySem.W.takerIn K C name=some none) (hh:PySem.W.hasDictIn K C=true)
  (hw:PySem.Within mA ns) (hsz:ns.9<=sizeLine)
  (h:∀h',JH h' x dx C (λy=>if y=name then some v else mA y)->Heap.SameBut dx s.heap h'->Q .unit { s with heap:=h',toks:=s.toks+2 }) :
  wpAny (model prog w) A (setAttr (.ref x) name v) Q E s:=by
 obtain od|J|hl:=I.look;refine PySem.W.set_plain X J hs (PySem.W.osa_open (s:={ s with toks:=s.toks+1 }) (r:=none) X J hp ht λb=>?_);obtain cd|hc|hd':=PySem.W.any_some hh;have hx:s.heap.get? x=some #[.ref C,some dx,.plain,[].toArray]:=I.obj;refine wpAny_bind (wpAny_pure (wpAny_bind (wpAny_bind (wpAny_loadPart hx (wpAny_bind (PySem.W.Looks.here (s:={ s with toks:=s.toks+1 }) (PySem.W.looks_clsIn X hc) ?_))))));rw[hd'];refine wpAny_pure (a:=some dx) (wpAny_bind (wpAny_pure (wpAny_bind ?_)));refine wpAny_nsSet1 (s:={ s with toks:=s.toks+1 }) I.ns λh' hn2 hs2=>?_
 obtain oD|esD|epD|hoD|hdD|hcD:=hn2.count (PySem.Within.cons name v hw);refine wpAny_bind (wpAny_lookBehind hoD (by rw[hdD];exact pastItsLine_dict (aj hcD (by rw[bV];lia))) ?_);exact wpAny_pure (h _ #[(hs2.2 _ (Ne.symm I.ne)).trans I.obj,hn2,I.ne] hs2)
theorem NU (X:K.In s.8) (hm:PySem.W.makesIn K C=true)
  (hi:PySem.W.findIn K (.ref C) "__init__"=some (some (.ref f))) (hf:PySem.W.typeIn K (.ref f)=some (.type "function"))
  (h:codeAny (model prog w) (A.under (.builtin "type.__call__" #[.ref C :: vs,kw])) (.call (.ref f) #[.ref (s.6+1) :: vs,kw]) (PySem.W.InitBack (s.6+1) R)
   { s with heap:=(s.heap.push PySem.W.emptyDict).push (PySem.W.instObj C s.6) }) :
  codeAny (model prog w) A (.call (.ref C) #[vs,kw]) R s:=by
 obtain hh|g|d|t|os:=s;exact PySem.W.make_core (PySem.W.makes_of X hm) (PySem.W.looks_findIn X hi) (λself=>PySem.W.bind_fn X self hf) (.inl rfl) h
end
def bf (f:Str) (v:V):List (Str×V)->List (Str×V)
 | []=>[(f,v)]
 | (g,x) :: r=>if g=f then (g,v) :: r else (g,x) :: bf f v r
theorem aQ (f g:Str) (v:V):∀fs:List (Str×V),(bf f v fs).lookup g=if g=f then some v else fs.lookup g
 | []=>by
  show List.lookup g [(f,v)]=_
  by_cases h:g=f
  ·have hb:(g == f)=true:=beq_iff_eq.mpr h;simp only[List.lookup,hb,if_pos h]
  ·have hb:(g == f)=false:=beq_eq_false_iff_ne.mpr h;simp only[List.lookup,hb,if_neg h]
 | (k,x) :: r=>by
  have ih:=aQ f g v r;rw[show bf f v ((k,x) :: r)=(if k=f then (k,v) :: r else (k,x) :: bf f v r) from rfl];by_cases hk:k=f
  ·rw[if_pos hk];by_cases h:g=k
   ·have hb:(g == k)=true:=beq_iff_eq.mpr h;simp only[List.lookup,hb,if_pos (h.trans hk)]
   ·have hb:(g == k)=false:=beq_eq_false_iff_ne.mpr h;simp only[List.lookup,hb,if_neg (λe:g=f=>h (e.trans hk.symm))]
  ·rw[if_neg hk];by_cases h:g=k
   ·have hb:(g == k)=true:=beq_iff_eq.mpr h;simp only[List.lookup,hb,if_neg (λe:g=f=>hk (h.symm.trans e))]
   ·have hb:(g == k)=false:=beq_eq_false_iff_ne.mpr h;simp only[List.lookup,hb];exact ih
theorem yT (f:Str) (v:V):∀fs:List (Str×V),f∈(bf f v fs).map (·.1)/\∀g,g∈fs.map (·.1)->g∈(bf f v fs).map (·.1)
 | []=>#[by simp [bf],λg h=>by simp at h]
 | (k,x) :: r=>by
  obtain i1|i2:=yT f v r;rw[show bf f v ((k,x) :: r)=(if k=f then (k,v) :: r else (k,x) :: bf f v r) from rfl];by_cases hk:k=f
  ·rw[if_pos hk];subst hk;exact #[by simp,λg h=>by simpa using h]
  ·rw[if_neg hk];refine #[?_,λg h=>?_]
   ·rw[mW];exact bR _ i1
   ·rw[mW] at h ⊢;rcases aI.mp h with e | e
    ·exact aI.mpr (.inl e)
    ·exact bR _ (i2 g e)
theorem zF (f:Str) (v:V):∀fs:List (Str×V),(bf f v fs).9<=fs.9+1
 | []=>by simp [bf]
 | (k,x) :: r=>by
  have ih:=zF f v r;rw[show bf f v ((k,x) :: r)=(if k=f then (k,v) :: r else (k,x) :: bf f v r) from rfl];by_cases hk:k=f
  ·rw[if_pos hk,bV,bV];lia
  ·rw[if_neg hk,bV,bV];lia
theorem Du.some_of (r:Du (some v) o):∃u,o=some u/\RelV v u:=by
 cases o with
 | none=>exact (show False from r).elim
 | some u=>exact #[u,rfl,r]
theorem Du.none_of (r:Du none o):o=none:=by
 cases o with
 | none=>rfl
 | some u=>exact (show False from r).elim
theorem LS (r:RelV v u):PySem.W.handedIn u=true:=by
 cases v with
 | non=>cases (show u=Value.none from r);rfl
 | bl b=>cases (show u=Value.bool b from r);rfl
 | int i=>obtain t|e:=(show ∃t,u=Value.int i t from r);cases e;rfl
 | str x=>obtain t|e:=(show ∃t,u=Value.str x t from r);cases e;rfl
 | byt b=>obtain t|e:=(show ∃t,u=Value.bytes b t from r);cases e;rfl
 | flt b=>obtain t|e:=(show ∃t,u=Value.float b t from r);cases e;rfl
 | ref a=>cases (show u=Value.ref a from r);rfl
 | ty n=>cases (show u=Value.type n from r);rfl
section
variable {P:Program} {w:World} {H H':Hp} {h h':Heap} {a C dx:Addr} {fs fs':List (Str×V)}
theorem AI (hok:AQ P w H h) (e:H a=some (.ins C dx fs)):∃mA,JH h a dx C mA/\(∀f,Du (fs.lookup f) (mA f))/\PySem.Within mA (fs.map (·.1))/\fs.9<=1000/\H dx=some (.own a):=by
 obtain d|z|ne|ob|mA|n|r|q:=(show jL P w H h a (.ins C dx fs) from hok a _ e);exact #[mA,#[ob,n,ne],r,q,z,d]
end
structure Ml (K:FG9) (C:Addr):Prop where
 pg:PySem.W.plainGet K C Str.empty=true
 hd:PySem.W.hasDictIn K C=true
 po:PySem.W.plainOver K C=true
 sa:PySem.W.findIn K (.ref C) "__setattr__"=some (some (.builtin "object.__setattr__"))
theorem Ml.get {K:FG9} (c:Ml K C) (f:Str):PySem.W.plainGet K C f=true:=c.pg
def iT (K:FG9) (C:Addr) (f:Str):Prop:=PySem.W.findIn K (.ref C) f=some none
theorem iT.taker {K:FG9} (n:iT K C f):PySem.W.takerIn K C f=some none:=by
 unfold PySem.W.takerIn;rw[show PySem.W.findIn K (.ref C) f=some none from n];rfl
structure Dw (K:FG9) (C:Addr) (m:Str) (f:Addr):Prop where
 at_:PySem.W.findIn K (.ref C) m=some (some (.ref f))
 fn:PySem.W.isFn K (.ref f)=true
 kp:PySem.W.keepIn K (.ref f)=true
section
variable {X:Cx} {pins:List (Addr×Obj)} {σ:St} {H:Hp} {s:Shared} {a C dx:Addr} {fs:List (Str×V)} {f:Str} {v:V} {A:Around} {E:Value->Shared->Prop}
theorem Jr (I:Inv X pins σ H s) (e:H a=some (.ins C dx fs)) (c:Ml X.K C) (n:iT X.K C f) (l:fs.lookup f=some v)
  (h:∀u s',Inv X pins σ H s'->RelV v u->Q u s'):wpAny (model X.prog X.w) A (getAttr (.ref a) f b) Q E s:=by
 obtain mA|O|r|_|_|_:=AI I.hok e;obtain u|hu|ru:=Du.some_of (v:=v) (o:=mA f) (by rw[<- l];exact r f);exact get_map I.kIn O (c.get f) c.hd n hu (LS ru) (h u _ (I.tok _) ru)
theorem Jq (I:Inv X pins σ H s) (e:H a=some (.ins C dx fs)) (c:Ml X.K C) (k:Dw X.K C m g) (l:fs.lookup m=none)
  (h:Q (.ref g,[.ref a]) s):wpAny (model X.prog X.w) A (getMethod (.ref a) m pl) Q E s:=by
 obtain mA|O|r|_|_|_:=AI I.hok e;have hn:mA m=none:=Du.none_of (by rw[<- l];exact r m);exact Oh I.kIn O (c.get m) k.at_ k.fn hn h
theorem IK (I:Inv X pins σ H s) (e:H a=some (.ins C dx fs)) (c:Ml X.K C) (n:iT X.K C f) (hl:fs.9 < 1000) (ry:RelV y u)
  (h:∀s',Inv X pins σ (upd H a (.ins C dx (bf f y fs))) s'->Q .unit s'):wpAny (model X.prog X.w) A (setAttr (.ref a) f u) Q E s:=by
 obtain mA|O|r|wi|_|ho:=AI I.hok e;have hz:(fs.map (·.1)).9<=sizeLine:=by rw[af,sizeLine_eq];lia
 refine Px I.kIn O c.sa c.po n.taker c.hd wi hz λh' O' sb=>h _ ?_
 have hd:∃o,h'.get? dx=some o:=let ⟨o,_,_,e',_⟩:=O'.ns;#[o,e']
 refine I.write (x:=a) (e:=dx) (by rw[e];exact True.intro) (.inr ho) (λb q hb z=>(sb.2 b hb).trans z) hd ?_;refine #[by rw[a7 O.ne];exact ho,?_,O.ne,O'.obj,_,O'.ns,λg=>?_,λg hg=>?_]
 ·have:=zF f y fs;lia
 ·show Du ((bf f y fs).lookup g) (if g=f then some u else mA g)
  rw[aQ];by_cases q:g=f
  ·rw[if_pos q,if_pos q];exact ry
  ·rw[if_neg q,if_neg q];exact r g
 ·by_cases q:g=f
  ·rw[q];exact (yT f y fs).1
  ·refine (yT f y fs).2 g (wi g λz=>hg ?_);show (if g=f then some u else mA g)=none
   rw[if_neg q];exact z
theorem Inv.made (I:Inv X pins σ H s):Inv X pins σ (upd (upd H s.heap.objs.size (.own (s.6+1))) (s.6+1) (.ins C s.6 []))
  { s with heap:=(s.heap.push PySem.W.emptyDict).push (PySem.W.instObj C s.6) }:=by
 have e1:(s.heap.push PySem.W.emptyDict).get? s.6=some PySem.W.emptyDict:=Heap.get?_push_size s.heap rfl
 have e2:((s.heap.push PySem.W.emptyDict).push (PySem.W.instObj C s.6)).get? (s.6+1)=some (PySem.W.instObj C s.6):=by
  have:=Heap.get?_push_size (s.heap.push PySem.W.emptyDict) (o:=PySem.W.instObj C s.6) rfl;rwa [Heap.size_push] at this
 have e3:(s.heap.push PySem.W.emptyDict).Ns s.heap.objs.size (λ_=>none):=#[PySem.W.emptyDict,[].toArray,_,e1,rfl,(λe he=>absurd he (by simp)),λ_=>rfl];have I1:=I.laid (a:=s.6) (o:=.own (s.6+1)) (h':=s.heap.push PySem.W.emptyDict) (t':=s.toks) (λb u q=>Heap.get?_push_of_some _ q) (ar _) #[_,e1];refine I1.laid (a:=s.6+1) (o:=.ins C s.6 []) (t':=s.toks) (λb u q=>Heap.get?_push_of_some _ q) (Nat.le_of_eq (Heap.size_push _ _)) ?_;have ne:s.6≠s.6+1:=cT (iG _);refine #[by rw[a7 ne,aK],bW _,ne,e2,λ_=>none,(Heap.Ns1.of_empty e3).at λo q=>Heap.get?_push_of_some _ q,λ_=>True.intro,λy hy=>absurd rfl hy]
theorem Q0 (hb:attributeBase e f env (eval e env)=eval e env)
  (h:wpAny (model prog w) A (eval e env) (λo s₁=>wpAny (model prog w) A (getAttr o f true) Q E s₁) E s):wpAny (model prog w) A (eval (.Attribute e f pos) env) Q E s :=
 Attribute_any_ h (by rw[arm_eval_Attribute,hb])
end
def UT (K:FG9) (ta:TE) (f:Str):TE:=λσ H Q=>ta σ H λx H1=>∃a C dx fs v,x=.ref a/\H1 a=some (.ins C dx fs)/\Ml K C/\iT K C f/\fs.lookup f=some v/\Q v H1
def U2 (K:FG9) (ta tv:TE) (f:Str):TS:=λD σ H=>tv σ H λy H1=>ta σ H1 λx H2=>∃a C dx fs,x=.ref a/\H2 a=some (.ins C dx fs)/\Ml K C/\iT K C f/\fs.9 < 1000 /\
 D.nx σ (upd H2 a (.ins C dx (bf f y fs)))
section
variable {X:Cx} {o e value:Expr} {f:Str} {pos pos' tpos:Pos} {ta tv:TE}
theorem fE (he:PE X e ta) (hb:attributeBase e f X.env (eval e X.env)=eval e X.env):PE X (.Attribute e f pos) (UT X.K ta f):=by
 intro pins s σ H Q I h;refine Q0 hb (iX (he pins s σ H _ I h) λu s1 #[x,H1,I1,rx,a,C,dx,fs,v,ex,ea,c,n,l,q]=>?_);subst ex;obtain rfl:u=Value.ref a:=rx;exact Jr I1 ea c n l λu' s2 I2 ru=>#[v,H1,I2,ru,q]
theorem nQ (ha:PE X o ta) (hv:PE X value tv) (hs:swapsWith value (some (.Attribute o f pos')) pos.line X.env=pure false):PS X (.Assign [.Attribute o f pos'] value pos) (U2 X.K ta tv f):=by
 intro pins s σ H D I h;refine plainObj_wpAny_Assign_Attribute (iX (hv pins s σ H _ I h) λu s1 #[y,H1,I1,ry,q]=>iX (ha pins s1 σ H1 _ I1 q) λov s2 #[x,H2,I2,rx,a,C,dx,fs,ex,ea,c,n,l,q2]=>?_) hs;subst ex;obtain rfl:ov=Value.ref a:=rx;exact IK I2 ea c n l ry λs3 I3=>#[σ,_,I3,q2]
end
section
variable {X:Cx} {pins:List (Addr×Obj)} {σ:St} {H:Hp} {s:Shared} {A:Around} {E:Value->Shared->Prop} {Q:Value->Shared->Prop} {c:Value} {b:Bool}
inductive zb (K:FG9) (H:Hp):V->Value->Prop where
 | non:zb K H .non (.type "NoneType")
 | bl (x:Bool):zb K H (.bl x) (.type "bool")
 | int (i:Int):zb K H (.int i) (.type "int")
 | str (x:Str):zb K H (.str x) (.type "str")
 | flt (x:UInt64):zb K H (.flt x) (.type "float")
 | lst {a:Addr} {xs:List V} (e:H a=some (.lst xs)):zb K H (.ref a) (.type "list")
 | frz {a:Addr} {o:Obj} {xs:List V} (e:H a=some (.frz o (.lst xs))):zb K H (.ref a) (.type "list")
 | tup {a:Addr} {xs:List V} (e:H a=some (.tup xs)):zb K H (.ref a) (.type "tuple")
 | dK {a:Addr} {kvs:List (Key×V)} (e:H a=some (.dK kvs)):zb K H (.ref a) (.type "dict")
 | dT {a:Addr} {kvs:List (List Key×V)} (e:H a=some (.dT kvs)):zb K H (.ref a) (.type "dict")
 | ins {a C dx:Addr} {fs:List (Str×V)} (e:H a=some (.ins C dx fs)) (cl:Ml K C) (ha:PySem.W.findIn K (.ref C) "__class__"=some (some (.builtin "object.__class__")))
   (hn:PySem.W.specialIn K (.builtin "object.__class__") "__get__"=some (some (.builtin "getset_descriptor.__get__"))) (htk:PySem.W.takesIn K (.builtin "object.__class__")=some true)
   (hm:PySem.W.mroIn K C (.type "object")=some true):zb K H (.ref a) (.ref C)
theorem DU (I:Inv X pins σ H s) (rx:RelV x u) (ty:zb X.K H x t) (e:PySem.W.kitOne X.K t c=some b) (h:∀tk,Q (.bool b) { s with toks:=tk }) :
  wpAny (model X.prog X.w) A (call (.builtin "isinstance") [u,c]) Q E s:=by
 cases ty with
 | non=>cases (show u=Value.none from rx);exact dY PySem.W.kitx_none I.kIn True.intro e (λz=>nomatch z) h
 | bl y=>cases (show u=Value.bool y from rx);exact dY PySem.W.kitx_bool I.kIn True.intro e (λz=>nomatch z) h
 | int i=>obtain t|q:=(show ∃t,u=Value.int i t from rx);cases q;exact dY PySem.W.kitx_int I.kIn True.intro e (λz=>nomatch z) h
 | str y=>obtain t|q:=(show ∃t,u=Value.str y t from rx);cases q;exact dY PySem.W.kitx_str I.kIn True.intro e (λz=>nomatch z) h
 | flt y=>obtain t|q:=(show ∃t,u=Value.float y t from rx);cases q;exact dY PySem.W.kitx_float I.kIn True.intro e (λz=>nomatch z) h
 | @lst a xs ea =>
  cases (show u=Value.ref a from rx);obtain _|_|n|_|h1:=(show jL X.prog X.w H s.heap a (.lst xs) from I.hok a _ ea);exact dY PySem.W.kitx_list I.kIn #[_,h1,rfl] e (λz=>nomatch z) h
 | @frz a ob xs ea =>
  cases (show u=Value.ref a from rx);obtain _|_|_|n|_|h1:=(show jL X.prog X.w H s.heap a (.frz ob (.lst xs)) from I.hok a _ ea);exact dY PySem.W.kitx_list I.kIn #[_,h1,rfl] e (λz=>nomatch z) h
 | @tup a xs ea =>
  cases (show u=Value.ref a from rx);obtain _|_|_|p:=(show jL X.prog X.w H s.heap a (.tup xs) from I.hok a _ ea);obtain o|h1|h2|_:=p;exact dY PySem.W.kitx_tuple I.kIn #[o,h1,h2] e (λz=>nomatch z) h
 | @dK a kvs ea =>
  cases (show u=Value.ref a from rx);obtain _|_|vs|_|p:=(show jL X.prog X.w H s.heap a (.dK kvs) from I.hok a _ ea);obtain o|es|ep|h1|h2|_:=p;exact dY PySem.W.kitx_dict I.kIn #[o,h1,h2.1] e (λz=>nomatch z) h
 | @dT a kvs ea =>
  cases (show u=Value.ref a from rx);obtain _|_|xs|_|o|es|ep|h1|h2|_:=(show jL X.prog X.w H s.heap a (.dT kvs) from I.hok a _ ea);exact dY PySem.W.kitx_dict I.kIn #[o,h1,h2.1] e (λz=>nomatch z) h
 | @ins a C dx fs ea cl ha hn htk hm =>
  cases (show u=Value.ref a from rx);obtain mA|O|_:=AI I.hok ea;obtain od|J|_:=O.look;exact dY (PySem.W.kitx_own (cl.get _) cl.hd ha hn htk hm) I.kIn J e (λz=>nomatch z) h
end
structure mO (k:Nat) (A:Around):Prop where
 hd:A.handled=none
 dp:A.depth+3*k+105 < recursionLimit
 un:A.units+16*k+200 < cLine
theorem mO.mono (r:mO k A) (h:j<=k):mO j A:=#[r.hd,by have:=r.dp;lia,by have:=r.un;lia]
theorem mO.deeper (r:mO (k+1) A) (env:Env):mO k (A.deeper env) :=
 #[r.hd,by have:=r.dp;show A.depth+1+3*k+105 < _;lia,by have:=r.un;show A.units+3+16*k+200 < _;lia]
theorem Jj {A:Around}:(A.under (.builtin "type.__call__" #[.ref C :: us,kw])).depth=A.depth+1:=by
 first | rfl | simp [Around.under,Code.weight,Code.isCreation,Code.isGuard,Code.isCaller,Code.frames,Code.isFrame,guardIds]
theorem Ji {A:Around}:(A.under (.builtin "type.__call__" #[.ref C :: us,kw])).units=A.units+1:=by
 first | rfl | simp [Around.under,Code.cUnits,Code.frames,Code.isFrame]
theorem mO.make (r:mO (k+1) A) (C:Addr) (us:List Value) (kw:List (Str×Value)):mO k (A.under (.builtin "type.__call__" #[.ref C :: us,kw])) :=
 #[r.hd,by have:=r.dp;rw[Jj];lia,by have:=r.un;rw[Ji];lia]
theorem mO.depth (r:mO k A):A.depth < recursionLimit:=by have:=r.dp;lia
theorem mO.units (r:mO k A):A.units+64 < cLine:=by have:=r.un;lia
def Le:TA:=λ_ H Q=>Q [] H
def tT (ta:TE) (tr:TA):TA:=λσ H Q=>ta σ H λx H1=>tr σ H1 λxs H2=>Q (x :: xs) H2
section
variable {X:Cx} {e:Expr} {es:List Expr} {te:TE} {t:TA} {pos:Pos}
theorem ag:PA X [] Le:=λ_ _ _ _ H Q I h=>Calls.spliced_nil #[[],H,I,.nil,h]
theorem aa (ha:PE X e te) (hr:PA X es t) (hs:starEach (e :: es) X.env=(false,eval e X.env) :: starEach es X.env:=by rfl):PA X (e :: es) (tT te t):=by
 intro pos pins s σ H Q I h;rw[hs];show wpAny _ _ (spliced ((false,eval e X.env) :: backTo pos (starEach es X.env))) _ _ s
 refine Calls.spliced_cons (iX (ha pins s σ H _ I h) λu s1 #[x,H1,I1,r1,q1]=>?_);exact iX (hr pos pins s1 σ H1 _ I1 q1) λus s2 #[xs,H2,I2,r2,q2]=>#[x :: xs,H2,I2,.cons r1 r2,q2]
def UJ (t:TA):TE:=λσ H Q=>t σ H λxs H1=>xs.9<=sizeLine/\∀p,H1 p=none->Q (.ref p) (upd H1 p (.tup xs))
def UQ (t:TA):TE:=λσ H Q=>t σ H λxs H1=>xs.9<=sizeLine/\∀p,H1 p=none->Q (.ref p) (upd H1 p (.lst xs))
theorem cP (h:PA X es t):PE X (.Tuple es x1 pos) (UJ t):=by
 intro pins s σ H Q I hq;refine wpAny_Tuple_spliced (iX (h pos pins s σ H _ I hq) λus s1 #[xs,H1,I1,r,z,q]=>#[by rw[<- r.9];exact z,?_]);have hf:H1 s1.6=none:=I1.hok.fresh (ar _);refine #[.ref s1.6,upd H1 s1.heap.objs.size (.tup xs),I1.laid (t':=s1.toks) (λb u e=>Heap.get?_push_of_some _ e) (ar _) ?_,rfl,q _ hf];exact #[z,us,r,#[_,Heap.get?_push_size _ rfl,rfl,_,rfl]]
theorem d6 (h:PA X es t):PE X (.List es pos) (UQ t):=by
 intro pins s σ H Q I hq;refine wpAny_List_spliced (iX (h pos pins s σ H _ I hq) λus s1 #[xs,H1,I1,r,z,q]=>#[by rw[<- r.9];exact z,?_]);have hf:H1 s1.6=none:=I1.hok.fresh (ar _);refine #[.ref s1.6,upd H1 s1.heap.objs.size (.lst xs),I1.laid (t':=s1.toks) (λb u e=>Heap.get?_push_of_some _ e) (ar _) ?_,rfl,q _ hf];exact #[z,us,0,r,Heap.get?_push_size _ rfl]
end
abbrev Sp:=List V->Hp->VK->XK->Prop
abbrev O8:=List Env->Hp->Shared->XK->Value->Shared->Prop
structure JL (P:Program) (w:World) (K:FG9) (mg:Str->Option Value) (base:Heap) (A:Around) (outer:List Env) (s:Shared) (H:Hp):Prop where
 frames:A.frames=some outer
 mod:Mod K mg base
 bs:∀b o,base.get? b=some o->s.heap.get? b=some o/\H b=none
 bsz:base.objs.7<=s.heap.objs.size
 funs:s.heap.FunFrames base outer
 frf:∀b∈Mr outer,H b=none
 hok:AQ P w H s.heap
 bare:AllBare s.gens
def CE (outer:List Env) (P:Program) (w:World) (H:Hp) (s:Shared) (Q:VK) (u:Value) (s':Shared):Prop :=
 ∃v H',s'.os=s.os/\AllBare s'.gens/\Un (Mr outer) [] H H' s.heap s'.8/\AQ P w H' s'.8/\RelV v u/\Q v H'
def CR (CX:O8) (outer:List Env) (P:Program) (w:World) (H:Hp) (s:Shared) (Q:VK) (E:XK) (r:Result) (s':Shared):Prop :=
 match r with
 | .ok (.ret u)=>CE outer P w H s Q u s'
 | .ok _=>False
 | .error e=>CX outer H s E e s'
structure cQ (P:Program) (w:World) (K:FG9) (mg:Str->Option Value) (base:Heap) (CX:O8) (k:Nat) (f:Addr) (fd:FuncData) (ps:List Str) (sp:Sp):Prop where
 len:∀vs H Q E,sp vs H Q E->vs.9=ps.9
 run:∀(A:Around) (outer:List Env) (s:Shared) (H:Hp) (args:Args) (us:List Value) (vs:List V) (Q:VK) (E:XK),mO k A->JL P w K mg base A outer s H->BindsTo s fd args (ps.zip us)->di vs us->sp vs H Q E →
  codeAny (model P w) A (.call (.ref f) args) (CR CX outer P w H s Q E) s
theorem JL.make {K:FG9} (e:JL P w K mg base A outer s H) (C:Addr) (us:List Value) (kw:List (Str×Value)) :
  JL P w K mg base (A.under (.builtin "type.__call__" #[.ref C :: us,kw])) outer s H:=#[by first | exact e.frames | (simpa [Around.under,Code.envs,Code.isFrame,pushEnvs] using e.frames),e.mod,e.bs,e.bsz,e.funs,e.frf,e.hok,e.bare]
section
variable {X:Cx} {pins:List (Addr×Obj)} {σ:St} {H:Hp} {s s':Shared}
theorem Inv.env0 (I:Inv X pins σ H s):JL X.prog X.w X.K X.mg X.base X.A X.stack s H :=
 #[I.ok.frames,I.ok.mod,I.bs,aj I.ok.bsz I.sz,I.stack,I.stkFree,I.hok,I.bare]
theorem Inv.after (I:Inv X pins σ H s) (h:CE X.stack X.prog X.w H s Q u s'):EP X pins σ Q u s':=by
 obtain v|H'|os|bare|un|hok|r|q:=h;obtain hh|g|d|t|os':=s';obtain rfl:os'=s.os:=os;exact #[v,H',I.call (h':=hh) (g':=g) (d':=d) (t':=t) (ch:=[]) un hok bare (λb z=>absurd z (by simp)),r,q]
end
def MK (sp:Sp) (dvs:List V) (E:XK) (t:TA):TE:=λσ H Q=>t σ H λvs H1=>sp (vs++dvs) H1 Q E
def Rm (C:Addr) (m:Str) (sp:Sp) (dvs:List V) (E:XK) (ta:TE) (t:TA):TE:=λσ H Q=>ta σ H λx H1=>∃a dx fs,x=.ref a/\H1 a=some (.ins C dx fs)/\fs.lookup m=none /\
 t σ H1 λvs H2=>sp (x :: (vs++dvs)) H2 Q E
def Rn (C:Addr) (sp:Sp) (dvs:List V) (E:XK) (t:TA):TE:=λσ H Q=>t σ H λvs H1=>∀x dx,H1 x=none->H1 dx=none->dx≠x →
 sp (.ref x :: (vs++dvs)) (upd (upd H1 dx (.own x)) x (.ins C dx [])) (λv H2=>v=.non/\Q (.ref x) H2) E
def Binds (K:FG9) (fd:FuncData) (ps:List Str) (ds:List Value):Prop :=
 ∀(s:Shared) (us:List Value),K.In s.8->(us++ds).9=ps.9->BindsTo s fd #[us,[]] (ps.zip (us++ds))
theorem Binds.all {K:FG9} (h:∀us:List Value,us.9=ps.9->bindArgs fd #[us,[]]=pure (ps.zip us)):Binds K fd ps []:=λs us _ hl=>by
 rw[tO] at hl ⊢;exact .of_eq (h us hl)
def zf (CX:O8) (X:Cx) (E:XK):Prop:=∀(pins:List (Addr×Obj)) (σ:St) (H:Hp) (s:Shared) (e:Value) (s':Shared),Inv X pins σ H s->CX X.stack H s E e s'->X.xe e s'
section
variable {X:Cx} {CX:O8} {k:Nat} {f C:Addr} {fd:FuncData} {ps:List Str} {sp:Sp} {dvs:List V} {ds:List Value} {E:XK} {x m:Str} {p pos apos:Pos} {e o:Expr} {es:List Expr} {ta:TE} {t:TA}
theorem Nd {σ:St} (F:cQ X.prog X.w X.K X.mg X.base CX k f fd ps sp) (hr:mO k X.A) (hb:Binds X.K fd ps ds) (hd:di dvs ds) (hx:zf CX X E)
  (I:Inv X pins σ H s) (r:di vs us) (h:sp (vs++dvs) H Q E):wpAny (model X.prog X.w) X.A (call (.ref f) us) (EP X pins σ Q) X.xe s:=by
 have r2:di (vs++dvs) (us++ds):=r.append hd;have hl:(us++ds).9=ps.9:=by rw[<- r2.9];exact F.len _ _ _ _ h
 refine wpAny_call (codeAny_mono (F.run X.A X.stack s H #[us,[]] (us++ds) (vs++dvs) Q E hr I.env0 (hb s us I.kIn hl) r2 h) λr s' hq=>?_);cases r with
 | error e=>exact hx pins σ H s e s' I hq
 | ok fl =>
  cases fl with
  | ret u=>exact I.after hq
  | next=>exact False.elim hq
  | brk=>exact False.elim hq
  | cont=>exact False.elim hq
theorem E4 (F:cQ X.prog X.w X.K X.mg X.base CX k f fd ps sp) (hr:mO k X.A) (hg:Gl X x) (hm:X.mg x=some (.ref f)) (hk:PySem.W.keepIn X.K (.ref f)=true) (hb:Binds X.K fd ps ds) (hd:di dvs ds) (hx:zf CX X E)
  (ha:PA X (e :: es) t) (hdb:(x == ("__debug__":Str))=false:=by decide) (he:starEach (e :: es) X.env=(false,eval e X.env) :: starEach es X.env:=by rfl) (hpl:(backTo pos (starEach es X.env)).any (·.1)=false:=by rfl) :
  PE X (.Call (.Name x p) (e :: es) [] pos) (MK sp dvs E t):=by
 intro pins s σ H Q I h;refine wpAny_Call_Name_kw (Fn I hg hm ?_ hdb);refine Iy (h₀:=X.base) I.ok.mod.kin hk (iX (ha pos pins s σ H _ I h) λus s1 #[vs,H1,I1,r,q]=>#[I1.kIn,?_]) he hpl;exact Nd F hr hb hd hx I1 r q
theorem iP {pl : Sem Bool} (he : PE X o ta) (c : Ml X.K C) (hm : Dw X.K C m f) (F : cQ X.prog X.w X.K X.mg X.base CX k f fd ps sp) (hr : mO k X.A) (hb : Binds X.K fd ps ds) (hd : di dvs ds) (hx : zf CX X E) (ha : PA X (e :: es) t)
    (hst : starEach (e :: es) X.env = (false, eval e X.env) :: starEach es X.env := by rfl) (hpl : (backTo pos (starEach es X.env)).any (·.1) = false := by rfl)
    (ht : eval (.Call (.Attribute o m apos) (e :: es) [] pos) X.env = (do
      let ov <- eval o X.env
      standAt apos.atName
      let (f, first) <- holding [ov] (getMethod ov m pl)
      callWith pos f first (backTo pos (starEach (e :: es) X.env)) (backToKw pos (keywordEach [] X.env))) := by rfl) :
    PE X (.Call (.Attribute o m apos) (e :: es) [] pos) (Rm C m sp dvs E ta t) := by
  intro pins s σ H Q I h;refine PySem.W.methodCall_KW (pl := pl) (iX (he pins s σ H _ I h) λu s1 #[x, H1, I1, rx, a, dx, fs, ex, ea, l, q] => ?_) ht;subst ex;obtain rfl : u = Value.ref a := rx;refine Jq I1 ea c hm l ?_;refine Iy (first := [.ref a]) (h₀ := X.base) I.ok.mod.kin hm.kp (iX (ha pos pins s1 σ H1 _ I1 q) λus s2 #[vs, H2, I2, r, q2] => #[I2.kIn, ?_]) hst hpl;exact Nd (us := .ref a :: us) (vs := .ref a :: vs) F hr hb hd hx I2 (.cons rfl r) q2
structure Mk (K:FG9) (C f:Addr):Prop where
 makes:PySem.W.makesIn K C=true
 init:PySem.W.findIn K (.ref C) "__init__"=some (some (.ref f))
 fn:PySem.W.isFn K (.ref f)=true
 kp:PySem.W.keepIn K (.ref C)=true
theorem Nc {σ:St} (M:Mk X.K C f) (F:cQ X.prog X.w X.K X.mg X.base CX k f fd ps sp) (hr:mO (k+1) X.A) (hb:Binds X.K fd ps ds) (hd:di dvs ds)
  (hx:zf CX X E) (I:Inv X pins σ H s) (r:di vs us)
  (h:∀x dx,H x=none->H dx=none->dx≠x->sp (.ref x :: (vs++dvs)) (upd (upd H dx (.own x)) x (.ins C dx [])) (λv H2=>v=.non/\Q (.ref x) H2) E) :
  wpAny (model X.prog X.w) X.A (call (.ref C) us) (EP X pins σ Q) X.xe s:=by
 have hq:=h (s.6+1) s.heap.objs.size (I.hok.fresh (Eo _)) (I.hok.fresh (ar _)) (cT (iG _));have I2:=Inv.made (C:=C) I;have r2:di (V.ref (s.6+1) :: (vs++dvs)) (Value.ref (s.6+1) :: (us++ds)):=.cons rfl (r.append hd)
 have hl:(Value.ref (s.6+1) :: us++ds).9=ps.9:=by
  have e:=r2.9;rw[F.len _ _ _ _ hq] at e;exact e.symm
 refine wpAny_call (NU (f:=f) I.kIn M.makes M.init (beq_iff_eq.mp M.fn) (codeAny_mono (F.run _ X.stack _ _ #[Value.ref (s.6+1) :: us,[]] (Value.ref (s.6+1) :: (us++ds)) _ _ E (hr.make C us [])
  (I2.env0.make C us []) (hb _ (Value.ref (s.6+1) :: us) I2.kIn hl) r2 hq) λr s' hq'=>?_))
 cases r with
 | error e=>exact hx pins σ _ _ e s' I2 hq'
 | ok fl =>
  cases fl with
  | ret u =>
   obtain v|H'|I3|rv|ev|q3:=I2.after hq';subst ev;exact #[rv,#[V.ref (s.6+1),H',I3,rfl,q3]]
  | next=>exact False.elim hq'
  | brk=>exact False.elim hq'
  | cont=>exact False.elim hq'
theorem Ki (M:Mk X.K C f) (F:cQ X.prog X.w X.K X.mg X.base CX k f fd ps sp) (hr:mO (k+1) X.A) (hg:Gl X x) (hm:X.mg x=some (.ref C)) (hb:Binds X.K fd ps ds) (hd:di dvs ds) (hx:zf CX X E)
  (ha:PA X (e :: es) t) (hdb:(x == ("__debug__":Str))=false:=by decide) (he:starEach (e :: es) X.env=(false,eval e X.env) :: starEach es X.env:=by rfl) (hpl:(backTo pos (starEach es X.env)).any (·.1)=false:=by rfl) :
  PE X (.Call (.Name x p) (e :: es) [] pos) (Rn C sp dvs E t):=by
 intro pins s σ H Q I h;refine wpAny_Call_Name_kw (Fn I hg hm ?_ hdb);refine Iy (h₀:=X.base) I.ok.mod.kin M.kp (iX (ha pos pins s σ H _ I h) λus s1 #[vs,H1,I1,r,q]=>#[I1.kIn,?_]) he hpl;exact Nc M F hr hb hd hx I1 r q
end
structure ba (N P:List Str) (sc:Scope):Prop where
 kind:sc.kind=.function
 co:sc.isCoroutine=false
 gen:sc.isGenerator=false
 nd:N.Nodup
 pre:N.take P.9=P
 par:∀x∈P,sc.names.lookup x=some .local\/sc.names.lookup x=some .cell
 nofree:∀y∈sc.names,y.2≠.free
theorem D9 {kindOf:Str->Option NameKind} {x:Str}:∀{binds:List (Str×Value)} {m:Str->Option Value},(∀v,(x,v)∉binds)->bindL kindOf binds m x=m x
 | [],_,_=>rfl
 | (n,v) :: r,m,h=>by
  unfold bindL;rw[D9 λw hw=>h w (bR _ hw)]
  split
  ·have:x≠n:=by rintro rfl;exact h v dE
   simp [this]
  ·rfl
theorem Ec {kindOf:Str->Option NameKind} {x:Str}:∀{binds:List (Str×Value)} {m:Str->Option Value},(∀v,(x,v)∉binds)->bindC kindOf binds m x=m x
 | [],_,_=>rfl
 | (n,v) :: r,m,h=>by
  unfold bindC;rw[Ec λw hw=>h w (bR _ hw)]
  split
  ·rfl
  ·have:x≠n:=by rintro rfl;exact h v dE
   simp [this]
theorem Ea {kindOf:Str->Option NameKind} {x:Str} {v:Value}:∀{P:List Str} {vs:List Value} {i:Nat} {m:Str->Option Value},P.Nodup->P[i]?=some x->vs[i]?=some v->kindOf x=some .local →
  bindL kindOf (P.zip vs) m x=some v
 | [],_,_,_,_,h,_,_=>by simp at h
 | _ :: _,[],_,_,_,_,h,_=>by simp at h
 | p :: P,w :: vs,0,m,nd,h1,h2,hk=>by
  simp at h1 h2;subst h1;subst h2;show bindL kindOf ((p,w) :: P.zip vs) m p=_
  unfold bindL;rw[D9 λv hv=>(dd.mp nd).1 (Pd hv).1,if_pos hk];simp
 | p :: P,w :: vs,i+1,m,nd,h1,h2,hk=>by
  show bindL kindOf ((p,w) :: P.zip vs) m x=_
  unfold bindL;exact Ea (i:=i) (dd.mp nd).2 (by simpa using h1) (by simpa using h2) hk
theorem Ee {kindOf:Str->Option NameKind} {x:Str} {v:Value}:∀{P:List Str} {vs:List Value} {i:Nat} {m:Str->Option Value},P.Nodup->P[i]?=some x->vs[i]?=some v->kindOf x≠some .local →
  bindC kindOf (P.zip vs) m x=some v
 | [],_,_,_,_,h,_,_=>by simp at h
 | _ :: _,[],_,_,_,_,h,_=>by simp at h
 | p :: P,w :: vs,0,m,nd,h1,h2,hk=>by
  simp at h1 h2;subst h1;subst h2;show bindC kindOf ((p,w) :: P.zip vs) m p=_
  unfold bindC;rw[Ec λv hv=>(dd.mp nd).1 (Pd hv).1,if_neg hk];simp
 | p :: P,w :: vs,i+1,m,nd,h1,h2,hk=>by
  show bindC kindOf ((p,w) :: P.zip vs) m x=_
  unfold bindC;exact Ee (i:=i) (dd.mp nd).2 (by simpa using h1) (by simpa using h2) hk
def start (N:List Str) (vs:List V):St:=vs.map some++List.replicate (N.9 - vs.9) none
def L8 (CX:O8) (P:Program) (w:World) (K:FG9) (mg:Str->Option Value) (base:Heap) (N:List Str) (qual:Str) (scope:Scope) (f:Addr) (cd:Value) (A:Around) (outer:List Env) (s:Shared) (H:Hp) (E:XK):Cx where
 prog:=P
 w:=w
 K:=K
 mg:=mg
 base:=base
 A:=A.deeper (envOfC qual scope s.heap.objs.size f cd)
 N:=N
 s₀:=s
 H₀:=H
 env:=envOfC qual scope s.heap.objs.size f cd
 outer:=outer
 stack:=envOfC qual scope s.heap.objs.size f cd :: outer
 ex:=[]
 calm:=true
 fn:=λ_=>true
 pn:=[]
 xe:=λe s'=>wpAny (model P w) (A.deeper (envOfC qual scope s.heap.objs.size f cd)) (leaving (envOfC qual scope s.heap.objs.size f cd) e) (λ_ s''=>CX outer H s E e s'') (λe' s''=>CX outer H s E e' s'') s'
theorem HR {sc:Scope} (h:sc.names.lookup x=some .cell):∃c,(cellsFrom n sc.names []).lookup x=some c:=by
 have q:=AU sc.names n [] (.inl h);exact Uz.mp q
theorem LQ {K:FG9} 
  (S:ba N ps scope) (hd:A.handled=none) (e0:JL P w K mg base A outer s H) (hl:vs.9=ps.9) (r:di vs us)
  (x:InCallC s s.heap.objs.size (bindL (envOfC qual scope s.heap.objs.size f cd).kindOf (ps.zip us) λ_=>none) (cellsFrom (s.6+1) scope.names []) (bindC (envOfC qual scope s.heap.objs.size f cd).kindOf (ps.zip us) λ_=>none) s1) :
  Inv (L8 CX P w K mg base N qual scope f cd A outer s H E) [] (start N vs) H s1:=by
 have hpl:ps.9<=N.9:=by have:=congrArg List.length S.pre;rw[dh] at this;lia
 obtain h1|tk|rfl|hk:=x.done;have noA:∀b:Addr,b∉(L8 CX P w K mg base N qual scope f cd A outer s H E).ex:=λb z=>absurd (show b∈([]:List Addr) from z) (by simp)
 refine #[#[e0.mod,S.kind,rfl,rfl,ar _,λy z c h1 h2=>?_,λy hy=>?_,λy c _ h=>?_,λ_=>hd,Around.frames_deeper e0.frames,.inr #[rfl,rfl],λb z=>absurd z (noA b),e0.bs,e0.bsz,λb _ _=>noA b,λb z=>absurd z (noA b),e0.funs,e0.frf],
  rfl,e0.bare,Un.kept hk,#[_,x.toInCall.ns,λi y v h1 h2 h3=>?_],λy c h=>#[_,x.cell y c h],e0.hok.fresh (ar _),λy c h=>?_,λp hp=>absurd (show p∈([]:List (Addr×Obj)) from hp) (by simp),e0.hok.kept hk,?_]
 ·exact name_of_addr x.apart (mQ h1) (mQ h2)
 ·have hy:scope.names.lookup y=some .cell\/scope.names.lookup y=some .free:=hy;rcases hy with hy | hy
  ·exact HR hy
  ·exact absurd rfl (S.nofree _ (mQ hy))
 ·exact aL (x.above y c (mQ h))
 ·have hi:i < vs.9:=by
   unfold start at h2;by_cases hi:i < vs.9
   ·exact hi
   ·rw[fQ (by simpa using hi)] at h2;rw[oC] at h2
    split at h2 <;> cases h2
  have ha:vs[i]?=some v:=by
   unfold start at h2;rw[gG (by simpa using hi),ay] at h2;cases e:vs[i]? with
   | none=>rw[e] at h2;cases h2
   | some a=>rw[e] at h2;cases h2;rfl
  obtain u|hu|rv:=r.get ha
  have hp:ps[i]?=some y:=by
   rw[<- S.pre,UB ()];exact h1
  have ndP:ps.Nodup:=by rw[<- S.pre];exact S.nd.sublist (List.take_sublist _ _)
  refine #[u,rv,?_];rcases S.par y (ao hp) with k | k
  ·exact .inl #[k,Ea ndP hp hu k]
  ·obtain c|e:=HR (n:=s.6+1) k;refine .inr #[.inl k,c,e,?_];have q:=x.cell y c e;rw[Ee ndP hp hu (by show scope.names.lookup y≠_;rw[k];decide)] at q;exact q
 ·exact e0.hok.fresh (aL (x.above y c (mQ h)))
 ·unfold start;show _=N.9
  rw[aB,af,c8]
  lia
theorem Vy {K:FG9} {dV kV doc pm cdv ct oc:Value} 
 (lk:K.lookup f=some #[oc,od,.func (PySem.W.fnOf name qual params body scope dV kV doc pm an cdv ct),osl]) (hcd:PySem.W.codeIn K cdv qual=true) (S:ba N ps scope)
  (len:∀vs H Q E,sp vs H Q E->vs.9=ps.9)
  (hbody:∀(A:Around) (outer:List Env) (s:Shared) (H:Hp) (vs:List V) (Q:VK) (E:XK),mO k (A.deeper (envOfC qual scope s.heap.objs.size f cdv))->sp vs H Q E →
   ∃t,JG (L8 CX P w K mg base N qual scope f cdv A outer s H E) body t/\t { nx:=λ_ H'=>Q .non H',rt:=Q } (start N vs) H) :
  cQ P w K mg base CX (k+1) f (PySem.W.fnOf name qual params body scope dV kV doc pm an cdv ct) ps sp:=by
 refine #[len,λA outer s H args us vs Q E hr e0 hb r hsp=>?_];have hl:=len _ _ _ _ hsp;have KX:K.In s.8:=e0.mod.kin.keeps λb o e=>(e0.bs b o e).1
 have lim:s.heap.NoLimit:=e0.mod.nolimit.keeps λb o e=>(e0.bs b o e).1
 have hkind:∀y∈ps.zip us,scope.names.lookup y.1=some .local\/(scope.names.lookup y.1=some .cell/\((cellsFrom (s.6+1) scope.names []).lookup y.1).isSome=true):=λ#[n,v] hy=>by
  rcases S.par n (Pd hy).1 with q | q
  ·exact .inl q
  ·exact .inr #[q,AU _ _ _ (.inl q)]
 refine codeAny_call_function hr.depth (KX _ _ lk) rfl S.co S.gen rfl (PySem.W.codeRec_of KX hcd) (hb _ _ _ _ ?_);refine wpAny_newFunctionEnv_cells S.kind hkind λenv he s1 x=>?_
 subst he;refine #[lim.keeps x.toInCall.keep,codeAny_func ?_];obtain t|ht|hq:=hbody A outer s H vs Q E (hr.deeper _) hsp;have I:Inv (L8 CX P w K mg base N qual scope f cdv A outer s H E) [] (start N vs) H s1:=LQ S hr.hd e0 hl r x;refine wpAny_mono (ht [] s1 (start N vs) H _ I hq) (λfl s' hs=>?_) λe s' hs=>hs
 have fin:∀{σ':St} {H':Hp} {v:V} {u:Value},Inv (L8 CX P w K mg base N qual scope f cdv A outer s H E) [] σ' H' s'->RelV v u->Q v H'->CE outer P w H s Q u s' :=
  λ{σ' H' v u} J rv q=>#[v,H',J.os,J.bare,J.base,J.hok,rv,q]
 cases fl with
 | ret u =>
  obtain v|σ'|H'|J|rv|q:=hs;exact fin J rv q
 | next =>
  obtain σ'|H'|J|q:=hs;exact fin (v:=V.non) (u:=Value.none) J rfl q
 | brk =>
  obtain _|_|_|q:=hs;exact False.elim q
 | cont =>
  obtain _|_|_|q:=hs;exact False.elim q
section
variable {X:Cx} {x:Str} {p pos:Pos} {e:Expr} {es:List Expr} {t:TA} {id T:String} {r:List V->Hp->VK->Prop}
def V3 (r:List V->Hp->VK->Prop) (t:TA):TE:=λσ H Q=>t σ H λvs H1=>r vs H1 Q
theorem bG (hc:rn X (.builtin id) r) (hg:Gl X x) (hm:X.mg x=none) (hv:bootBuiltins x=some (.builtin id)) (ha:PA X (e :: es) t) (hn:x≠"__name__":=by decide) (hdb:(x == ("__debug__":Str))=false:=by decide)
  (he:starEach (e :: es) X.env=(false,eval e X.env) :: starEach es X.env:=by rfl) (hpl:(backTo pos (starEach es X.env)).any (·.1)=false:=by rfl):PE X (.Call (.Name x p) (e :: es) [] pos) (V3 r t):=by
 intro pins s σ H Q I h;refine wpAny_Call_Name_kw (pZ I hg hm hv ?_ hn hdb);exact PyProof.Rows.callWith_builtin1 (iX (ha pos pins s σ H _ I h) λus s1 #[vs,H1,I1,r1,q1]=>hc pins s1 σ H1 vs us Q I1 r1 q1) he hpl
theorem eI (hc:rn X (.type T) r) (hg:Gl X x) (hm:X.mg x=none) (hv:bootBuiltins x=some (.type T)) (ha:PA X (e :: es) t) (hn:x≠"__name__":=by decide) (hdb:(x == ("__debug__":Str))=false:=by decide)
  (he:starEach (e :: es) X.env=(false,eval e X.env) :: starEach es X.env:=by rfl) (hpl:(backTo pos (starEach es X.env)).any (·.1)=false:=by rfl):PE X (.Call (.Name x p) (e :: es) [] pos) (V3 r t):=by
 intro pins s σ H Q I h;refine wpAny_Call_Name_kw (pZ I hg hm hv ?_ hn hdb);exact PyProof.Rows.callWith_type1 (iX (ha pos pins s σ H _ I h) λus s1 #[vs,H1,I1,r1,q1]=>hc pins s1 σ H1 vs us Q I1 r1 q1) he hpl
end
end L2
namespace HT
open PySem PyProof.Rows
section
open PySem.SeqAt
open PySem.AutoSeq1 (wpAny_loadPart')
open PySem.MeetsSeq PySem.MeetsSeq2 PySem.MeetsSeq3
end
section
variable {prog:Program} {w:World} {A:Around} {E:Value->Shared->Prop} {s:Shared}
def EV (n d:Nat):Option Int->Nat
 | none=>d
 | some v=>if v < 0 then (v+(n:Int)).toNat else min v.toNat n
theorem uy (n d:Nat):EV n d none=d:=rfl
theorem EU (n d k:Nat):EV n d (some (k:Int))=min k n:=by
 show (if (k:Int) < 0 then ((k:Int)+(n:Int)).toNat else min (k:Int).toNat n)=min k n
 rw[if_neg (),Int.toNat_natCast]
end
end HT
namespace L2
open PySem PySem.Spec PyProof.Rows
abbrev TO:=St->Hp->(Option Int->Hp->Prop)->Prop
def PO (X:Cx) (e:Option Expr) (t:TO):Prop :=
 ∀(pins:List (Addr×Obj)) (s:Shared) (σ:St) (H:Hp) (Q:Option Int->Hp->Prop),Inv X pins σ H s->t σ H Q →
  wpAny (model X.prog X.w) X.A (evalPart e X.env) (λu s'=>∃o H',Inv X pins σ H' s'/\IsPart u o/\Q o H') X.xe s
def JP:TO:=λ_ H Q=>Q none H
def Rj (t:TE):TO:=λσ H Q=>t σ H λx H1=>∃i,x=.int i/\Q (some i) H1
theorem intsAre_of:∀{us:List Value},di (ns.map V.int) us->IntsAre us ns:=by
 induction ns with
 | nil=>intro us r;rw[List.map_nil] at r;cases r;exact .nil
 | cons n ns ih =>
  intro us r;rw[mW] at r;cases r with
  | cons r1 r2 =>
   obtain t|e:=r1;subst e;exact .cons n t (ih r2)
section
variable {X:Cx} {e:Expr} {te:TE} {lo hi:Option Expr} {tl th:TO} {pos p2:Pos}
theorem vg:PO X none JP:=by
 intro pins s σ H Q I h;rw[evalPart_none];exact wpAny_pure #[none,H,I,.none,h]
theorem vf (h:PE X e te):PO X (some e) (Rj te):=by
 intro pins s σ H Q I hw;rw[evalPart_some];refine iX (h pins s σ H _ I hw) λu s1 #[x,H1,I1,r1,q1]=>?_
 obtain i|rfl|q:=q1;obtain t|rfl:=r1;exact #[some i,H1,I1,.int i t,q]
def Wk (X:Cx) (r:V->Option Int->Option Int->Hp->VK->Prop):Prop :=
 ∀(pins:List (Addr×Obj)) (s:Shared) (σ:St) (H:Hp) (x:V) (v vl vu:Value) (lo hi:Option Int) (sl:Addr) (Q:VK),Inv X pins σ H s->RelV x v->s.heap.IsSliceOf sl vl vu .none->IsPart vl lo->IsPart vu hi->r x lo hi H Q →
  ∃T id,typeLookup (.type T) "__getitem__"=pure (some (.builtin id))/\s.TypeIs v T/\wpAny (model X.prog X.w) X.A (getItem v (.ref sl)) (EP X pins σ Q) X.xe s
def tSl (r:V->Option Int->Option Int->Hp->VK->Prop) (te:TE) (tl th:TO):TE:=λσ H Q=>te σ H λx H1=>tl σ H1 λl H2=>th σ H2 λu H3=>r x l u H3 Q
theorem qF (hr:Wk X r) (he:PE X e te) (hl:PO X lo tl) (hu:PO X hi th):PE X (.Subscript e (.Slice lo hi none p2) pos) (tSl r te tl th):=by
 intro pins s σ H Q I h;refine Subscript_ (iX (he pins s σ H _ I h) λv s1 #[x,H1,I1,r1,q1]=>?_);refine wpAny_Slice (iX (hl pins s1 σ H1 _ I1 q1) λvl s2 #[l,H2,I2,pl,q2]=>iX (hu pins s2 σ H2 _ I2 q2) λvu s3 #[u,H3,I3,pu,q3]=>?_);rw[evalPart_none];refine wpAny_pure ?_;have I4:Inv X pins σ H3 { s3 with heap:=s3.heap.push { cls:=.type "slice",data:=.fields [vl,vu,.none].toArray } }:=I3.kept (t':=s3.toks) λb ob q=>Heap.get?_push_of_some _ q
 obtain T|id|hT|ht|hg:=hr pins { s3 with heap:=s3.heap.push { cls:=.type "slice",data:=.fields [vl,vu,.none].toArray } } σ H3 x v vl vu l u s3.heap.objs.size Q I4 r1 (Heap.IsSliceOf.new ..) pl pu q3;show wpAny (model X.prog X.w) X.A (subscriptTail e (.Slice lo hi none p2) v (.ref s3.6)) (EP X pins σ Q) X.xe { s3 with heap:=s3.heap.push { cls:=.type "slice",data:=.fields [vl,vu,.none].toArray } }
 exact tail_any (ops:=[.ref s3.6,v]) ht hT hg (by with_unfolding_all rfl)
def qP (xs:List V) (lo hi:Option Int):List V:=(xs.drop (HT.EV xs.9 0 lo)).take (HT.EV xs.9 xs.9 hi - HT.EV xs.9 0 lo)
theorem zW (xs:List V) (lo hi:Option Int):(qP xs lo hi).9<=xs.9:=by
 unfold qP;rw[dh,fh]
 lia
end
def Mq (n:Nat) (i:Int):Option Nat:=if 0<=i then (if i < n then some i.toNat else none) else if -(n:Int)<=i then some (i+n).toNat else none
def JB {α:Type} (xs:List α) (i:Int):Option α:=(Mq xs.9 i).bind λj=>xs[j]?
theorem Ku (h:Mq n i=some j):seqIndex? i n=some j/\j < n/\-(n:Int)<=i/\i < n:=by
 unfold Mq at h;by_cases h0:0<=i
 ·rw[if_pos h0] at h;by_cases h1:i < n
  ·rw[if_pos h1] at h;have e:i.toNat=j:=cm h;exact #[by rw[seqIndex_of h0 h1,e],(),(),h1]
  ·rw[if_neg h1] at h;cases h
 ·rw[if_neg h0] at h;by_cases h1:-(n:Int)<=i
  ·rw[if_pos h1] at h;have e:(i+n).toNat=j:=cm h;exact #[by rw[seqIndex_neg () h1,e],(),h1,()]
  ·rw[if_neg h1] at h;cases h
theorem FO {xs:List α} {v:α} (h:JB xs i=some v):∃j,seqIndex? i xs.9=some j/\xs[j]?=some v/\j < xs.9/\-(xs.9:Int)<=i/\i < xs.9:=by
 unfold JB at h;cases e:Mq xs.9 i with
 | none=>rw[e] at h;cases h
 | some j =>
  rw[e] at h;obtain h1|h2|h3|h4:=Ku e;exact #[j,h1,h,h2,h3,h4]
theorem eO {xs:List α} {j:Nat} {v:α} (h:xs[j]?=some v):JB xs (j:Int)=some v:=by
 have hj:j < xs.9:=(aR.mp h).1
 have e:Mq xs.9 (j:Int)=some j:=by
  unfold Mq;rw[if_pos (),if_pos ()];simp
 unfold JB;rw[e];exact h
theorem CC (xs:List α) (v:α):JB (xs++[v]) (-1)=some v:=by
 have hl:(xs++[v]).9=xs.9+1:=by simp
 have e:Mq (xs++[v]).9 (-1)=some xs.9:=by
  unfold Mq;rw[hl,if_neg (),if_pos ()];congr 1
  lia
 unfold JB;rw[e];show (xs++[v])[xs.9]?=some v
 simp
def Q9 (b:Expr):Prop:=∀o i,subscripted b false o i=operate [o,i] (getItem o i)
def VO (X:Cx) (r:R2):Prop :=
 ∀(value slice:Expr) (pins:List (Addr×Obj)) (s:Shared) (σ:St) (H:Hp) (x y:V) (v u:Value) (Q:VK),Inv X pins σ H s->RelV x v->RelV y u->r x y H Q →
  subscripted slice false v u=operate [v,u] (getItem v u)->wpAny (model X.prog X.w) X.A (subscriptTail value slice v u) (EP X pins σ Q) X.xe s
def MtR (X:Cx) (id:String) (r:V->List V->Hp->VK->Prop):Prop :=
 ∀(pins:List (Addr×Obj)) (s:Shared) (σ:St) (H:Hp) (x:V) (xs:List V) (v:Value) (us:List Value) (Q:VK),Inv X pins σ H s->RelV x v->di xs us->r x xs H Q →
  wpAny (model X.prog X.w) X.A (call (.builtin id) (v :: us)) (EP X pins σ Q) X.xe s
section
variable {X:Cx} {a b:Expr} {ta tb:TE} {pos:Pos}
theorem aU {r:R2} (hr:VO X r) (ha:PE X a ta) (hb:PE X b tb) (hs:Q9 b:=by intro _ _;rfl):PE X (.Subscript a b pos) (UO r ta tb):=by
 intro pins s σ H Q I h;exact Subscript_ (T9 ha hb I h λv u s2 x y H2 I2 rx ry q=>hr a b pins s2 σ H2 x y v u Q I2 rx ry q (hs _ _))
def Tf (K:FG9):R2:=λx y H Q=>∃p xs i v,x=.ref p/\y=.int i/\bJ K H p xs/\JB xs i=some v/\Q v H
def Te (K:FG9):R2:=λx y H Q=>∃p xs i v,x=.ref p/\y=.int i/\nG K H p xs/\JB xs i=some v/\Q v H
theorem bz:VO X (Tf X.K):=by
 intro value slice pins s σ H x y v u Q I rx ry h hs;obtain p|xs|i|z|rfl|rfl|hq|he|q:=h;cases rx;obtain t|rfl:=ry;obtain its|r|pl|hz:=I.list hq;obtain j|h1|h2|h3|h4|h5:=FO he;obtain w|ew|rw':=r.get h2;have hl:=r.9;have hn:=BX;have fin:EP X pins σ Q w s:=#[z,H,I,rw',q];by_cases h0:0<=i
 ·have hj:i.toNat=j:=by
   rw[seqIndex_of h0 h5] at h1;exact cm h1
  exact item_listR pl.isList h0 () (by rw[hj];simpa using ew) fin hs
 ·have hj:(i+(its.5.7:Int)).toNat=j:=by
   rw[seqIndex_neg () h4] at h1;rw[aW,<- hl];exact cm h1
  exact subscriptTail_builtinR (x:=w) pl.isList.typeIs slot_list_getitem.lookup
   (wpAny_getItem_list_neg (Q:=λr s'=>r=w/\EP X pins σ Q r s') pl.isList () (by rw[aW] <;> lia) () (by rw[hj];simpa using ew) #[rfl,fin]) hs
theorem bP:VO X (Te X.K):=by
 intro value slice pins s σ H x y v u Q I rx ry h hs;obtain p|xs|i|z|rfl|rfl|hq|he|q:=h;cases rx;obtain t|rfl:=ry;obtain its|r|pl|hz:=I.tuple hq;obtain j|h1|h2|h3|h4|h5:=FO he;obtain w|ew|rw':=r.get h2;have hl:=r.9;have hn:=BX;have fin:EP X pins σ Q w s:=#[z,H,I,rw',q]
 exact subscriptTail_builtinR (x:=w) pl.typeIs slot_tuple_getitem.lookup
  (getItem_tuple (j:=j) (Q:=λr s'=>r=w/\EP X pins σ Q r s') pl () () (by rw[aW,<- hl];exact h1) (by simpa using ew) #[rfl,fin]) hs
theorem Jh (its:List Value) (n j:Nat) (u:Value):Obj.mapSeq (·.setIfInBounds j u) { cls:=.type "list",data:=.seq its.toArray n }={ cls:=.type "list",data:=.seq (its.set j u).toArray n }:=by
 simp [Obj.mapSeq]
theorem Inv.lst {pins:List (Addr×Obj)} {σ:St} {H:Hp} {s:Shared} {p:Addr} {xs:List V} (I:Inv X pins σ H s) (h:H p=some (.lst xs)) :
  ∃(its:List Value) (n:Nat),di xs its/\s.heap.get? p=some { cls:=.type "list",data:=.seq its.toArray n }/\xs.9<=sizeLine:=by
 obtain z|its|n|r|e:=I.hok p _ h;exact #[its,n,r,e,z]
theorem Inv.lstUpd {σ:St} {its its':List Value} (I:Inv X pins σ H s) (h:H p=some (.lst xs))
  (ho:s.heap.get? p=some { cls:=.type "list",data:=.seq its.toArray n }) (hf:f { cls:=.type "list",data:=.seq its.toArray n }={ cls:=.type "list",data:=.seq its'.toArray n' }) (r:di ys its') (hz:ys.9<=sizeLine) (t:Nat) :
  Inv X pins σ (upd H p (.lst ys)) { s with heap:=s.heap.update p f,toks:=t }:=by
 have e:(s.heap.update p f).get? p=some { cls:=.type "list",data:=.seq its'.toArray n' }:=by
  rw[Heap.get?_update_self f ho (by rw[hf] <;> rfl),hf]
 refine I.write (x:=p) (e:=p) (by rw[h];trivial) (.inl rfl) (λb u hb q=>(Heap.get?_update_other _ _ (Ne.symm hb)).trans q) #[_,e] ?_;exact #[hz,its',n',r,e]
def Rz:V->V->V->Hp->(Hp->Prop)->Prop:=λo i v H Q=>∃p xs k j,o=.ref p/\i=.int k/\H p=some (.lst xs)/\Mq xs.9 k=some j/\Q (upd H p (.lst (xs.set j v)))
theorem set_list:Ug X Rz:=by
 intro pins s σ H o i v ov iv u Q I ro ri rv h;obtain p|xs|k|j|rfl|rfl|hp|hj|q:=h;cases ro;obtain t|rfl:=ri;obtain its|n|r|ho|hz:=I.lst hp;obtain h1|h2|h3|h4:=Ku hj;have hl:=r.9;have hn:=BX
 have I':Inv X pins σ (upd H p (.lst (xs.set j v))) { s with heap:=s.heap.update p (Obj.mapSeq (·.setIfInBounds j u)) } :=
  I.lstUpd hp ho (Jh its n j u) (r.set rv j) (by rw[eQ];exact hz) s.toks
 by_cases h0:0<=k
 ·have hk:k.toNat=j:=by
   rw[seqIndex_of h0 h4] at h1;exact cm h1
  exact PySem.W.ki_setAt ho h0 () (by rw[aW,<- hl];exact h4) (by rw[hk];exact #[_,I',q])
 ·have hk:(k+(its.5.7:Int)).toNat=j:=by
   rw[seqIndex_neg () h3] at h1;rw[aW,<- hl];exact cm h1
  exact PySem.W.ki_setBack ho () (by rw[aW,<- hl];exact h3) () (by rw[hk];exact #[_,I',q])
theorem EG (lo hi:Option Int) (n:Nat):(sliceBounds lo hi none n).1=((HT.EV n 0 lo:Nat):Int)/\(sliceBounds lo hi none n).2.1=((HT.EV n n hi:Nat):Int)/\(sliceBounds lo hi none n).2.2=1:=by
 refine #[?_,?_,rfl]
 ·cases lo with
  | none=>simp [sliceBounds,HT.EV]
  | some i =>
   simp only[sliceBounds,HT.EV,Option.getD_none,show (1:Int) > 0 by decide,if_true];by_cases h:i < 0
   ·simp only[h,if_true] <;> lia
   ·simp only[h,if_false] <;> lia
 ·cases hi with
  | none=>simp [sliceBounds,HT.EV]
  | some i =>
   simp only[sliceBounds,HT.EV,Option.getD_none,show (1:Int) > 0 by decide,if_true];by_cases h:i < 0
   ·simp only[h,if_true] <;> lia
   ·simp only[h,if_false] <;> lia
theorem Dc (its:List Value) (lo hi:Option Int):slicePick its.toArray lo hi none=((its.drop (HT.EV its.9 0 lo)).take (HT.EV its.9 its.9 hi - HT.EV its.9 0 lo)).5:=by
 obtain h1|h2|h3:=EG lo hi its.5.7;unfold slicePick;rw[h1,h2,h3];simp only[sliceRange_one,pick_run,aW] <;> rfl
def Td (K:FG9):V->Option Int->Option Int->Hp->VK->Prop:=λx lo hi H Q=>∃a xs,x=.ref a/\bJ K H a xs/\∀p,H p=none->Q (.ref p) (upd H p (.lst (qP xs lo hi)))
theorem ve:Wk X (Td X.K):=by
 intro pins s σ H x v vl vu lo hi sl Q I rx hs pl pu h;obtain a|xs|rfl|hx|q:=h;cases rx;obtain its|r|ht|hz:=I.list hx;have hlen:=r.9;refine #["list",_,slot_list_getitem.lookup,ht.isList.typeIs,?_];refine wpAny_getItem_list_slice ht.isList hs pl pu .none (by simp) ?_ (by rw[aW] <;> lia);rw[Dc,<- hlen];refine #[.ref s.6,_,I.laid (t':=s.toks) (o:=.lst (qP xs lo hi)) (λb ob q=>Heap.get?_push_of_some _ q) (ar _) ?_,rfl,q _ (I.hok.fresh (ar _))];exact #[aj (zW xs lo hi) hz,_,0,(r.drop (HT.EV xs.9 0 lo)).take (HT.EV xs.9 xs.9 hi - HT.EV xs.9 0 lo),Heap.get?_push_size _ rfl]
def RU:V->Bool
 | .non=>true
 | .bl _=>true
 | .int _=>true
 | .str _=>true
 | _=>false
theorem bw:rn X (.builtin "len") (λxs H Q=>∃p ys,xs=[.ref p]/\(bJ X.K H p ys\/nG X.K H p ys)/\Q (.int ys.9) H):=by
 intro pins s σ H xs us Q I r h;obtain p|ys|rfl|hq|q:=h;obtain u|rfl|rx:=vals1 r;cases rx;have hn:=BX;rcases hq with hq | hq
 ·obtain its|r'|pl|hz:=I.list hq;have hlen:=r'.9;exact Calls.call_len_list pl.isList (by simp only[aW] <;> lia) #[.int ys.9,H,I.tok _,#[s.toks+1,by rw[aW,hlen]],q]
 ·obtain its|r'|pl|hz:=I.tuple hq;have hlen:=r'.9;exact len_tuple pl (by simp only[aW] <;> lia) #[.int ys.9,H,I.tok _,#[s.toks+1,by rw[aW,hlen]],q]
theorem iS:rn X (.type "list") (λxs H Q=>∃p ys,xs=[.ref p]/\(bJ X.K H p ys\/nG X.K H p ys)/\∀l,H l=none->Q (.ref l) (upd H l (.lst ys))):=by
 intro pins s σ H xs us Q I r h;obtain p|ys|rfl|hq|q:=h;obtain u|rfl|rx:=vals1 r;cases rx
 have fin:∀(its:List Value),di ys its->ys.9<=sizeLine->∀(h':Heap) (c':Nat),(∀b o',s.heap.get? b=some o'->h'.get? b=some o') →
   h'.get? s.6=some { cls:=.type "list",dict:=none,data:=.seq its.toArray c',slots:=[].toArray }->EP X pins σ Q (.ref s.6) { s with heap:=h' }:=λits r' hz h' c' kp e =>
  #[.ref s.6,_,I.laid (t':=s.toks) kp (ar _) (show jL X.prog X.w _ h' _ (.lst ys) from #[hz,its,c',r',e]),rfl,q _ (I.hok.fresh (ar _))]
 rcases hq with hq | hq
 ·obtain its|r'|pl|hz:=I.list hq;have hlen:=r'.9;obtain o|ho|hc|n|hd:=pl.isList;exact call_list_seq p (.inl rfl) ho hc hd (λh' c' kp e=>fin its r' hz h' c' kp e) (by simp only[aW] <;> lia)
 ·obtain its|r'|pl|hz:=I.tuple hq;have hlen:=r'.9;obtain o|ho|hc|n|hd:=pl;exact call_list_seq p (.inr rfl) ho hc hd (λh' c' kp e=>fin its r' hz h' c' kp e) (by simp only[aW] <;> lia)
theorem Dq:rn X (.type "tuple") (λxs H Q=>∃p ys,xs=[.ref p]/\((bJ X.K H p ys/\∀l,H l=none->Q (.ref l) (upd H l (.tup ys)))\/(nG X.K H p ys/\Q (.ref p) H))):=by
 intro pins s σ H xs us Q I r h;obtain p|ys|rfl|h:=h;obtain u|rfl|rx:=vals1 r;cases rx;rcases h with ⟨hq,q⟩ | ⟨hq,q⟩
 ·obtain its|r'|pl|hz:=I.list hq;have hlen:=r'.9;refine call_tuple_list pl.isList (λh' kp=>?_) (by simp only[aW] <;> lia);have I1:Inv X pins σ H { s with heap:=h' }:=I.kept (t':=s.toks) kp
  have I2:Inv X pins σ (upd H h'.objs.size (.tup ys)) { s with heap:=h'.push { cls:=.type "tuple",data:=.seq its.5 } } :=
   I1.laid (t':=s.toks) (λb o e=>Heap.get?_push_of_some _ e) (ar _) (show jL X.prog X.w _ _ _ (.tup ys) from #[hz,its,r',IsTup.new _ _])
  exact #[.ref h'.objs.7,_,I2,rfl,q _ (I1.hok.fresh (ar _))]
 ·obtain its|r'|pl|hz:=I.tuple hq;exact call_tuple_same pl #[.ref p,H,I,rfl,q]
def VZ (K:FG9) (T:String) (x:V) (H:Hp):Prop:=match x with
 | .str _=>T="str"
 | .int _=>T="int"
 | .ref p=>(T="list"/\∃xs,bJ K H p xs)\/(T="tuple"/\∃o,K.lookup p=some o/\o.cls=.type "tuple"/\o.dict=none) \/
   (T="dict"/\((∃kvs,H p=some (.dK kvs))\/∃kvs,H p=some (.dT kvs)))\/(T="set"/\∃S n,H p=some (.set S n))
 | _=>False
theorem Sw {σ:St} (I:Inv X pins σ H s) (r:RelV x v) (ty:VZ X.K T x H) :
  s.TypeIs v T/\∀a,v=.ref a->∃ob,s.heap.get? a=some ob/\ob.dict=none:=by
 cases x with
 | str z =>
  obtain t|rfl:=r;cases (show T="str" from ty);exact #[typeIs_str s z t,λ_ e=>nomatch e]
 | int i =>
  obtain t|rfl:=r;cases (show T="int" from ty);exact #[typeIs_int s i t,λ_ e=>nomatch e]
 | ref p =>
  cases r;rcases ty with ⟨rfl,xs,hq⟩ | ⟨rfl,o,hk,hc,hd⟩ | ⟨rfl,hk⟩ | ⟨rfl,S,n,hk⟩
  ·obtain its|_|pl|_:=I.list hq;refine #[pl.isList.typeIs,λa e=>?_];cases e;obtain o|n|e|c|hd|_:=pl;exact #[o,e,hd]
  ·refine #[#[o,I.kIn p o hk,hc],λa e=>?_];cases e;exact #[o,I.kIn _ o hk,hd]
  ·have z:∃o,s.heap.get? p=some o/\o.ExactDict:=by
    rcases hk with ⟨kvs,hk⟩ | ⟨kvs,hk⟩
    ·obtain _|_|_|_|o|_|_|e|ex|_:=I.hok p _ hk;exact #[o,e,ex]
    ·obtain _|_|_|_|o|_|_|e|ex|_:=I.hok p _ hk;exact #[o,e,ex]
   obtain o|e|ex:=z;refine #[#[o,e,ex.1],λa e2=>?_];cases e2;exact #[o,e,ex.2.1]
  ·obtain o|_|_|_|e|ex|_:=I.hok p _ hk;refine #[#[o,e,ex.1],λa e2=>?_];cases e2;exact #[o,e,ex.2.1]
 | _=>exact False.elim ty
def tBM (K:FG9) (T:String) (r:V->List V->Hp->VK->Prop) (to:TE) (t:TA):TE:=λσ H Q=>to σ H λx H1=>VZ K T x H1/\t σ H1 λxs H2=>r x xs H2 Q
variable {o e:Expr} {es:List Expr} {to:TE} {t:TA} {name:Str} {apos cpos:Pos} {T id:String} {r:V->List V->Hp->VK->Prop}
theorem vD (pa:PlainAttrs T) (slot:Slot T name id) (hty:typeOf (.builtin id)=pure (.type "method_descriptor")) (hm:MtR X id r) (ho:PE X o to) (ha:PA X (e :: es) t)
  (hbase:attributeBase o name X.env (eval o X.env)=eval o X.env:=by rfl)
  (hfew:((backTo cpos (starEach (e :: es) X.env)).all (λx=>!x.1) && (backToKw cpos (keywordEach [] X.env)).all (λx=>x.1.isSome)
   && decide ((e :: es).9+([]:List Keyword).9+(if ([]:List Keyword).isEmpty then 0 else 1) < 30))=true:=by rfl)
  (hline:(apos.endLine == cpos.line)=true:=by rfl) (hs:starEach (e :: es) X.env=(false,eval e X.env) :: starEach es X.env:=by rfl) (hplain:(backTo cpos (starEach es X.env)).any (·.1)=false:=by rfl) :
  PE X (.Call (.Attribute o name apos) (e :: es) [] cpos) (tBM X.K T r to t):=by
 intro pins s σ H Q I h;refine wpAny_Call_method_late hbase hfew hline rfl (iX (ho pins s σ H _ I h) λv s1 #[x,H1,I1,r1,ty,q1]=>?_);obtain h1|h2:=Sw I1 r1 ty;refine #[T,id,pa,slot,hty,h1,h2,?_];have hA:=ha cpos pins s1 σ H1 _ I1 q1;rw[hs] at hA ⊢;refine Calls.callWith_builtin (by show (false || (backTo cpos (starEach es X.env)).any (·.1))=false;rw[hplain] <;> rfl) (Calls.evalArgs_plain ?_);exact iX hA λus s2 ⟨vs,H2,I2,r2,q2⟩=>hm pins s2 σ H2 x vs v us Q I2 r1 r2 q2
end
def MtM (X:Cx) (id:String) (r:V->List V->Hp->VK->Prop):Prop :=
 ∀(pins:List (Addr×Obj)) (s:Shared) (σ:St) (H:Hp) (x:V) (xs:List V) (v:Value) (us:List Value) (Q:VK),Inv X pins σ H s->RelV x v->di xs us->r x xs H Q →
  wpAny (model X.prog X.w) X.A (call (.builtin id) (v :: us)) (EP X pins σ Q) X.xe s
theorem di.one:∀{x:V} {us:List Value},di [x] us->∃u,us=[u]/\RelV x u
 | _,_,.cons r .nil=>#[_,rfl,r]
theorem di.rep {xs:List V} {us:List Value} (h:di xs us):∀k:Nat,di (List.replicate k xs).flatten (List.replicate k us).flatten
 | 0=>.nil
 | k+1=>by
  rw[il,il,fR,fR];exact di.append h (di.rep h k)
theorem foldl_rep (its:List Value):∀(k:Nat) (acc:List Value),
  List.foldl (λx1 x2=>x1++x2) acc.toArray (List.replicate k its.5)=(acc++(List.replicate k its).flatten).5
 | 0,acc=>by simp
 | k+1,acc=>by
  have e:acc.5++its.5=(acc++its).5:=by simp
  have e2:(acc++its)++(List.replicate k its).flatten=acc++(List.replicate (k+1) its).flatten:=by
   rw[il,fR,cV]
  rw[<- e2,<- foldl_rep its k (acc++its),<- e,il,List.foldl_cons]
section
variable {X:Cx} {pins:List (Addr×Obj)} {σ:St} {H:Hp} {s:Shared} {l b:Addr} {xs ys zs:List V}
theorem Inv.lset {its its':List Value} (I:Inv X pins σ H s) (hH:H l=some (.lst xs))
  (e:s.heap.get? l=some { cls:=.type "list",data:=.seq its.toArray n }) (hf:f its.5=its'.5) (hv:di ys its') (hz:ys.9<=sizeLine) :
  Inv X pins σ (upd H l (.lst ys)) { s with heap:=s.heap.update l (Obj.mapSeq f),toks:=t' }:=by
 have q:=mD e f;rw[hf] at q;refine I.write (x:=l) (e:=l) (by rw[hH];exact trivial) (.inl rfl) (λb' u hb hu=>(Heap.get?_update_other s.heap (Obj.mapSeq f) (Ne.symm hb)).trans hu) #[_,q] ?_;exact #[hz,its',_,hv,q]
theorem Inv.lnew (I:Inv X pins σ H s) (hv:di ys its) (hz:ys.9<=sizeLine) :
  Inv X pins σ (upd H s.heap.objs.size (.lst ys)) { s with heap:=s.heap.push { cls:=.type "list",data:=.seq its.5 },toks:=t' } :=
 I.laid (λ_ _ q=>Heap.get?_push_of_some _ q) (ar _) #[hz,its,0,hv,Heap.get?_push_size _ rfl]
theorem Inv.fresh (I:Inv X pins σ H s):H s.6=none:=I.hok.fresh (ar _)
theorem Inv.lstM (I:Inv X pins σ H s) (hH:H l=some (.lst xs)):xs.9<=sizeLine/\∃(its:List Value) (n:Nat),di xs its/\xs.9=its.9/\s.heap.get? l=some { cls:=.type "list",data:=.seq its.toArray n }:=by
 obtain z|its|n|r|e:=I.hok l _ hH;exact #[z,its,n,r,r.9,e]
theorem G9 (h:n<=sizeLine):Builtin.List.listTooLong n=false:=by
 unfold Builtin.List.listTooLong;exact decide_eq_false ()
end
section
variable {X:Cx}
def Kh:V->List V->Hp->VK->Prop:=λx vs H Q=>∃l xs y,x=.ref l/\vs=[y]/\H l=some (.lst xs)/\xs.9 < sizeLine/\Q .non (upd H l (.lst (xs++[y])))
theorem jB:MtM X "list.append" Kh:=by
 intro pins s σ H x vs v us Q I rx rv h;obtain l|xs|y|rfl|rfl|hH|hz|q:=h;cases rx;obtain u|rfl|ru:=rv.one;obtain z|its|n|r|hl|e:=I.lstM hH;refine call_meets F.slot_list_append #[_,e,rfl] F.entry_list_append (F.args_list_append_2 _ _) (PySem.list_append l its.toArray n u (by rw[aW];lia)) #[e,?_];refine #[.non,_,I.lset (its':=its++[u]) hH e (by simp) (r.append (.cons ru .nil)) ?_,rfl,q];rw[aB,eJ]
 lia
def Qj:V->List V->Hp->VK->Prop:=λx vs H Q=>∃l b xs zs,x=.ref l/\vs=[.ref b]/\H l=some (.lst xs)/\H b=some (.lst zs)/\xs.9+zs.9<=sizeLine/\Q .non (upd H l (.lst (xs++zs)))
theorem LL:MtM X "list.extend" Qj:=by
 intro pins s σ H x vs v us Q I rx rv h;obtain l|b|xs|zs|rfl|rfl|hH|hB|hz|q:=h;cases rx;obtain u|rfl|ru:=rv.one;cases ru;obtain z|its|n|r|hl|e:=I.lstM hH;obtain z2|its2|n2|r2|hl2|e2:=I.lstM hB;have hsz:its.5.7+its2.5.7<=sizeLine:=by rw[aW,aW];lia
 have hlong:¬(!its.toArray.isEmpty && Builtin.List.listTooLong (its.5.7+its2.5.7))=true:=by
  rw[G9 hsz,Bool.and_false];exact bF
 refine call_meets F.slot_list_extend #[_,e,rfl] F.entry_list_extend (F.args_list_extend_2 _ _)
  (AutoSeq1.list_extend_list_list_0 l its.toArray n b its2.toArray n2 hlong (by rw[aW];lia) ()) #[e,e2,?_]
 refine #[.non,_,I.lset (its':=its++its2) hH e (by simp) (r.append r2) ?_,rfl,q];rw[aB]
 lia
def Vf:R2:=λx y H Q=>∃l b xs zs,x=.ref l/\y=.ref b/\H l=some (.lst xs)/\H b=some (.lst zs)/\xs.9+zs.9<=sizeLine/\∀p,H p=none->Q (.ref p) (upd H p (.lst (xs++zs)))
theorem pR:C7 X (binaryOp .Add) Vf:=by
 intro pins s σ H x y v u Q I rx ry h;obtain l|b|xs|zs|rfl|rfl|hH|hB|hz|q:=h;cases rx;cases ry;obtain z|its|n|r|hl|e:=I.lstM hH;obtain z2|its2|n2|r2|hl2|e2:=I.lstM hB;refine PySem.P.add_list e e2 ?_ (by rw[aW,aW];lia);have ea:its.5++its2.5=(its++its2).5:=by simp
 rw[ea];exact #[.ref _,_,I.lnew (t':=s.toks) (r.append r2) (by rw[aB];lia),rfl,q _ I.fresh]
def Ve:R2:=λx y H Q=>∃l k xs,x=.ref l/\y=.int k/\H l=some (.lst xs)/\-(2^63)<=k/\k < 2^63/\xs.9*k.toNat<=sizeLine /\
 ∀p,H p=none->Q (.ref p) (upd H p (.lst (List.replicate k.toNat xs).flatten))
theorem len_rep {α:Type} (xs:List α) (k:Nat):(List.replicate k xs).flatten.length=k*xs.9:=by
 induction k with
 | zero=>simp
 | succ k ih=>rw[il,fR,aB,ih,dP,pe]
theorem NF:C7 X (binaryOp .Mult) Ve:=by
 intro pins s σ H x y v u Q I rx ry h;obtain l|k|xs|rfl|rfl|hH|h1|h2|hz|q:=h;cases rx;obtain t|rfl:=ry;obtain z|its|n|r|hl|e:=I.lstM hH;have hlen:its.5.7*k.toNat<=sizeLine:=by rw[aW,<- hl];exact hz
 have hcap:¬its.5.7*k.toNat > (2^63 - 1) / 8:=by
  have:(sizeLine:Nat)<=(2^63 - 1) / 8:=()
  lia
 have hfit:¬(!Builtin.List.listFitsIndex k)=true:=by
  rw[fitsIndex_both h1 h2];exact bF
 have hlong:¬Builtin.List.listTooLong (its.5.7*k.toNat)=true:=by
  rw[G9 hlen];exact bF
 have hnew:List.foldl (λx1 x2=>x1++x2) [].toArray (List.replicate (if its.toArray.isEmpty=true then 0 else k.toNat) its.5)=(List.replicate k.toNat its).flatten.toArray:=by
  have f0:∀m:Nat,List.foldl (λx1 x2=>x1++x2) [].toArray (List.replicate m its.5)=(List.replicate m its).flatten.toArray:=λm=>by
   have:=foldl_rep its m [];rw[dH] at this;exact this
  rw[f0];cases its with
  | nil=>simp
  | cons a r'=>rw[if_neg (by simp)]
 refine wpAny_binaryOp_repeat_ref (T:="list") (U:="int") () #[_,e,rfl] (λs'=>typeIs_int s' k t) noFill_list_mul F.fills_int_mul F.slot_int_rmul repeat_list F.slot_int_index.lookup
  (call_meets F.slot_int_rmul (typeIs_int s k t) F.entry_int_rmul (F.args_int_rmul_2 _ _) (int___rmul___int_list k t l its.toArray n)
   #[e,rfl,#[_,e,rfl],call_meets F.slot_list_mul #[_,e,rfl] F.entry_list_mul (F.args_list_mul_2 _ _) (AutoListH.list___mul___list_int_3 l its.toArray n k t hfit hcap hlong) #[e,?_]])
 rw[hnew];exact #[.ref _,_,I.lnew (t':=s.toks) (r.rep k.toNat) (by rw[len_rep,d5];exact hz),rfl,q _ I.fresh]
end
end L2
namespace Att
open PySem PySem.W PySem.Calls PyProof.Rows
theorem Av:∀(ns:List Int) (vs:List Value),WellAll P h vs (ns.map WData.int)->IntsAre vs ns:=by
 intro ns
 induction ns with
 | nil =>
  intro vs w;rw[List.map_nil] at w;cases w;exact .nil
 | cons n ns ih =>
  intro vs w;rw[mW] at w;cases w with
  | cons a b =>
   cases a;exact .cons _ _ (ih _ b)
theorem Lq {l:OpenLaw} (hn:l.most=some n) 
  (hpre:l.row.toRowW.claim.pre args=true) (hwl:WellAll P h vals args) :
  ∃a vs ns,vals=[Value.ref a]/\args=[WData.list (ns.map WData.int)]/\h.get? a=some { cls:=.type "list",data:=.seq vs.5 }/\IntsAre vs ns/\ns.9<=n:=by
 have hsh:WShape.hasAll [] args [.list .int]=true:=(pre_splitW hpre).1;have hc:l.pre.holds [] { args:=args }=true:=(pre_splitW hpre).2;obtain d|r|rfl|h1|h2:=hasAllW_cons hsh;obtain rfl:=hasAllW_nil h2;obtain xs|rfl|h3:=hasW_list h1;obtain ns|rfl:=items_int h3
 have hlen:ns.9<=n:=by
  unfold OpenLaw.pre at hc
  have h4:(WTm.not (.lt (.lit (.int (n:Int))) (.len (.arg 0)))).holds [] { args:=[.list (ns.map .int)] }=true:=by
   have h4:=(holds_andW hc).1;rw[hn] at h4;exact h4
  have h5:=condW_of h4 (w_not (w_lt w_lit (w_len_list (w_arg rfl))));rw[af] at h5;refine Nat.le_of_not_lt λq=>?_
  have q':(n:Int) < ((ns.9:Nat):Int):=()
  first
   | (rw[decide_eq_true q'] at h5;exact absurd h5 ())
   | (simp at h5;lia)
 cases hwl with
 | cons w1 w2 =>
  cases w2;cases w1 with
  | list ho hall=>exact #[_,_,ns,rfl,rfl,ho,Av ns _ hall,hlen]
theorem Lz (l:OpenLaw) (args:List WData):l.row.toRowW.claim.post args (.bool true) args=true :=
 postW_of (r:=l.row.toRowW) (X:=(true == true))
  (show WShape.has [] (.bool true) .bool=true by first | rfl | decide | simp [WShape.has,WShape.arms,WShape.armsAll])
  (show (WTm.eq .res (.lit (.bool true))).value [] { args:=args,res:=some (.bool true),after:=args }=some (.bool (true == true)) from w_eq_bool (w_res rfl) w_lit) rfl
theorem HW {l:OpenLaw} 
  (hn:l.most=some n) (hdf:d.params.defaults=[])
  (call:∀(w:World) (s₀ s₁:Shared) (mg mb:Str->Option Value) (fa:Addr) (o:Obj) (pm cd doc:Value) (a:Addr) (vs:List Value) (ns:List Int),
   Ground q loose [] XP w s₀ mg mb s₁.8->YP w s₁.8 →
   s₁.heap.get? fa=some o->o.data=.func (docDef d.name d.params d.body d.scope pm cd doc)->s₁.heap.CodeRec cd d.name->mg d.name=some (.ref fa) →
   s₁.heap.get? a=some { cls:=.type "list",data:=.seq vs.5 }->IntsAre vs ns->ns.9<=n->s₁.gens=[].toArray →
   codeAny (model l.prog w) callerA (.call (.ref fa) #[[.ref a],[]]) (λr s'=>r=.ok (.ret (.bool true))/\OldK s₁.heap s'.8/\s'.os=s₁.os/\AllBare s'.gens) s₁) :
  WalkO q loose XP YP l.row.toRowW d [] (λf vs=>PySem.call f vs):=by
 intro w s₀ s₁ mg mb G Y fa o pm cd doc dV kV ho hd hcd hD hmg hg args vals as hpre hlay hrd hwl hlo;obtain rfl:dV=.none:=Dflts.none hD hdf;obtain rfl:kV=.none:=Dflts.noKw hD;obtain a|vs|ns|rfl|rfl|hobj|hints|hlen:=Lq hn hpre hwl;refine enter_call (codeAny_mono (call w s₀ s₁ mg mb fa o pm cd doc a vs ns G Y ho (fd_plain hd) hcd hmg hobj hints hlen hg) λr s' hq=>?_);obtain rfl|h2|h3|h4:=hq;exact #[.inl #[.bool true,.bool true,[],rfl,λ_=>rfl,.bool true,Lz l _,λ_=>#[List.Pairwise.nil,λ_ hm=>(nomatch hm)]],h2,h3,h4]
section
variable {prog:Program} {w:World} {A:Around} {E:Value->Shared->Prop} {s:Shared} {K:Frag}
end
end Att
namespace L2
open PySem PySem.Spec PyProof.Rows
theorem DD:∀{vs:List Value} {ns:List Int},IntsAre vs ns->di (ns.map V.int) vs
 | _,_,.nil=>.nil
 | _,_,.cons n t h=>.cons #[t,rfl] (DD h)
def Ui (H:Hp):Prop:=∀b,H b=none\/∃o xs,H b=some (.frz o (.lst xs))
theorem NW {K:FG9} 
  (KX:K.In s₁.8) (hns:s₁.heap.Ns mainGlobals mg) (hb:s₁.heap.Ns builtinsNs mb) (hbb:∀x:Str,x≠"__name__"->mb x=bootBuiltins x) (hlim:s₁.heap.NoLimit) (hsr:s₁.heap.NoSeer) (hg:s₁.gens=[].toArray)
  (ha:s₁.heap.get? a=some { cls:=.type "list",data:=.seq vs.5 }) (hi:IntsAre vs ns) (hl:ns.9<=sizeLine) (hr:mO k callerA)
  (F:∀base:Heap,K.In base->base.Ns mainGlobals mg->cQ P w K mg base CX k fa fd [x] sp) (hbind:∀(s:Shared) (u:Value),BindsTo s fd #[[u],[]] [(x,u)])
  (hsp:∀H:Hp,Ui H->bJ K H a (ns.map V.int)->sp [.ref a] H (λv _=>v=.bl true) λ_ _ _=>False)
  (hCX:∀H e s',CX [] H s₁ (λ_ _ _=>False) e s'->False) :
  codeAny (model P w) callerA (.call (.ref fa) #[[.ref a],[]]) (λr s'=>r=.ok (.ret (.bool true))/\OldK s₁.heap s'.8/\s'.os=s₁.os/\AllBare s'.gens) s₁:=by
 have rv:=DD hi;have lenV:=hi.length
 have core:∀H:Hp,Ui H->bJ K H a (ns.map V.int)->AQ P w H s₁.8->(∀b,H b≠none->b=a)->(H a≠none->K.lookup a=none) →
   codeAny (model P w) callerA (.call (.ref fa) #[[.ref a],[]]) (λr s'=>r=.ok (.ret (.bool true))/\OldK s₁.heap s'.8/\s'.os=s₁.os/\AllBare s'.gens) s₁:=by
  intro H hO hS hok hA hK;have base_of:∀{b:Addr} {o:Obj},s₁.heap.get? b=some o->H b=none->(Fq s₁.heap H).get? b=some o:=λe n=>Od e n
  have noA:∀{b:Addr} {o:Obj} {es:Array DictEntry} {ep:Nat},s₁.heap.get? b=some o->o.data=.dict es ep->H b=none:=λ{b o es ep} e d=>by
   cases q:H b with
   | none=>rfl
   | some u =>
    have e':b=a:=hA b (by rw[q];simp);subst e';rw[ha] at e;cases e;have d':Data.seq vs.toArray _=Data.dict es ep:=d;cases d'
  have nsK:∀{b:Addr} {m:Str->Option Value},s₁.heap.Ns b m->(Fq s₁.heap H).Ns b m:=λ{b m} #[o,es,ep,e,d,r]=>#[o,es,ep,base_of e (noA e d),d,r]
  have hKb:K.In (Fq s₁.heap H):=λb o e=>base_of (KX b o e) (by
   cases q:H b with
   | none=>rfl
   | some u =>
    have e':b=a:=hA b (by rw[q];simp);subst e';rw[hK (by rw[q];simp)] at e;cases e)
  have hM:Mod K mg (Fq s₁.heap H):=#[hKb,nsK hns,#[mb,nsK hb,hbb],let ⟨mc,h1,h2⟩:=hlim;#[mc,nsK h1,h2],#[let ⟨mc,h1,h2⟩:=hsr.statics;#[mc,nsK h1,h2],let ⟨mm,h1,h2⟩:=hsr.mods;#[mm,nsK h1,h2],#[mb,nsK hb,hbb],let ⟨mg',bm,ob,h1,h2,h3,h4,h5⟩:=hsr.main;#[mg',bm,ob,nsK h1,h2,base_of h3 (by
   cases q:H bm with
   | none=>rfl
   | some u =>
    have e':bm=a:=hA bm (by rw[q];simp);subst e';rw[ha] at h3;cases h3;injection h4 with q4
    exact absurd q4 ()),h4,h5]]]
  have e0:JL P w K mg (Fq s₁.heap H) callerA [] s₁ H:=#[rfl,hM,λb o e=>Qq e,Nat.le_of_eq (LR _ _),trivial,λb hb=>absurd (show b∈([]:List Addr) from hb) (by simp),hok,.of_eq hg];refine codeAny_mono ((F _ hKb (nsK hns)).run callerA [] s₁ H #[[.ref a],[]] [.ref a] [.ref a] _ _ hr e0 (hbind s₁ (.ref a)) (.cons rfl .nil) (hsp H hO hS)) λr s' h=>?_
  cases r with
  | error e=>exact (hCX H e s' h).elim
  | ok fl =>
   cases fl with
   | next=>exact False.elim h
   | brk=>exact False.elim h
   | cont=>exact False.elim h
   | ret u =>
    obtain v|H'|os|bare|un|hok'|r'|q:=h;have q':v=.bl true:=q;subst q';obtain rfl:u=Value.bool true:=r';refine #[rfl,OldK.of_keep λb o e=>?_,os,bare];cases q:H b with
    | none=>exact un.keep b o e q (by intro z;exact absurd (show b∈([]:List Addr) from z) (by simp)) (by simp)
    | some u =>
     rcases hO b with z | ⟨ob,xs,z⟩
     ·rw[q] at z;cases z
     ·have z2:=un.frzs b ob _ z;obtain e1|_:=hok b _ z;obtain e2|_:=hok' b _ z2;rw[e] at e1;cases e1;exact e2
 cases hk:K.lookup a with
 | some o =>
  have e:=KX a o hk;rw[ha] at e;cases e;refine core (λ_=>none) (λ_=>.inl rfl) (.inr #[_,vs.5,_,hk,rfl,rfl,rfl,by rw[aW,lenV];exact hl,by simpa using rv]) (λb u z=>by have z':(none:Option HO)=some u:=z;cases z') (λb z=>absurd rfl z) λz=>absurd rfl z
 | none =>
  refine core (λb=>if b=a then some (.frz { cls:=.type "list",data:=.seq vs.5 } (.lst (ns.map V.int))) else none) (λb=>?_) (.inl (.inr #[{ cls:=.type "list",data:=.seq vs.5 },if_pos rfl])) (λb u z=>?_) (λb z=>?_) λ_=>hk
  ·by_cases hb:b=a
   ·exact .inr #[_,_,if_pos hb]
   ·exact .inl (if_neg hb)
  ·by_cases hb:b=a
   ·have z':=(if_pos hb).symm.trans z;cases z';subst hb;exact #[ha,by rw[af];exact hl,vs,_,rv,ha]
   ·have z':=(if_neg hb).symm.trans z;cases z'
  ·by_cases hb:b=a
   ·exact hb
   ·exact absurd (if_neg hb) z
theorem Pg {l:PySem.W.OpenLaw} {K:Params->FG9} {CX:World->O8} {sp:World->Sp} 
  (hn:l.most=some n) (hn2:n<=sizeLine) (hdf:d.params.defaults=[]) (hr:mO k callerA) (hi:importsNone q=true)
  (hY:∀(w:World) (h:Heap),YP w h->(K w.params).In h)
  (F:∀(w:World) (mg:Str->Option Value) (fa:Addr) (h:Heap),(K w.params).In h->h.Ns mainGlobals mg->mg d.name=some (.ref fa) →
   ∃fd:FuncData,(∀(s:Shared) (u:Value),BindsTo s fd #[[u],[]] [(x,u)]) /\
    ∀base:Heap,(K w.params).In base->base.Ns mainGlobals mg->cQ l.prog w (K w.params) mg base (CX w) k fa fd [x] (sp w))
  (hsp:∀(w:World) (H:Hp) (a:Addr) (ns:List Int),ns.9<=n->Ui H->bJ (K w.params) H a (ns.map V.int)->sp w [.ref a] H (λv _=>v=.bl true) λ_ _ _=>False)
  (hCX:∀(w:World) (H:Hp) (s:Shared) (e:Value) (s':Shared),CX w [] H s (λ_ _ _=>False) e s'->False) :
  PySem.W.WalkO q loose XP YP l.row.toRowW d [] (λf vs=>PySem.call f vs):=by
 refine Att.HW hn hdf λw s₀ s₁ mg mb fa o pm cd doc a vs ns G Y ho hd hcd hmg hobj hints hlen hg=>?_
 have KX:=hY w _ Y;obtain fd|hb|hF:=F w mg fa _ KX G.T.g hmg;exact NW KX G.T.g G.T.b G.T.builtins G.T.nolimit (G.T.seer hi) hg hobj hints (aj hlen hn2) hr hF hb (λH hO hS=>hsp w H a ns hlen hO hS) λH e s'=>hCX w H s₁ e s'
end L2

namespace L2
open PySem PySem.Spec PyProof.Rows
def inClass (s:Stmt) (j:Nat):Stmt:=match s with
 | .ClassDef _ _ _ body _ _ _ _ _ _ _=>body.getD j (.Pass #[0,0,0,0])
 | _=>.Pass #[0,0,0,0]
def ic (s:Stmt):Arguments:=match s with
 | .FunctionDef _ a _ _ _ _ _ _ _ _=>a
 | _=>{ posonlyargs:=[],args:=[],vararg:=none,kwonlyargs:=[],kw_defaults:=[],kwarg:=none,defaults:=[] }
def fN (s:Stmt):List Stmt:=match s with
 | .FunctionDef _ _ b _ _ _ _ _ _ _=>b
 | _=>[]
def aM (s:Stmt):Scope:=match s with
 | .FunctionDef _ _ _ _ _ _ sc _ _ _=>sc
 | _=>{ kind:=.function,names:=[],isGenerator:=false,isCoroutine:=false }
abbrev iJ:O8:=λ_ _ _ _ _ _=>False
abbrev E0:XK:=λ_ _ _=>False
theorem kd:zf iJ X E0:=λ_ _ _ _ _ _ _ h=>h.elim
structure F1 (K:FG9) (x qual:Str) (st:Stmt) (f:Addr) (fd:FuncData):Prop where
 ex:∃(oc:Value) (od:Option Addr) (kV doc pm:Value) (an:Option Addr) (cdv ct:Value) (osl:Array (Option Value)),
  fd=PySem.W.fnOf x qual (ic st) (fN st) (aM st) .none kV doc pm an cdv ct/\K.lookup f=some #[oc,od,.func fd,osl]/\PySem.W.codeIn K cdv qual=true
 kp:PySem.W.keepIn K (.ref f)=true
section
variable {P:Program} {w:World} {K:FG9} {mg:Str->Option Value} {base:Heap}
theorem F1.ok {st:Stmt} (F:F1 K x qual st f fd) (S:ba N ps (aM st)) (len:∀vs H Q E,sp vs H Q E->vs.9=ps.9)
  (hbody:∀(cdv:Value) (A:Around) (outer:List Env) (s:Shared) (H:Hp) (vs:List V) (Q:VK) (E:XK),mO k (A.deeper (envOfC qual (aM st) s.heap.objs.size f cdv))->sp vs H Q E →
   ∃t,JG (L8 iJ P w K mg base N qual (aM st) f cdv A outer s H E).nox (fN st) t/\t { nx:=λ_ H'=>Q .non H',rt:=Q } (start N vs) H):cQ P w K mg base iJ (k+1) f fd ps sp:=by
 obtain oc|od|kV|doc|pm|an|cdv|ct|osl|rfl|lk|hcd:=F.ex;refine Vy lk hcd S len λA outer s H vs Q E hr hsp=>?_
 obtain t|h|q:=hbody cdv A outer s H vs Q E hr hsp;exact #[t,h.nox,q]
theorem F1.binds {st:Stmt} (F:F1 K x qual st f fd)
  (h:∀(kV doc pm:Value) (an:Option Addr) (cdv ct:Value) (us:List Value),us.9=ps.9->bindArgs (PySem.W.fnOf x qual (ic st) (fN st) (aM st) .none kV doc pm an cdv ct) #[us,[]]=pure (ps.zip us)):Binds K fd ps []:=by
 obtain oc|od|kV|doc|pm|an|cdv|ct|osl|rfl|lk|hcd:=F.ex;exact .all (h kV doc pm an cdv ct)
theorem og {st:Stmt} {kV doc pm cdv ct:Value} (l:K.lookup f=some #[oc,od,.func (PySem.W.fnOf x qual (ic st) (fN st) (aM st) .none kV doc pm an cdv ct),osl])
  (c:PySem.W.codeIn K cdv qual=true) (k:PySem.W.keepIn K (.ref f)=true):F1 K x qual st f (PySem.W.fnOf x qual (ic st) (fN st) (aM st) .none kV doc pm an cdv ct):=#[#[oc,od,kV,doc,pm,an,cdv,ct,osl,rfl,l,c],k]
end
structure Df (K:FG9) (mg:Str->Option Value) (x:Str) (st:Stmt) (ps:List Str) (f:Addr) (fd:FuncData):Prop where
 m:mg x=some (.ref f)
 b:Binds K fd ps []
 F:F1 K x x st f fd
structure Dh (K:FG9) (x:Str) (st:Stmt) (f:Addr) (fd:FuncData):Prop where
 a:PySem.W.nsIn K mainGlobals x=some (some (.ref f))
 F:F1 K x x st f fd
theorem VA {K:FG9} {st:Stmt} {kV doc pm cdv ct:Value} (a:PySem.W.nsIn K mainGlobals x=some (some (.ref f))) (l:K.lookup f=some #[oc,od,.func (PySem.W.fnOf x x (ic st) (fN st) (aM st) .none kV doc pm an cdv ct),osl]) (c:PySem.W.codeIn K cdv x=true) (k:PySem.W.keepIn K (.ref f)=true):Dh K x st f (PySem.W.fnOf x x (ic st) (fN st) (aM st) .none kV doc pm an cdv ct):=#[a,og l c k]
theorem Dh.D {K:FG9} {x:Str} {st:Stmt} {f:Addr} {fd:FuncData} {ps:List Str} {mg:Str->Option Value} {h:Heap} (d:Dh K x st f fd) (X:K.In h) (G:h.Ns mainGlobals mg) (hb:∀(kV doc pm:Value) (an:Option Addr) (cdv ct:Value) (us:List Value),us.9=ps.9->bindArgs (PySem.W.fnOf x x (ic st) (fN st) (aM st) .none kV doc pm an cdv ct) #[us,[]]=pure (ps.zip us):=by walk_at "b"):Df K mg x st ps f fd:=#[PySem.W.mg_of X G d.a,d.F.binds hb,d.F]
theorem cK {X:Cx} {k k':Nat} {f:Addr} {fd:FuncData} {ps:List Str} {sp:Sp} {x:Str} {st:Stmt} {p pos:Pos} {e:Expr} {es:List Expr} {t:TA} (F:cQ X.prog X.w X.K X.mg X.base iJ k f fd ps sp) (hr:mO k' X.A) (D:Df X.K X.mg x st ps f fd) (ha:PA X (e :: es) t) (hle:k<=k':=by decide) (hg:Gl X x:=by exact rfl) (hdb:(x == ("__debug__":Str))=false:=by decide) (he:starEach (e :: es) X.env=(false,eval e X.env) :: starEach es X.env:=by rfl) (hpl:(backTo pos (starEach es X.env)).any (·.1)=false:=by rfl):PE X (.Call (.Name x p) (e :: es) [] pos) (MK sp [] E0 t):=E4 F (hr.mono hle) hg D.m D.F.kp D.b .nil kd ha hdb he hpl
theorem bD (h:n<=1000):n < sizeLine:=bO h ()
section
variable {X:Cx}
theorem pv (i:Nat) {x:Str} {pos:Pos} (hN:X.N[i]?=some x:=by rfl) (hv:Wi X.env.scope x:=by first | exact Or.inl rfl | exact Or.inr (Or.inl rfl) | exact Or.inr (Or.inr rfl)) (hd:(x == ("__debug__":Str))=false:=by decide)
  (hcd:(x == ("__classdict__":Str))=false:=by decide):PE X (.Name x pos) (Sy i):=Ti hN hv hd hcd
end
theorem Oa {A B:Prop} (h:B):if false=true then A else B:=by
 rw[if_neg bF];exact h
theorem Wf {A B:Prop} (h:A):if true=true then A else B:=by
 rw[if_pos rfl];exact h
theorem jC {c A B:Prop} [Decidable c] (h1:c->A) (h2:¬c->B):if c then A else B:=by
 by_cases h:c
 ·rw[if_pos h];exact h1 h
 ·rw[if_neg h];exact h2 h
def aA (H H':Hp):Prop:=∀b o,H b=some o->H' b=some o
theorem aA.refl (H:Hp):aA H H:=λ_ _ h=>h
theorem aA.trans (a:aA H H1) (b:aA H1 H2):aA H H2:=λc o h=>b c o (a c o h)
theorem aA.free (e:aA H H') (h:H' l=Option.none):H l=Option.none:=by
 cases q:H l with
 | none=>rfl
 | some o =>
  rw[e l o q] at h;cases h
theorem aA.seq {K:FG9} (e:aA H H') (h:bJ K H a xs):bJ K H' a xs:=by
 rcases h with (h | ⟨o,h⟩) | h
 ·exact .inl (.inl (e _ _ h))
 ·exact .inl (.inr #[o,e _ _ h])
 ·exact .inr h
end L2
namespace Nm
theorem Oj (a b:Int):Int.gcd b (a.fmod b)=Int.gcd a b:=by
 rw[Int.fmod_def,mG a b];apply Nat.dvd_antisymm
 ·apply O0
  ·exact fk ..
  ·have h1:=fk (a:=b) (b:=a - b*a.fdiv b);have h2:=fV (a:=b) (b:=a - b*a.fdiv b);have h3:=Int.dvd_add h2 (oE (c:=a.fdiv b) h1);rwa [Int.sub_add_cancel] at h3
 ·apply O0
  ·exact fk ..
  ·exact Int.dvd_sub (fV ..) (oE (fk ..))
theorem Ol (a b:Int):Int.gcd b (a % b)=Int.gcd a b:=by
 rw[Int.emod_def,mG a b];apply Nat.dvd_antisymm
 ·apply O0
  ·exact fk ..
  ·have h1:=fk (a:=b) (b:=a - b*(a / b));have h2:=fV (a:=b) (b:=a - b*(a / b));have h3:=Int.dvd_add h2 (oE (c:=a / b) h1);rwa [Int.sub_add_cancel] at h3
 ·apply O0
  ·exact fk ..
  ·exact Int.dvd_sub (fV ..) (oE (fk ..))
theorem QC (a b:Int) (h:b≠0):(a.fmod b).natAbs < b.natAbs:=by
 rcases Int.lt_or_gt_of_ne h with h | h
 ·have e:a.fmod b=-((-a).fmod (-b)):=by
   have:=Int.neg_fmod_neg (-a) (-b);simp only[OZ] at this;exact this
  have h1:=Int.fmod_nonneg_of_pos (-a) (b:=-b) ();have h2:=Int.fmod_lt_of_pos (-a) (b:=-b) ()
  lia
 ·have h1:=Int.fmod_nonneg_of_pos a h;have h2:=Int.fmod_lt_of_pos a h
  lia
def g (t b:Int):Int:=(Int.gcd t b:Int)
def lo (t b:Int):Int:=t / g t b
def hi (t b:Int):Int:=b / g t b
theorem Cb (h:b≠0):0 < g t b:=by
 unfold g;have:0 < Int.gcd t b:=tP _ h
 lia
theorem BW (t b:Int):lo t b*g t b=t:=Int.ediv_mul_cancel (fk ..)
theorem yU (t b:Int):hi t b*g t b=b:=Int.ediv_mul_cancel (fV ..)
theorem Fs (h:0 < b):0 < hi t b:=by
 have h1:=Cb (t:=t) (b:=b) ();have h2:=yU t b;by_cases h3:0 < hi t b
 ·exact h3
 ·have:hi t b*g t b<=0:=Int.mul_nonpos_of_nonpos_of_nonneg () ()
  lia
theorem BU (h:b≠0):Int.gcd (lo t b) (hi t b)=1:=by
 have h1:=Cb (t:=t) h;have e:=Int.gcd_mul_right (lo t b) (g t b) (hi t b);rw[BW,yU] at e;have e2:(g t b).natAbs=Int.gcd t b:=by unfold g;simp
 rw[e2] at e;have h2:0 < Int.gcd t b:=tP _ h;exact Nat.eq_of_mul_eq_mul_right h2 (by rw[<- e,yr])
theorem BV (t b:Int):lo t b*b=t*hi t b:=by
 have h1:=BW t b;have h2:=yU t b
 calc lo t b*b=lo t b*(hi t b*g t b):=by rw[h2]
  _=(lo t b*g t b)*hi t b:=by rw[iC (hi t b),<- dZ]
  _=t*hi t b:=by rw[h1]
theorem sR (h:Int.gcd a b=1) (hd:a∣b*c):a∣c:=by
 have h1:a.natAbs∣b.natAbs*c.natAbs:=by rw[<- fU];exact gI.mpr hd
 have h2:Nat.Coprime a.natAbs b.natAbs:=h;exact gI.mp (h2.dvd_of_dvd_mul_left h1)
theorem uniq (hb:0 < b) (hd:0 < d) (h1:Int.gcd a b=1) (h2:Int.gcd c d=1) (e:a*d=c*b):a=c/\b=d:=by
 have e1:b∣d:=by
  have:b∣a*d:=#[c,by rw[e,iC]];exact sR (by rw[mG];exact h1) this
 have e2:d∣b:=by
  have:d∣c*b:=#[a,by rw[<- e,iC]];exact sR (by rw[mG];exact h2) this
 have e3:b=d:=Int.dvd_antisymm () () e1 e2;subst e3;exact #[wa () e,rfl]
theorem Tr (hb:0 < b) (hd:0 < d) (h2:Int.gcd c d=1) (e:t*d=c*b):lo t b=c/\hi t b=d:=by
 refine uniq (Fs hb) hd (BU ()) h2 ?_;have h:=BV t b;have hb':b≠0:=()
 apply wa hb'
 calc lo t b*d*b=lo t b*b*d:=by rw[dZ,iC d b,<- dZ]
  _=t*hi t b*d:=by rw[h]
  _=t*d*hi t b:=by rw[dZ,iC (hi t b),<- dZ]
  _=c*b*hi t b:=by rw[e]
  _=c*hi t b*b:=by rw[dZ,iC b,<- dZ]
theorem Ts (hb:0 < b) (h:Int.gcd a b=1):lo a b=a/\hi a b=b:=Tr hb hb h rfl
theorem pS {a b:Int} (h:b≠0):a.natAbs<=(a*b).natAbs:=by
 rw[fU];exact de _ (Int.natAbs_pos.mpr h)
theorem lo_le (h:b≠0):(lo t b).natAbs<=t.natAbs:=by
 have:=pS (a:=lo t b) (b:=g t b) (by have:=Cb (t:=t) h;lia);rwa [BW] at this
theorem RQ (h:b≠0):(hi t b).natAbs<=b.natAbs:=by
 have:=pS (a:=hi t b) (b:=g t b) (by have:=Cb (t:=t) h;lia);rwa [yU] at this
def Sz (k:Nat) (x:Int):Prop:=x.natAbs < 2^k
theorem Sz.mono (h:Sz j x) (l:j<=k):Sz k x:=bx h (aF () l)
theorem Sz.mul (h1:Sz j x) (h2:Sz k y):Sz (j+k) (x*y):=by
 unfold Sz at *
 rw[fU,aJ];exact Nat.mul_lt_mul'' h1 h2
theorem Sz.neg (h:Sz k x):Sz k (-x):=by unfold Sz at *;rw[pj];exact h
theorem Sz.le (h:Sz k y) (l:x.natAbs<=y.natAbs):Sz k x:=bO l h
theorem Sz.hi {k:Nat} {t b:Int} (h:Sz k b) (hb:b≠0):Sz k (hi t b):=h.le (RQ hb)
end Nm
namespace L2
open PySem PySem.Spec PyProof.Rows
structure Bk (env:Env) (scope:Scope) (own capN:List Str):Prop where
 kind:scope.kind=.function
 locs:∀y∈scope.names,y.2=.local->scope.names.lookup y.1=some .local
 ownk:∀x∈own,scope.names.lookup x=some .local\/scope.names.lookup x=some .cell
 cells:∀y∈scope.names,y.2=.cell->y.1∈own/\y.1∉capN
 frees:∀y∈scope.names,y.2=.free->y.1∈capN/\y.1∉own
 capf:∀x∈capN,scope.names.lookup x=some .free
 caps:∀x∈capN,env.kindOf x=some .cell\/env.kindOf x=some .free
def VV (scope:Scope) (own capN:List Str):Bool :=
 decide (scope.kind=.function) && scope.names.all (λy=>decide (y.2=.local->scope.names.lookup y.1=some .local) && decide (y.2=.cell->y.1∈own/\y.1∉capN) && decide (y.2=.free->y.1∈capN/\y.1∉own)) &&
 own.all (λx=>decide (scope.names.lookup x=some .local\/scope.names.lookup x=some .cell)) && capN.all λx=>decide (scope.names.lookup x=some .free)
def D8 (env:Env):List Str->Bool
 | []=>true
 | x :: r=>(match env.kindOf x with | some .cell=>true | some .free=>true | _=>false) && D8 env r
theorem HS {env:Env}:∀{capN:List Str},D8 env capN=true->∀x∈capN,env.kindOf x=some .cell\/env.kindOf x=some .free
 | [],_,_,h=>nomatch h
 | y :: r,h,x,hx=>by
  unfold D8 at h;rw[iH] at h;rcases aI.mp hx with e | hx
  ·subst e;have h1:=h.1
   split at h1
   ·rename_i e;exact .inl e
   ·rename_i e;exact .inr e
   ·cases h1
  ·exact HS h.2 x hx
theorem Bk.of (h1:VV scope own capN=true) (h2:D8 env capN=true):Bk env scope own capN:=by
 unfold VV at h1;rw[iH,iH,iH,Aq,Aq,Aq] at h1;obtain ⟨⟨a1,a2⟩,a3⟩|a4:=h1
 have a2':∀y∈scope.names,(y.2=.local->scope.names.lookup y.1=some .local)/\(y.2=.cell->y.1∈own/\y.1∉capN)/\(y.2=.free->y.1∈capN/\y.1∉own):=λy hy=>by
  have q:=a2 y hy;rw[iH,iH] at q;exact #[of_decide_eq_true q.1.1,of_decide_eq_true q.1.2,of_decide_eq_true q.2]
 exact #[of_decide_eq_true a1,λy hy=>(a2' y hy).1,λx hx=>of_decide_eq_true (a3 x hx),λy hy=>(a2' y hy).2.1,λy hy=>(a2' y hy).2.2,λx hx=>of_decide_eq_true (a4 x hx),HS h2]
def fF (env:Env):List (Str×NameKind)->List (Str×Addr)->List (Str×Addr)
 | [],acc=>acc
 | (n,k) :: r,acc=>if k == .free then fF env r ((n,(env.cells.lookup n).getD 0) :: acc) else fF env r acc
theorem jD (env:Env):∀(names:List (Str×NameKind)) (acc:List (Str×Addr)),fF env names acc=fF env names []++acc
 | [],_=>rfl
 | (n,k) :: r,acc=>by
  unfold fF
  split
  ·rw[jD env r (_ :: acc),jD env r [_],cV];rfl
  ·exact jD env r acc
theorem sV (env:Env):∀(names:List (Str×NameKind)) {x:Str} {c:Addr},(x,c)∈fF env names []->(x,NameKind.free)∈names/\c=(env.cells.lookup x).getD 0
 | [],_,_,h=>nomatch h
 | (n,k) :: r,x,c,h=>by
  unfold fF at h
  split at h
  ·rename_i hk
   have ek:k=.free:=by simpa using hk
   subst ek;rw[jD] at h;rcases aw.mp h with h | h
   ·have q:=sV env r h;exact #[bR _ q.1,q.2]
   ·have e:(x,c)=(n,(env.cells.lookup n).getD 0):=by simpa using h
    cases e;exact #[dE,rfl]
  ·have q:=sV env r h;exact #[bR _ q.1,q.2]
theorem jX {α:Type}:∀{l:List (Str×α)} {x:Str} {c:α},(x,c)∈l->∃d,l.lookup x=some d
 | (k,v) :: r,x,c,h=>by
  rw[mE];cases hb:x == k with
  | true=>exact #[v,rfl]
  | false =>
   rcases aI.mp h with e | h
   ·cases e;simp at hb
   ·exact jX h
theorem sW (env:Env):∀(names:List (Str×NameKind)) {x:Str},(x,NameKind.free)∈names->∃c,(x,c)∈fF env names []
 | (n,k) :: r,x,h=>by
  unfold fF;rcases aI.mp h with e | h
  ·cases e;rw[if_pos (),jD];exact #[_,bU _ dE]
  ·obtain c|q:=sW env r h
   split
   ·rw[jD];exact #[c,lD _ q]
   ·exact #[c,q]
theorem Cv (h:∀y∈scope.names,y.2=.free->∃c,env.cells.lookup y.1=some c):closureFor scope env=pure (fF env scope.names []):=by
 have gen:∀(names:List (Str×NameKind)) (acc:List (Str×Addr)) (f:Str×NameKind->List (Str×Addr)->Sem (ForInStep (List (Str×Addr)))),
   (∀name kind cells,f (name,kind) cells=if kind == .free then (do let a <- cellOf env name;pure (.yield ((name,a) :: cells))) else pure (.yield cells)) →
   (∀y∈names,y.2=.free->∃c,env.cells.lookup y.1=some c)->forIn names acc f=pure (fF env names acc):=by
  intro names
  induction names with
  | nil=>intro acc f hf _;rw[Er];rfl
  | cons y r ih =>
   intro acc f hf hh;obtain n|k:=y;rw[Pe,hf];unfold fF;by_cases hk:(k == NameKind.free)=true
   ·obtain c|hc:=hh (n,k) dE (by simpa using hk);have hc':env.cells.lookup n=some c:=hc;have e:cellOf env n=pure c:=by unfold cellOf;rw[hc']
    rw[if_pos hk,if_pos hk,e,hc'];simp only[pure_bind,eY];exact ih _ f hf λy hy=>hh y (bR _ hy)
   ·rw[if_neg hk,if_neg hk];simp only[pure_bind];exact ih _ f hf λy hy=>hh y (bR _ hy)
 simp only[closureFor];rw[gen scope.names [] _ (λname kind cells=>by cases hkc:kind == NameKind.free <;> simp [hkc]) h];rfl
theorem ij:∀(names:List (Str×NameKind)) (n:Nat) (acc:List (Str×Addr)),cellsFrom n names acc=cellsFrom n names []++acc
 | [],_,_=>rfl
 | (x,k) :: r,n,acc=>by
  unfold cellsFrom
  split
  ·rw[ij r (n+1) (_ :: acc),ij r (n+1) [_],cV];rfl
  ·exact ij r n acc
theorem mj:∀(names:List (Str×NameKind)) (n:Nat) {x:Str} {c:Addr},(x,c)∈cellsFrom n names []->(x,NameKind.cell)∈names
 | [],_,_,_,h=>nomatch h
 | (y,k) :: r,n,x,c,h=>by
  unfold cellsFrom at h
  split at h
  ·rename_i hk
   have ek:k=.cell:=by simpa using hk
   subst ek;rw[ij] at h;rcases aw.mp h with h | h
   ·exact bR _ (mj r _ h)
   ·have e:(x,c)=(y,n):=by simpa using h
    cases e;exact dE
  ·exact bR _ (mj r _ h)
def y8 (env:Env) (scope:Scope) (C:Addr):Env :=
 { scope:=relabel scope env,locals:=C,globals:=env.globals,cells:=cellsFrom (C+1) scope.names (fF env scope.names []),qual:=env.qual,func:=none,code:=env.code,frame:=env.frame,builtins:=env.builtins }
theorem Hr 
  (h:Q (newEnv scope s.heap.objs.size g (cellsFrom (s.6+1) scope.names cl) qual none .none (some env) builtinsNs) { s with heap:=pushCells (s.heap.push { cls:=.type "dict",data:=.dict [].toArray }) scope.names }) :
  wpAny M A (newFunctionEnv scope g cl [] qual none .none (some env)) Q E s:=by
 simp only[newFunctionEnv,Option.isSome_some,if_true];refine wpAny_bind (wpAny_alloc ?_);refine wpAny_bind (wpAny_layCells _ (λname kind cells=>by cases hkc:kind == NameKind.cell <;> simp [hkc]) _ _ _ _ ?_);rw[show ({ s with heap:=s.heap.push { cls:=.type "dict",data:=.dict [].toArray } }:Shared).6=s.6+1 from Heap.size_push ..];rw[Er];exact wpAny_bind (wpAny_pure (wpAny_pure h))
theorem xr:∀{k:NameKind},(relabel scope env).names.lookup x=some k->∃k0,scope.names.lookup x=some k0/\(k=k0\/(k0=.free/\k=.cell)):=by
 unfold relabel;show ∀{k:NameKind},(scope.names.map λ(n,k)=>if (k == NameKind.free && env.scope.kind == .function && env.kindOf n == some .cell) then (n,NameKind.cell) else (n,k)).lookup x=some k->_
 induction scope.names with
 | nil=>intro k h;cases h
 | cons y r ih =>
  intro k h;obtain n|k1:=y;rw[mW,mE] at h;rw[mE];by_cases hc:(k1 == NameKind.free && env.scope.kind == .function && env.kindOf n == some .cell)=true
  ·simp only[hc,if_true] at h;cases hb:x == n with
   | true =>
    simp only[hb] at h
    have e1:k1=.free:=by
     rw[iH,iH] at hc;simpa using hc.1.1
    cases h;exact #[k1,rfl,.inr #[e1,rfl]]
   | false=>simp only[hb] at h;exact ih h
  ·have hc':(k1 == NameKind.free && env.scope.kind == .function && env.kindOf n == some .cell)=false:=by simpa using hc
   simp only[hc',jR,if_false] at h;cases hb:x == n with
   | true=>simp only[hb] at h;cases h;exact #[_,rfl,.inl rfl]
   | false=>simp only[hb] at h;exact ih h
theorem GU:scope.names.lookup x=some .free->(relabel scope env).names.lookup x=some .cell\/(relabel scope env).names.lookup x=some .free:=by
 unfold relabel;show _->(scope.names.map λ(n,k)=>if (k == NameKind.free && env.scope.kind == .function && env.kindOf n == some .cell) then (n,NameKind.cell) else (n,k)).lookup x=some .cell\/(scope.names.map λ(n,k)=>if (k == NameKind.free && env.scope.kind == .function && env.kindOf n == some .cell) then (n,NameKind.cell) else (n,k)).lookup x=some .free
 induction scope.names with
 | nil=>intro h;cases h
 | cons y r ih =>
  intro h;obtain n|k1:=y;rw[mE] at h;rw[mW];by_cases hc:(k1 == NameKind.free && env.scope.kind == .function && env.kindOf n == some .cell)=true
  ·simp only[hc,if_true,mE];cases hb:x == n with
   | true=>exact .inl rfl
   | false=>rw[hb] at h;exact ih h
  ·have hc':(k1 == NameKind.free && env.scope.kind == .function && env.kindOf n == some .cell)=false:=by simpa using hc
   simp only[hc',jR,if_false,mE];cases hb:x == n with
   | true=>rw[hb] at h;cases h;exact .inr rfl
   | false=>rw[hb] at h;exact ih h
structure Bz where
 s:Shared
 H:Hp
 fp:List Addr
 C:Addr
def Aw (X:Cx) (own capN:List Str) (scope:Scope) (Z:Bz):Cx where
 prog:=X.prog
 w:=X.w
 K:=X.K
 mg:=X.mg
 base:=X.base
 A:=X.A
 N:=own++capN
 s₀:=Z.s
 H₀:=Z.H
 env:=y8 X.env scope Z.C
 outer:=X.stack
 stack:=X.stack
 ex:=Z.fp
 fn:=λx=>own.contains x
 calm:=true
 pn:=[]
 xe:=λ_ _=>False
section
variable {X:Cx} {pins:List (Addr×Obj)} {σ:St} {own capN:List Str} {scope:Scope} {Z:Bz}
theorem ko (B:Bk X.env scope own capN) (I:Inv X pins σ Z.H Z.s) (h:(y8 X.env scope Z.C).cells.lookup x=some c) :
  (x∈own/\(x,c)∈cellsFrom (Z.C+1) scope.names [])\/(x∈capN/\x∉own/\X.env.cells.lookup x=some c):=by
 have h':(cellsFrom (Z.C+1) scope.names (fF X.env scope.names [])).lookup x=some c:=h;rw[ij] at h';rcases aw.mp (mem_of_lookup h') with m | m
 ·exact .inl #[(B.cells _ (mj _ _ m) rfl).1,m]
 ·obtain m1|e:=sV _ _ m;obtain q1|q2:=B.frees _ m1 rfl;obtain d|hd:=I.ok.has x (B.caps x q1);rw[hd] at e;exact .inr #[q1,q2,by rw[hd,e];rfl]
theorem QX (B:Bk X.env scope own capN) (I:Inv X pins σ Z.H Z.s) (hx:x∈capN) (h:X.env.cells.lookup x=some c):(y8 X.env scope Z.C).cells.lookup x=some c:=by
 have hm:(x,NameKind.free)∈scope.names:=mem_of_lookup (B.capf x hx);obtain c1|m1:=sW X.env scope.names hm
 have hs:∃d,(y8 X.env scope Z.C).cells.lookup x=some d:=by
  show ∃d,(cellsFrom (Z.C+1) scope.names (fF X.env scope.names [])).lookup x=some d
  rw[ij];exact jX (bU _ m1)
 obtain d|hd:=hs;rcases ko B I hd with ⟨q,m⟩ | ⟨_,_,q⟩
 ·exact absurd hx (B.cells _ (mj _ _ m) rfl).2
 ·rw[h] at q;cases q;exact hd
theorem LD (h:Heap) (C:Addr) (hC:h.objs.7=C+1) (names:List (Str×NameKind)):CellsOk (pushCells h names) (C+1) (cellsFrom (C+1) names []):=by
 have q:=cellsFrom_ok names h (C+1) [] #[λ_ _ hm=>(nomatch hm),List.Pairwise.nil] (by rw[hC];exact ar _);rwa [hC] at q
theorem FJ (I:Inv X pins σ Z.H Z.s) (h:X.env.cells.lookup x=some c):@LT.lt Nat instLTNat c Z.s.6:=by
 obtain v|q:=I.cell x c h;exact q.lt
theorem T7 (I:Inv X pins σ Z.H Z.s) (hc:X.calm=true) (B:Bk X.env scope own capN) (hC:Z.s.6<=Z.C) (hcl:CellsOk h1 (Z.C+1) (cellsFrom (Z.C+1) scope.names []))
  (hf:∀b∈Z.fp,lZ X pins Z.H b/\@LT.lt Nat instLTNat b Z.s.6):(Aw X own capN scope Z).Ok:=by
 refine #[I.ok.mod,B.kind,I.ok.glob,I.ok.blt,hC,λx y c h1 h2=>?_,λx hx=>?_,λx c hx h=>?_,λ_=>I.ok.hd hc,I.ok.frames,.inl rfl,λb hb=>#[?_,λx c h=>?_],I.bs,aj I.ok.bsz I.sz,λb o e hb=>?_,λb hb hz=>?_,I.stack,I.stkFree]
 ·rcases ko B I h1 with ⟨q1,m1⟩ | ⟨q1,n1,m1⟩ <;> rcases ko B I h2 with ⟨q2,m2⟩ | ⟨q2,n2,m2⟩
  ·exact name_of_addr hcl.apart m1 m2
  ·have l1:=(hcl.empty _ _ m1).2;have l2:=FJ I m2
   lia
  ·have l1:=(hcl.empty _ _ m2).2;have l2:=FJ I m1
   lia
  ·exact I.ok.inj x y c m1 m2
 ·have hx':(relabel scope X.env).names.lookup x=some .cell\/(relabel scope X.env).names.lookup x=some .free:=hx
  have hk:scope.names.lookup x=some .cell\/scope.names.lookup x=some .free:=by
   rcases hx' with h | h
   ·obtain ⟨k0,e,q | ⟨q,_⟩⟩:=xr h
    ·exact .inl (by rw[e,<- q])
    ·exact .inr (by rw[e,q])
   ·obtain ⟨k0,e,q | ⟨_,q⟩⟩:=xr h
    ·exact .inr (by rw[e,<- q])
    ·cases q
  show ∃c,(cellsFrom (Z.C+1) scope.names (fF X.env scope.names [])).lookup x=some c
  rcases hk with h | h
  ·exact Uz.mp (AU scope.names (Z.C+1) _ (.inl h))
  ·obtain c|m:=sW X.env scope.names (mem_of_lookup h);rw[ij];exact jX (bU _ m)
 ·have ho:x∈own:=by have hx':own.contains x=true:=hx;simpa using hx'
  rcases ko B I h with ⟨_,m⟩ | ⟨_,n,_⟩
  ·have:=(hcl.empty _ _ m).2;have hC':Z.s.6<=Z.C:=hC;show Z.s.6<=c
   lia
  ·exact absurd ho n
 ·intro e;have e':@Eq Nat b Z.C:=e;have:=(hf b hb).2
  lia
 ·have l:=(hf b hb).2;rcases ko B I h with ⟨_,m⟩ | ⟨_,_,m⟩
  ·intro e;have e':@Eq Nat c b:=e;have:=(hcl.empty _ _ m).2
   lia
  ·exact (hf b hb).1.2.2.2.2.1 x c m
 ·obtain _|_|_|f3|_:=(hf b hb).1;rcases f3 with f3 | f3
  ·exact I.ok.noex b o e f3
  ·exact absurd (bx (Heap.lt_size e) (aj I.ok.bsz f3)) (gQ _)
 ·obtain _|f1|f2|_:=(hf b hb).1;rcases aI.mp (I.stkSub b hz) with e | e
  ·exact f1 e
  ·exact f2 e
def Mn (k:Nat) (cap:List Nat) (σ:St):St:=List.replicate k none++cap.map λj=>(σ[j]?).join
def Ao (X:Cx) (capN:List Str) (cap:List Nat):Prop:=cap.map (λj=>X.N[j]?)=capN.map some
theorem Ao.get (h:Ao X capN cap) {i:Nat} (e:capN[i]?=some x):∃j,cap[i]?=some j/\X.N[j]?=some x:=by
 have q:=congrArg (λl=>l[i]?) h;simp only[ay,e,Option.map_some] at q;cases hc:cap[i]? with
 | none=>rw[hc] at q;cases q
 | some j=>rw[hc] at q;exact #[j,rfl,by simpa using q]
theorem HU (I:Inv X pins σ Z.H Z.s) (B:Bk X.env scope own capN) (hcap:Ao X capN cap)
  (kc:∀x c,X.env.cells.lookup x=some c->∀v,Z.s.heap.IsCell c v->h'.IsCell c v) {i:Nat} (e1:(own++capN)[i]?=some x) (e2:(Mn own.9 cap σ)[i]?=some (some v)) :
  ∃u,RelV v u/\Look (y8 X.env scope Z.C) h' m x u:=by
 have hi:own.9<=i:=by
  by_cases hi:own.9<=i
  ·exact hi
  ·exfalso
   unfold Mn at e2;rw[gG (by simpa using hi),oC] at e2
   split at e2 <;> cases e2
 rw[fQ hi] at e1;unfold Mn at e2;rw[fQ (by simpa using hi),c8,ay] at e2;obtain j|hj|hN:=hcap.get e1;rw[hj] at e2;have e3:(σ[j]?).join=some v:=by simpa using e2
 have e4:σ[j]?=some (some v):=by
  cases q:σ[j]? with
  | none=>rw[q] at e3;cases e3
  | some o=>rw[q] at e3;simp at e3;rw[e3]
 have hx:x∈capN:=ao e1;have hk:=B.caps x hx;obtain m0|_|hl:=I.loc;obtain u|r|l:=hl j x v hN e4 (.inr hk);refine #[u,r,.inr #[GU (B.capf x hx),?_]];rcases l with ⟨hk2,_⟩ | ⟨_,c,hc,z⟩
 ·rcases hk with hk | hk
  ·rw[hk] at hk2;cases hk2
  ·rw[hk] at hk2;cases hk2
 ·exact #[c,QX B I hx hc,kc x c hc _ z]
theorem Vx (I:Inv X pins σ Z.H Z.s) (h:b∈Mr X.stack):@LT.lt Nat instLTNat b Z.s.6:=by
 obtain _|o|ho|_:=I.stack.mem h;exact Heap.lt_size ho
theorem QV {D:Addr} (I:Inv X pins σ Z.H Z.s) (hc:X.calm=true) (B:Bk X.env scope own capN) (hcap:Ao X capN cap) (hC:Z.s.6<=Z.C)
  (hcl:CellsOk h1 (Z.C+1) (cellsFrom (Z.C+1) scope.names [])) (hf:∀b∈Z.fp,lZ X pins Z.H b/\@LT.lt Nat instLTNat b Z.s.6)
  (hk:∀b o,Z.s.heap.get? b=some o->h1.get? b=some o) (hn:h1.Ns Z.C λ_=>none) (hD:Z.s.6<=D) (hDC:D≠Z.C) (hoD:h1.get? D=some oD) (hdD:∀v,oD.data≠.cell v) :
  Inv (Aw X own capN scope Z) [(D,oD)] (Mn own.9 cap σ) Z.H { Z.s with heap:=h1,toks:=t1 }:=by
 refine #[T7 I hc B hC hcl hf,rfl,I.bare,Un.kept hk,#[_,hn,λi x v e1 e2 _=>HU I B hcap (λx c _ v z=>z.keeps hk) e1 e2],λx c h=>?_,I.hok.fresh hC,λx c h=>?_,λp hp=>?_,I.hok.kept hk,?_]
 ·rcases ko B I h with ⟨_,m⟩ | ⟨_,_,m⟩
  ·exact #[none,(hcl.empty _ _ m).1]
  ·obtain v|q:=I.cell x c m;exact #[v,q.keeps hk]
 ·rcases ko B I h with ⟨_,m⟩ | ⟨_,_,m⟩
  ·exact I.hok.fresh (by have:=(hcl.empty _ _ m).2;lia)
  ·exact I.freeC x c m
 ·have e:p=(D,oD):=by simpa [Aw] using hp
  subst e;exact #[hoD,I.hok.fresh hD,hDC,λz=>gQ _ (bx (Vx I z) hD),hdD]
 ·show (Mn own.9 cap σ).9=(own++capN).9
  have:=congrArg List.length hcap;simp only[af] at this;unfold Mn;simp [this]
theorem OJ {σ':St} (I:Inv X pins σ Z.H Z.s) (B:Bk X.env scope own capN) (hcap:Ao X capN cap) (hf:∀b∈Z.fp,lZ X pins Z.H b/\@LT.lt Nat instLTNat b Z.s.6)
  (J:Inv (Aw X own capN scope Z) pins' σ' H' s'):Inv (Aw X own capN scope Z) pins' (Mn own.9 cap σ) H' s':=by
 refine #[J.ok,J.os,J.bare,J.base,?_,J.cell,J.free,J.freeC,J.pin,J.hok,?_]
 ·obtain m|hn|_:=J.loc;refine #[m,hn,λi x v e1 e2 _=>HU I B hcap (λx c hx v z=>?_) e1 e2];obtain o|ho|hd:=z;obtain sl|e:=J.base.any ho (I.freeC x c hx) λz=>(hf c z).1.2.2.2.2.1 x c hx rfl
  exact #[_,e,hd]
 ·show (Mn own.9 cap σ).9=(own++capN).9
  have:=congrArg List.length hcap;simp only[af] at this;unfold Mn;simp [this]
theorem QW {σ':St} {D:Addr} (I:Inv X pins σ Z.H Z.s) (hf:∀b∈Z.fp,lZ X pins Z.H b/\@LT.lt Nat instLTNat b Z.s.6) (hD:Z.s.6<=D)
  (J:Inv (Aw X own capN scope Z) [(D,{ cls:=.type "list",data:=.seq its.toArray n })] σ' H' s') (r:di ys its) (hz:ys.9<=sizeLine) :
  Inv X pins σ (upd H' D (.lst ys)) s':=by
 have pD:=J.pin (D,{ cls:=.type "list",data:=.seq its.toArray n }) (by simp);have ne:∀{b:Addr} {o:Obj},Z.s.heap.get? b=some o->b≠D:=λe z=>by subst z;exact gQ _ (bx (Heap.lt_size e) hD)
 have nt:∀{b:Addr} {u:HO},H' b=some u->b≠D:=λe z=>by rw[z,pD.2.1] at e;cases e
 refine I.call' (ch:=Z.fp) J.os #[J.base.keep,J.base.slot,λb o e h hx=>?_,J.base.there,λb xs e=>?_,λb o u e=>?_,λb ps e=>?_] (λb u e=>?_) J.bare λb hb=>?_
 ·rw[a7 (ne e)];exact J.base.free b o e h hx
 ·have q:=J.base.tups b xs e;rw[a7 (nt q)];exact q
 ·have q:=J.base.frzs b o u e;rw[a7 (nt q)];exact q
 ·obtain more|q:=J.base.tbls b ps e;exact #[more,by rw[a7 (nt q)];exact q]
 ·by_cases hb:b=D
  ·subst hb;rw[aK] at e;cases e;exact #[hz,its,n,r,pD.1]
  ·rw[a7 hb] at e;exact (J.hok b u e).stay (λc v _ q=>q) (λc q=>by rw[a7 (nt q)];exact q) λc xs q=>by rw[a7 (nt q)];exact q
 ·obtain _|f1|_|f3|f4|f5:=(hf b hb).1;exact #[f3,f1,f4,f5]
end
theorem Sx {t:Sem α} {Q Q':α->Shared->Prop} (h:wpAny M A t Q (λ_ _=>False) s) (hQ:∀a s,Q a s->Q' a s):wpAny M A t Q' E s :=
 wpAny_mono h hQ λ_ _ z=>False.elim z
theorem FG (I:Nat->Shared->Prop)
  (turn:∀(E:Value->Shared->Prop) n s,I n s->wpAny (model prog w) A (pyNext it) (λr s₁=>match r with
   | none=>R (.ok .next) s₁
   | some v=>wpAny (model prog w) A (letOwnedTupleGo target it v) (λ_ s₂=>wpAny (model prog w) A (assign target env v) (λ_ s₃ =>
     wpAny (model prog w) A (forIn ifs true λc r=>if r=true then do let ok <- isTrue c env (eval c env);pure (ForInStep.yield ok) else pure (ForInStep.yield r)) (λok s₄ =>
      if ok=true then wpAny (model prog w) A (eval elt env) (λx s₅=>wpAny (model prog w) A (call (.builtin "list.append") [acc,x]) (λ_ s₆=>∃m,m < n/\I m s₆) E s₅) E s₄
      else ∃m,m < n/\I m s₄) E s₃) E s₂) E s₁) E s)
  (n:Nat) (h:I n s):codeAny (model prog w) A (.compLoop (.ListComp elt [#[target,iter,ifs,0]] scope pos) 0 it acc env) R s:=by
 refine codeAny_loop rfl I (λn s hI=>?_) n h;show wpAny _ A ((compTurn (.ListComp elt [#[target,iter,ifs,0]] scope pos) 0 it acc env).onRaise (λx=>do noteFrame x env;theTreesLotGoes x)) _ _ s
 refine wpAny_noted ?_;rw[compTurn_list];refine wpAny_bind (wpAny_standAt (wpAny_bind (wpAny_mono (turn _ n s hI) (λr s₁ h₁=>?_) λ_ _ h'=>h')));cases r with
 | none=>exact wpAny_pure h₁
 | some v =>
  refine wpAny_bind (wpAny_mono h₁ (λ_ s₂ h₂=>wpAny_bind (wpAny_mono h₂ (λ_ s₃ h₃=>wpAny_bind (wpAny_mono h₃ (λok s₄ h₄=>?_) λ_ _ h'=>h')) λ_ _ h'=>h')) λ_ _ h'=>h');cases ok with
  | false=>exact wpAny_pure #[rfl,h₄]
  | true =>
   exact wpAny_bind (wpAny_bind (wpAny_mono h₄ (λx s₅ h₅=>wpAny_bind (wpAny_mono h₅ (λ_ s₆ h₆=>wpAny_pure (wpAny_pure #[rfl,h₆])) λ_ _ h'=>h')) λ_ _ h'=>h'))
def PF (X:Cx) (ifs:List Expr) (t:TT):Prop :=
 ∀(pins:List (Addr×Obj)) (s:Shared) (σ:St) (H:Hp) (Q:Bool->Hp->Prop),Inv X pins σ H s->t σ H Q →
  wpAny (model X.prog X.w) X.A (forIn ifs true λc r=>if r=true then do let ok <- isTrue c X.env (eval c X.env);pure (ForInStep.yield ok) else pure (ForInStep.yield r)) (TP X pins σ Q) X.xe s
def UI:TT:=λ_ H Q=>Q true H
theorem cb:PF X [] UI:=λ_ _ _ H _ I h=>wpAny_tests_nil #[H,I,h]
def nI (σ₀:St) (g:TG) (tf:TT) (te:TE) (x:V) (H:Hp) (NY:V->Hp->Prop) (NN:Hp->Prop):Prop :=
 g x σ₀ H λσ2 H2=>tf σ2 H2 λb H3=>if b=true then te σ2 H3 NY else NN H3
def oA (J:It) (σ₀:St) (g:TG) (tf:TT) (te:TE) (Q:VK) (H1:Hp):Prop :=
 ∃W:Nat->Nat->List V->Hp->Prop,(∃m,W 0 m [] H1)/\∀i m ys H,W i m ys H →
  (J.stop i H/\ys.9<=sizeLine/\∀p,H p=none->Q (.ref p) (upd H p (.lst ys))) \/
  (J.go i H/\ys.9 < sizeLine/\∃(NY:V->Hp->Prop) (NN:Hp->Prop),(∀y H',NY y H'->∃m',m' < m/\W (i+1) m' (ys++[y]) H')/\(∀H',NN H'->∃m',m' < m/\W (i+1) m' ys H') /\
   ∀x H',J.yld i H x H'->nI σ₀ g tf te x H' NY NN)
def F9 (wi:TI) (k:Nat) (cap:List Nat) (g:TG) (tf:TT) (te:TE):TE:=λσ H Q=>wi σ H λJ H1=>oA J (Mn k cap σ) g tf te Q H1
abbrev lobj (its:List Value) (n:Nat):Obj:={ cls:=.type "list",data:=.seq its.toArray n }
section
variable {X:Cx} {own capN:List Str} {cap:List Nat} {scope:Scope} {elt tg iter:Expr} {ifs:List Expr} {pos:Pos} {wi:TI} {g:TG} {tf:TT} {te:TE}
theorem D6 (hc:X.calm=true) (B:Bk X.env scope own capN) (hcap:Ao X capN cap)
  (hi:PI X tg iter wi) (hg:∀Z,PG (Aw X own capN scope Z) tg g) (hf:∀Z,PF (Aw X own capN scope Z) ifs tf) (he:∀Z,PE (Aw X own capN scope Z) elt te)
  (hs:∀x,foldedSetIterable iter X.env x=pure x) {σ:St} (I:Inv X pins σ H s) (h:F9 wi own.9 cap g tf te σ H Q)
  (fin:∀(D C:Addr) (s':Shared) (H':Hp),Inv X pins σ H' s'->lZ X pins H' C->(∃m,s'.heap.Ns C m)->Q (.ref D) H'->compPost (model X.prog X.w) X.A X.xe use Qe (.ref D) C (.ok .next) s') :
  wpAny (model X.prog X.w) X.A (comprehension (.ListComp elt [#[tg,iter,ifs,0]] scope pos) scope X.env fpos (newList []) false (eval iter X.env) use) Qe X.xe s:=by
 refine wpAny_comprehension_free (use:=use) rfl hs (Cv λy hy hk=>I.ok.has y.1 (B.caps _ (B.frees y hy hk).1)) B.kind B.locs ?_;refine iX (hi pins s σ H _ I h) λv s1 h1=>iX h1 λitv s2 h2=>?_
 obtain it|fp|tn|J|H2|e|I2|T|st2|f2|W|⟨m0,w0⟩|turn:=h2;subst e;have hfp:∀b∈fp,lZ X pins H2 b/\@LT.lt Nat instLTNat b s2.6:=λb hb=>#[f2 b hb,let ⟨_,e,_⟩:=T.obj _ _ st2 b hb;Heap.lt_size e]
 refine wpAny_newObj_type (Hr ?_) (bW _);have es:(s2.heap.push { cls:=.type "list",data:=.seq ([]:List Value).5 }).objs.size=s2.6+1:=Heap.size_push ..
 show codeAny _ _ (.compStart _ 0 (.ref it) (.ref s2.6) { newEnv scope (s2.heap.push { cls:=.type "list",data:=.seq ([]:List Value).5 }).objs.size X.env.globals (cellsFrom ((s2.heap.push { cls:=.type "list",data:=.seq ([]:List Value).5 }).objs.size+1) scope.names (fF X.env scope.names [])) X.env.qual none .none (some X.env) builtinsNs with scope:=relabel scope X.env })
  (compPost (model X.prog X.w) X.A X.xe use Qe (.ref s2.6) (s2.heap.push { cls:=.type "list",data:=.seq ([]:List Value).5 }).objs.size)
  { s2 with heap:=pushCells ((s2.heap.push { cls:=.type "list",data:=.seq ([]:List Value).5 }).push { cls:=.type "dict",data:=.dict [].toArray }) scope.names }
 have hk1:∀b o,(s2.heap.push { cls:=.type "list",data:=.seq ([]:List Value).5 }).get? b=some o->(pushCells ((s2.heap.push { cls:=.type "list",data:=.seq ([]:List Value).5 }).push { cls:=.type "dict",data:=.dict [].toArray }) scope.names).get? b=some o :=
  λb o e=>pushCells_keeps _ _ _ _ (Heap.get?_push_of_some _ e)
 have hk:∀b o,s2.heap.get? b=some o->(pushCells ((s2.heap.push { cls:=.type "list",data:=.seq ([]:List Value).5 }).push { cls:=.type "dict",data:=.dict [].toArray }) scope.names).get? b=some o:=λb o e=>hk1 b o (Heap.get?_push_of_some _ e)
 have hoD:=hk1 s2.heap.objs.size _ (Heap.get?_push_size s2.heap (o:={ cls:=.type "list",data:=.seq ([]:List Value).5 }) rfl);have hn:=(Heap.Ns.new (s2.heap.push { cls:=.type "list",data:=.seq ([]:List Value).5 }) (.type "dict")).keeps (pushCells_keeps scope.names _);have hcl:=LD ((s2.heap.push { cls:=.type "list",data:=.seq ([]:List Value).5 }).push { cls:=.type "dict",data:=.dict [].toArray }) (s2.6+1) (by rw[Heap.size_push,es]) scope.names;rw[es] at hn ⊢;generalize pushCells ((s2.heap.push { cls:=.type "list",data:=.seq ([]:List Value).5 }).push { cls:=.type "dict",data:=.dict [].toArray }) scope.names=h3 at hk hoD hn hcl ⊢;have Z:Bz:=#[s2,H2,fp,s2.6+1]
 have I3:Inv (Aw X own capN scope #[s2,H2,fp,s2.6+1]) [(s2.6,lobj [] 0)] (Mn own.9 cap σ) H2 { s2 with heap:=h3 } :=
  QV (Z:=#[s2,H2,fp,s2.6+1]) (t1:=s2.toks) I2 hc B hcap (Eo _) hcl hfp hk hn (ar _) (cT (iG _)) hoD (λv z=>nomatch z)
 have st3:tn 0 h3:=T.keep _ _ _ st2 λb _ o e=>hk b o e
 have loop:codeAny (model X.prog X.w) X.A (.compLoop (.ListComp elt [#[tg,iter,ifs,0]] scope pos) 0 (.ref it) (.ref s2.6) (y8 X.env scope (s2.6+1))) (compPost (model X.prog X.w) X.A X.xe use Qe (.ref s2.6) (s2.6+1)) { s2 with heap:=h3 }:=by
  refine FG (λm s'=>∃i ys σ' H' its n,Inv (Aw X own capN scope #[s2,H2,fp,s2.6+1]) [(s2.6,lobj its n)] σ' H' s'/\tn i s'.8/\(∀b∈fp,H' b=none)/\di ys its/\W i m ys H') ?_ m0
   #[0,[],_,H2,[],0,I3,st3,λb hb=>(f2 b hb).1,.nil,w0]
  rintro E n s4 ⟨i,ys,σ4,H4,its,k,I4,st4,fr4,rv,w4⟩
  have fpo:∀{pp:List (Addr×Obj)} {H':Hp},(∀p∈pp,p.1=s2.6)->(∀b∈fp,H' b=none)->∀b∈fp,lZ (Aw X own capN scope #[s2,H2,fp,s2.6+1]) pp H' b:=λ{pp H'} hpp hn b hb=>by
   obtain e1|e2:=I4.ok.exf b hb;refine #[hn b hb,e1,I4.ok.exfs b hb,.inl hb,e2,λp hp=>?_];have hp':p∈pp:=by simpa [Aw] using hp
   have l:=(hfp b hb).2;rw[hpp p hp'];exact λz=>gQ _ (by rw[<- z] at l;exact l)
  have pinD:∀{its:List Value} {n:Nat},∀p∈[(s2.6,lobj its n)],p.1=s2.6:=λp hp=>by simp at hp;rw[hp]
  rcases turn i n ys H4 w4 with ⟨stop,hz,q⟩ | ⟨go,hlt,NY,NN,hNY,hNN,step⟩
  ·refine iX (T.done (Aw X own capN scope #[s2,H2,fp,s2.6+1]) rfl rfl rfl rfl i _ s4 σ4 H4 E I4 (fpo pinD fr4) st4 stop) λr s5 #[hr,I5]=>?_
   subst hr;have pD:=I5.pin (s2.6,lobj its k) (by simp);have I6:=QW (Z:=#[s2,H2,fp,s2.6+1]) I2 hfp (ar _) I5 rv hz
   have hC:upd H4 s2.heap.objs.size (.lst ys) (s2.6+1)=none:=by
    rw[a7 (K0 (iG _))];exact I5.free
   obtain m|hm|_:=I5.loc;exact fin _ _ s5 _ I6 (I2.fpOk (Eo _) hC) #[m,hm] (q _ pD.2.1)
  ·refine iX (T.item (Aw X own capN scope #[s2,H2,fp,s2.6+1]) rfl rfl rfl rfl i _ s4 σ4 H4 E I4 (fpo pinD fr4) st4 go) λr s5 #[u,hr,h5]=>?_
   subst hr;refine iX h5 λ_ s6 #[x,H6,I6,r6,y6,st6,fr6]=>?_
   have I6':=(OJ (Z:=#[s2,H2,fp,s2.6+1]) I2 B hcap hfp I6).pinned (fpo pinD fr6) (T.obj _ _ st6)
   have back:∀{σ7:St} {H7:Hp} {s7:Shared},Inv (Aw X own capN scope #[s2,H2,fp,s2.6+1]) ([(s2.6,lobj its k)]++BB fp s6.8) σ7 H7 s7 →
     Inv (Aw X own capN scope #[s2,H2,fp,s2.6+1]) [(s2.6,lobj its k)] σ7 H7 s7/\tn (i+1) s7.8/\∀b∈fp,H7 b=none:=λ{σ7 H7 s7} I7=>by
    refine #[I7.unpinned,T.keep _ _ _ st6 λb hb o e=>(I7.pin (b,o) (bU _ (bU _ (sO hb e)))).1,λb hb=>?_];obtain o|e|d:=T.obj _ _ st6 b hb;exact (I7.pin (b,o) (bU _ (bU _ (sO hb e)))).2.1
   refine Sx (hg _ _ s6 _ H6 x u _ I6' r6 (step x H6 y6)) λ_ s7 #[σ7,H7,I7,q7]=>?_
   refine Sx (hf _ _ s7 σ7 H7 _ I7 q7) λok s8 #[H8,I8,q8]=>?_
   cases ok with
   | false =>
    rw[if_neg bF] at q8 ⊢;obtain m'|hm|w8:=hNN H8 q8;obtain J1|J2|J3:=back I8;exact #[m',hm,i+1,ys,σ7,H8,its,k,J1,J2,J3,rv,w8]
   | true =>
    rw[if_pos rfl] at q8 ⊢;refine Sx (he _ _ s8 σ7 H8 _ I8 q8) λz s9 #[y,H9,I9,r9,q9]=>?_
    obtain J1|J2|J3:=back I9;obtain m'|hm|w9:=hNY y H9 q9;have pD:=J1.pin (s2.6,lobj its k) (by simp);have hl:=rv.9;refine call_meets F.slot_list_append #[_,pD.1,rfl] F.entry_list_append (F.args_list_append_2 _ _) (PySem.list_append s2.heap.objs.size its.toArray k z (by rw[aW];lia)) #[pD.1,?_];have e9:=mD pD.1 (λa=>a.push z);have e9':(its.toArray.push z)=(its++[z]).5:=by simp
    rw[e9'] at e9;obtain ⟨n',e9⟩:∃n',(s9.heap.update s2.heap.objs.size (Obj.mapSeq λa=>a.push z)).get? s2.6=some (lobj (its++[z]) n'):=#[_,e9]
    have J4:Inv (Aw X own capN scope #[s2,H2,fp,s2.6+1]) [] σ7 H9 { s9 with heap:=s9.heap.update s2.heap.objs.size (Obj.mapSeq λa=>a.push z),toks:=s9.toks } :=
     (J1.pins_of (pins':=[]) λp hp=>nomatch hp).turned (λb o hb e=>(Heap.get?_update_other s9.heap _ (Ne.symm hb)).trans e) pD.2.1 pD.2.2.1 (.inr (ar _)) (λx c hx z=>by
      rcases ko (Z:=⟨s2,H2,fp,s2.6+1⟩) B I2 hx with ⟨_,m⟩ | ⟨_,_,m⟩
      ·have:=(hcl.empty _ _ m).2;have z':@Eq Nat c s2.6:=z
       lia
      ·have:=FJ (Z:=#[s2,H2,fp,s2.6+1]) I2 m;rw[z] at this;exact gQ _ this) λp hp=>by simp [Aw] at hp
    have nfp:∀b∈fp,b≠s2.6:=λb hb z=>by have:=(hfp b hb).2;rw[z] at this;exact gQ _ this
    refine #[m',hm,i+1,ys++[y],σ7,H9,its++[z],n',J4.pins_of λp hp=>?_,T.keep _ _ _ J2 λb hb o e=>(Heap.get?_update_other s9.heap _ (Ne.symm (nfp b hb))).trans e,J3,rv.append (.cons r9 .nil),w9];have ep:p=(s2.6,lobj (its++[z]) n'):=by simpa using hp
    rw[ep];exact #[e9,pD.2.1,pD.2.2.1,pD.2.2.2.1,λv z=>nomatch z]
 exact codeAny_compStart_list loop (T.self _ _ _ _ _ st3 loop)
theorem b8 (own capN:List Str) (cap:List Nat) (hi:PI X tg iter wi) (hg:∀Z,PG (Aw X own capN scope Z) tg g) (hf:∀Z,PF (Aw X own capN scope Z) ifs tf) (he:∀Z,PE (Aw X own capN scope Z) elt te)
  (h1:VV scope own capN=true:=by decide +kernel) (h2:D8 X.env capN=true:=by rfl) (hcap:Ao X capN cap:=by rfl) (hc:X.calm=true:=by rfl) (hs:∀x,foldedSetIterable iter X.env x=pure x:=by intro _;rfl) :
  PE X (.ListComp elt [#[tg,iter,ifs,0]] scope pos) (F9 wi own.9 cap g tf te):=by
 intro pins s σ H Q I h;rw[eval_ListComp];refine D6 (use:=none) hc (Bk.of h1 h2) hcap hi hg hf he hs I h λD C s' H' I' fC hm q=>?_
 obtain m|hm:=hm;refine #[m,hm,λh' hs'=>?_];obtain f0|f1|f2|f3|f4|f5:=fC;exact #[.ref D,H',I'.turned (t':=s'.toks) (λb o hb e=>(hs'.2 b hb).trans e) f0 f1 f3 f4 f5,rfl,q]
theorem l7 (i:Nat) (own capN:List Str) (cap:List Nat) {x:Str} {pos' spos:Pos} (hN:X.N.Nodup) (hi':X.N[i]?=some x) (hx:X.env.scope.names.lookup x=some .local) (hi:PI X tg iter wi) (hg:∀Z,PG (Aw X own capN scope Z) tg g) (hf:∀Z,PF (Aw X own capN scope Z) ifs tf) (he:∀Z,PE (Aw X own capN scope Z) elt te)
  (h1:VV scope own capN=true:=by decide +kernel) (h2:D8 X.env capN=true:=by rfl) (hcap:Ao X capN cap:=by rfl) (hc:X.calm=true:=by rfl) (hs:∀x,foldedSetIterable iter X.env x=pure x:=by intro _;rfl)
  (hsw:swapsWith (.ListComp elt [#[tg,iter,ifs,0]] scope pos) (some (.Name x pos')) spos.line X.env=pure true:=by rfl) :
  PS X (.Assign [.Name x pos'] (.ListComp elt [#[tg,iter,ifs,0]] scope pos) spos) (Pk (F9 wi own.9 cap g tf te) (Ky i)):=by
 intro pins s σ H D I h;rw[exec_Assign_Name_used _ _ _ _ hsw];refine wpAny_bind (wpAny_standAt (wpAny_bind ?_));rw[arm_evalThenUse_ListComp];refine wpAny_bind (D6 (Q:=λv H1=>D.nx (σ.set i (some v)) H1) (use:=some _) hc (Bk.of h1 h2) hcap hi hg hf he hs I h λL C s' H' I' fC hm q=>?_);obtain m|hm:=hm;obtain f0|f1|f2|f3|f4|f5:=fC;refine wpAny_assign_Name (DF I' hN hi' (.inl hx) (v:=.ref L) rfl (λs'' I'' #[a,sb,ha]=>?_) (.inr hx))
 have hCa:C≠a:=by
  rcases ha with e | e
  ·rw[e];exact f1
  ·exact (f4 x a e).symm
 refine #[m,hm.at' λo e=>(sb.2 C hCa).trans e,λh' hs'=>?_];have I3:=I''.turned (h':=h') (t':=s''.toks) (λb o hb e=>(hs'.2 b hb).trans e) f0 f1 f3 f4 f5;exact wpAny_pure (wpAny_pure #[_,H',I3,q])
end
section
variable {K:FG9} {a:Addr} {xs:List V} {g:TG} {tf:TT} {te:TE} {Q:VK} {σ₀:St} {H:Hp}
theorem eS (Pv:Nat->List V->Hp->Prop) (hz:xs.9<=sizeLine) (h0:Pv 0 [] H) (hl:∀i ys H,i<=xs.9->Pv i ys H->bJ K H a xs)
  (hs:∀i x ys H,xs[i]?=some x->ys.9<=i->Pv i ys H->nI σ₀ g tf te x H (λy H'=>Pv (i+1) (ys++[y]) H') (λH'=>Pv (i+1) ys H'))
  (hd:∀ys H,ys.9<=xs.9->Pv xs.9 ys H->∀p,H p=none->Q (.ref p) (upd H p (.lst ys))):oA (OQ K a) σ₀ g tf te Q H:=by
 refine #[λi m ys H=>m=xs.9 - i/\i<=xs.9/\ys.9<=i/\Pv i ys H,#[xs.9,by simp,bW _,bW _,h0],?_];rintro i m ys H ⟨rfl,hi,hy,p⟩;have q:=hl i ys H hi p;by_cases hlt:i < xs.9
 ·refine .inr #[#[xs,xs[i],q,by simp [hlt]],(),λy H'=>Pv (i+1) (ys++[y]) H',λH'=>Pv (i+1) ys H',λy H' p'=>#[xs.9 - (i+1),(),rfl,hlt,by rw[aB,eJ];lia,p'],λH' p'=>#[xs.9 - (i+1),(),rfl,hlt,(),p'],λx H' y=>?_];obtain e|y:=y;subst e;exact hs i x ys _ (y xs q) hy p
 ·have e:i=xs.9:=()
  subst e;exact .inl #[#[xs,q,ar _],(),hd ys H hy p]
theorem OF (Pv:Nat->List V->Hp->Prop) (hz:xs.9<=sizeLine) (h0:Pv 0 [] H) (hl:∀i ys H,i<=xs.9->Pv i ys H->nG K H a xs)
  (hs:∀i x ys H,xs[i]?=some x->ys.9<=i->Pv i ys H->nI σ₀ g tf te x H (λy H'=>Pv (i+1) (ys++[y]) H') (λH'=>Pv (i+1) ys H'))
  (hd:∀ys H,ys.9<=xs.9->Pv xs.9 ys H->∀p,H p=none->Q (.ref p) (upd H p (.lst ys))):oA (Si K a) σ₀ g tf te Q H:=by
 refine #[λi m ys H=>m=xs.9 - i/\i<=xs.9/\ys.9<=i/\Pv i ys H,#[xs.9,by simp,bW _,bW _,h0],?_];rintro i m ys H ⟨rfl,hi,hy,p⟩;have q:=hl i ys H hi p;by_cases hlt:i < xs.9
 ·refine .inr #[#[xs,xs[i],q,by simp [hlt]],(),λy H'=>Pv (i+1) (ys++[y]) H',λH'=>Pv (i+1) ys H',λy H' p'=>#[xs.9 - (i+1),(),rfl,hlt,by rw[aB,eJ];lia,p'],λH' p'=>#[xs.9 - (i+1),(),rfl,hlt,(),p'],λx H' y=>?_];obtain e|y:=y;subst e;exact hs i x ys _ (y xs q) hy p
 ·have e:i=xs.9:=()
  subst e;exact .inl #[#[xs,q,ar _],(),hd ys H hy p]
theorem wV {lo:Int} (Pv:Nat->List V->Hp->Prop) (hz:n<=sizeLine) (h0:Pv 0 [] H)
  (hs:∀i ys H,i < n->ys.9<=i->Pv i ys H->nI σ₀ g tf te (.int (lo+i)) H (λy H'=>Pv (i+1) (ys++[y]) H') (λH'=>Pv (i+1) ys H'))
  (hd:∀ys H,ys.9<=n->Pv n ys H->∀p,H p=none->Q (.ref p) (upd H p (.lst ys))):oA (KZ lo n) σ₀ g tf te Q H:=by
 refine #[λi m ys H=>m=n - i/\i<=n/\ys.9<=i/\Pv i ys H,#[n,by simp,bW _,bW _,h0],?_];rintro i m ys H ⟨rfl,hi,hy,p⟩;by_cases hlt:i < n
 ·refine .inr #[hlt,(),λy H'=>Pv (i+1) (ys++[y]) H',λH'=>Pv (i+1) ys H',λy H' p'=>#[n - (i+1),(),rfl,hlt,by rw[aB,eJ];lia,p'],λH' p'=>#[n - (i+1),(),rfl,hlt,(),p'],λx H' y=>?_];obtain e|y:=y;subst e y;exact hs i ys _ hlt hy p
 ·have e:i=n:=()
  subst e;exact .inl #[ar _,(),hd ys H hy p]
end
open Nm
def fO (i j:Int):Prop:=Um i j\/∃m n,Sz m i/\Sz n j/\m+n<=100000000
def oB (i j:Int):Prop:=j≠0/\Sz 8999000 j
theorem CB (h:Sz k i):Builtin.Int.intBits i<=k:=by
 unfold Builtin.Int.intBits;by_cases e:i=0
 ·subst e;simp
 ·have e':(i == 0)=false:=by simpa using e
  rw[e'];have hn:i.natAbs≠0:=()
  have:=(Nat.log2_lt hn).mpr h;simp only[jR,if_false]
  lia
theorem fO.ok (h:fO i j):IntMulOk i j:=by
 rcases h with h | ⟨m,n,h1,h2,h3⟩
 ·exact h.ok
 ·exact .of_le (CB h1) (CB h2) (aj h3 ())
section
variable {X:Cx} {a b:Expr} {ta tb:TE} {pos:Pos}
theorem cH:C7 X (binaryOp .Mult) (rI fO λi j=>.int (i*j)):=Wa λ_ _ _ _ _ _ _ hc q=>mul_int q hc.ok
theorem hJ (hs:X.stack=env :: l) (S:ba N ps sc) (he:env.scope=sc) (hb:env.builtins=builtinsNs) (hg:env.globals=mainGlobals) (ht:X.prog.given.tree=none) (hd:X.A.depth+Builtin.pylongFrames < recursionLimit):C7 X (binaryOp .FloorDiv) (rI oB λi j=>.int (i.fdiv j)):=by
 intro pins s σ H x y v u Q I rx ry h;obtain i|j|rfl|rfl|hc|q:=h;obtain t|rfl:=rx;obtain t'|rfl:=ry;refine floordiv_int hc.1 #[.int _,H,I.tok _,#[_,rfl],q] (.inr (PySem.PylongRoom.of I.nolimit hd (PySem.SeerAt.of (I.ok.mod.seer.keeps I.bk) ht (env:=env) (l:=l) (by rw[I.ok.frames,hs]) (by rw[he];exact S.gen) (by rw[he];exact S.co) hb hg)))
theorem oU (hr:mO k A):A.depth+Builtin.pylongFrames < recursionLimit:=by have:=hr.dp;show A.depth+100 < _;lia
def UK (t u:TS):TS:=λD σ H=>∃N:St->Hp->Prop,t { D with nx:=N } σ H/\∀σ' H',N σ' H'->u D σ' H'
theorem ka {st:Stmt} (h1:PS X st t) (h2:JG X rest u):JG X (st :: rest) (UK t u):=by
 intro pins s σ H D I h;obtain N|h|k:=h;refine wpAny_execs_cons (iX (h1 pins s σ H { D with nx:=N } I h) λf s1 q=>?_);cases f with
 | next =>
  obtain σ'|H'|I'|q:=q;exact h2 pins s1 σ' H' D I' (k _ _ q)
 | ret v=>exact q
 | brk=>exact q
 | cont=>exact q
def RA (K:FG9):V->V->Hp->VK->Prop:=λo i H Q=>∃p xs k v,o=.ref p/\i=.int k/\bJ K H p xs/\JB xs k=some v/\Q v H
theorem Oi:VL X (RA X.K):=by
 intro pins s σ H o i ov iv Q I ro ri h;obtain p|xs|k|z|rfl|rfl|hq|he|q:=h;cases ro;obtain t|rfl:=ri;obtain its|r|pl|hz:=I.list hq;obtain j|h1|h2|h3|h4|h5:=FO he;obtain w|ew|rw':=r.get h2;have hl:=r.9;have hn:=BX;have fin:EP X pins σ Q w s:=#[z,H,I,rw',q];by_cases h0:0<=k
 ·have hj:k.toNat=j:=by
   rw[seqIndex_of h0 h5] at h1;exact cm h1
  exact wpAny_getItem_list pl.isList h0 () (by rw[hj];simpa using ew) fin
 ·have hj:(k+(its.5.7:Int)).toNat=j:=by
   rw[seqIndex_neg () h4] at h1;rw[aW,<- hl];exact cm h1
  exact wpAny_getItem_list_neg pl.isList () (by rw[aW] <;> lia) () (by rw[hj];simpa using ew) fin
def Ly (K:FG9) (T:String):V->Hp->VK->Prop:=λx H Q=>∃t b,zb K H x t/\PySem.W.kitOne K t (.type T)=some b/\Q (.bl b) H
theorem yL {c:Str} {T:String} {p p2:Pos} (hg:Gl X "isinstance") (hm:X.mg "isinstance"=none) (hb:bootBuiltins c=some (.type T)) (hmc:X.mg c=none) (ha:PE X a ta) (hgc:Gl X c:=by rfl) (hn:c≠"__name__":=by decide)
  (hd:(c == ("__debug__":Str))=false:=by decide) (he:starEach [a,.Name c p2] X.env=[(false,eval a X.env),(false,eval (.Name c p2) X.env)]:=by rfl)
  (hpl:(backTo pos (starEach [.Name c p2] X.env)).any (·.1)=false:=by rfl) (he2:starEach [.Name c p2] X.env=[(false,eval (.Name c p2) X.env)]:=by rfl):PE X (.Call (.Name "isinstance" p) [a,.Name c p2] [] pos) (VT (Ly X.K T) ta):=by
 intro pins s σ H Q I h;refine wpAny_Call_Name_kw (pZ I hg hm PyProof.Rows.boot_isinstance ?_);have hA:PA X [a,.Name c p2] (tT ta (tT (tC (.ty T)) Le)):=aa ha (aa (Kj hgc hmc hb rfl hn hd) ag he2) (by rw[he,he2])
 have hq:tT ta (tT (tC (.ty T)) Le) σ H (λvs H1=>∃x,vs=[x,.ty T]/\Ly X.K T x H1 Q):=by
  show ta σ H λx H1=>∃x',[x,V.ty T]=[x',V.ty T]/\Ly X.K T x' H1 Q
  have e:(λx H1=>∃x',[x,V.ty T]=[x',V.ty T]/\Ly X.K T x' H1 Q)=λx H1=>Ly X.K T x H1 Q:=by
   funext x H1;apply propext;constructor
   ·rintro ⟨x',e,q⟩;cases e;exact q
   ·intro q;exact #[x,rfl,q]
  rw[e];exact h
 refine PyProof.Rows.callWith_builtin1 (iX (hA pos pins s σ H _ I hq) λus s1 #[vs,H1,I1,r1,x,e,q1]=>?_) (by rw[he,he2]) hpl;subst e;obtain u|w'|rfl|ru|rt:=vals2 r1;cases rt;obtain t|bb|ty|ek|q:=q1;exact DU I1 ru ty ek λtk=>#[.bl bb,H1,I1.tok tk,rfl,q]
end
structure Kind (α:Type) [DecidableEq α] where
 R:FG9->Hp->V->α->Prop
 d:Nat
 inj:∀{X:Cx} {pins:List (Addr×Obj)} {σ:St} {H:Hp} {s:Shared} {x:V} {a b:α},Inv X pins σ H s->R X.K H x a->R X.K H x b->a=b
 rc:∀{X:Cx} {pins:List (Addr×Obj)} {σ:St} {H:Hp} {s:Shared} {x y:V} {v u:Value} {a b:α} {A:Around},Inv X pins σ H s->RelV x v->RelV y u->R X.K H x a->R X.K H y b->A.units+d < cLine->SeqAt.RcAt A s v u (decide (a=b))
 ne:∀{X:Cx} {pins:List (Addr×Obj)} {σ:St} {H:Hp} {s:Shared} {x y:V} {v u:Value} {a b:α} {A:Around},Inv X pins σ H s->RelV x v->RelV y u->R X.K H x a->R X.K H y b->A.units+d < cLine->SeqAt.RcNeAt A s v u (!decide (a=b))
 eq:∀{X:Cx} {pins:List (Addr×Obj)} {σ:St} {H:Hp} {s:Shared} {x y:V} {v u:Value} {a b:α} {A:Around},Inv X pins σ H s->RelV x v->RelV y u->R X.K H x a->R X.K H y b->A.units+d < cLine->SeqAt.EqAt A s v u (decide (a=b))
def We:Kind Int where
 R:=λ_ _ x i=>x=.int i
 d:=0
 inj:=λ_ h1 h2=>by rw[h1] at h2;cases h2;rfl
 rc:=λ{X pins σ H s x y v u a b A} I rx ry h1 h2 _=>by
  subst h1 h2;obtain t|rfl:=rx;obtain t'|rfl:=ry;have q:=SeqAt.RcAt.int_int (A:=A) (s:=s) a t b t';rwa [C8] at q
 ne:=λ{X pins σ H s x y v u a b A} I rx ry h1 h2 _=>by
  subst h1 h2;obtain t|rfl:=rx;obtain t'|rfl:=ry;have q:=SeqAt.RcNeAt.int_int (A:=A) (s:=s) a t b t';rwa [C8] at q
 eq:=λ{X pins σ H s x y v u a b A} I rx ry h1 h2 _=>by
  subst h1 h2;obtain t|rfl:=rx;obtain t'|rfl:=ry;have q:=SeqAt.EqAt.int_int (A:=A) (s:=s) a t b t';rwa [C8] at q
theorem lJ {α β:Type} {F:α->β->Prop}:∀{l1:List α} {l2:List β} {i:Nat} (_:Paired F l1 l2) (h1:i < l1.9) (h2:i < l2.9),F l1[i] l2[i]
 | _,_,_,.nil,h1,_=>absurd h1 (tM _)
 | _,_,0,.cons r _,_,_=>r
 | _,_,i+1,.cons _ t,h1,h2=>lJ (i:=i) t (Nat.lt_of_succ_lt_succ h1) (Nat.lt_of_succ_lt_succ h2)
theorem nU {α β:Type} {F:α->β->Prop} (hF:∀a b x,F a x->F b x->a=b):∀{l1 l2:List α} {l:List β},Paired F l1 l->Paired F l2 l->l1=l2
 | _,_,_,.nil,.nil=>rfl
 | _,_,_,.cons r t,.cons r' t'=>by rw[hF _ _ _ r r',nU hF t t']
theorem xP {α:Type} [DecidableEq α] (as bs:List α) (h:as.9=bs.9):(List.range as.9).all (λj=>decide (as[j]?=bs[j]?))=decide (as=bs):=by
 rw[tQ,Aq,decide_eq_true_iff];constructor
 ·intro q;apply ph;intro i;by_cases hi:i < as.9
  ·exact of_decide_eq_true (q i (gV.mpr hi))
  ·rw[bE (),bE ()]
 ·rintro rfl i _;simp
section
variable {α:Type} [DecidableEq α] (k:Kind α)
theorem Kind.items {X:Cx} {pins:List (Addr×Obj)} {σ:St} {H:Hp} {s:Shared} {A:Around} (I:Inv X pins σ H s) (hA:A.units+k.d < cLine) {xs ys:List V} {us ws:List Value} {as bs:List α}
  (rx:di xs us) (ry:di ys ws) (ha:Paired (λa x=>k.R X.K H x a) as xs) (hb:Paired (λa x=>k.R X.K H x a) bs ys) :
  ∀j (h1:j < us.5.7) (h2:j < ws.5.7),SeqAt.EqAt A s us.5[j] ws.5[j] (decide (as[j]?=bs[j]?)):=λj h1 h2=>by
 have l1:j < us.9:=by simpa using h1
 have l2:j < ws.9:=by simpa using h2
 have e1:=rx.9;have e2:=ry.9;have e3:=ha.9;have e4:=hb.9;obtain u|hu|ru:=rx.get (i:=j) (x:=xs[j]'()) (by simp);obtain w|hw|rw':=ry.get (i:=j) (x:=ys[j]'()) (by simp);have q:=k.eq (A:=A) I ru rw' (lJ ha () ()) (lJ hb () ()) hA
 have eu:us.5[j]=u:=by
  have:=hu;rw[ai l1] at this;simpa using this
 have ew:ws.5[j]=w:=by
  have:=hw;rw[ai l2] at this;simpa using this
 rw[eu,ew,ai (show j < as.9 by lia),ai (show j < bs.9 by lia)];have e5:decide (some as[j]=some bs[j])=decide (as[j]=bs[j]):=by simp
 rw[e5];exact q
theorem EA {α:Type} [DecidableEq α] (as bs:List α) {n m:Nat} (h1:as.9=n) (h2:bs.9=m):((List.range (min n m)).all (λj=>decide (as[j]?=bs[j]?)) && n == m)=decide (as=bs):=by
 subst h1 h2;by_cases e:as.9=bs.9
 ·rw[show min as.9 bs.9=as.9 by lia,xP as bs e];simp [e]
 ·have h1:(as.9 == bs.9)=false:=by simpa using e
  rw[h1,Bool.and_false];exact (decide_eq_false λz=>e (by rw[z])).symm
def Wd:Kind (List α) where
 R:=λK H x as=>∃p xs,x=.ref p/\nG K H p xs/\Paired (λa x=>k.R K H x a) as xs
 d:=k.d+1
 inj:=λ{X pins σ H s x a b} I h1 h2=>by
  obtain p|xs|rfl|hp|pa:=h1;obtain q|ys|e|hq|pb:=h2;cases e;have e:=I.tuple_inj hp hq;subst e;exact nU (F:=λa x=>k.R X.K H x a) (λa b x=>k.inj I) pa pb
 rc:=λ{X pins σ H s x y v u a b A} I rx ry h1 h2 hA=>by
  obtain p|xs|rfl|hp|pa:=h1;obtain q|ys|rfl|hq|pb:=h2;cases rx;cases ry;obtain us|r1|t1|_:=I.tuple hp;obtain ws|r2|t2|_:=I.tuple hq;have z:=SeqAt.RcAt.tuples (A:=A) (e:=λj=>decide (a[j]?=b[j]?)) (show s.heap.IsTuple p us.toArray from t1) (show s.heap.IsTuple q ws.toArray from t2) () (k.items (A:=A.in1) I (by show A.units+1+k.d < cLine;lia) r1 r2 pa pb);rwa [EA a b (by rw[pa.9,r1.9];simp) (by rw[pb.9,r2.9];simp)] at z
 ne:=λ{X pins σ H s x y v u a b A} I rx ry h1 h2 hA=>by
  obtain p|xs|rfl|hp|pa:=h1;obtain q|ys|rfl|hq|pb:=h2;cases rx;cases ry;obtain us|r1|t1|_:=I.tuple hp;obtain ws|r2|t2|_:=I.tuple hq;have z:=SeqAt.RcNeAt.tuples (A:=A) (e:=λj=>decide (a[j]?=b[j]?)) (show s.heap.IsTuple p us.toArray from t1) (show s.heap.IsTuple q ws.toArray from t2) () (k.items (A:=A.in1) I (by show A.units+1+k.d < cLine;lia) r1 r2 pa pb);rwa [EA a b (by rw[pa.9,r1.9];simp) (by rw[pb.9,r2.9];simp)] at z
 eq:=λ{X pins σ H s x y v u a b A} I rx ry h1 h2 hA=>by
  obtain p|xs|rfl|hp|pa:=h1;obtain q|ys|rfl|hq|pb:=h2;cases rx;cases ry;by_cases e:p=q
  ·subst e;have e:=I.tuple_inj hp hq;subst e;rw[nU (F:=λa x=>k.R X.K H x a) (λa b x=>k.inj I) pa pb,decide_eq_true rfl];exact SeqAt.EqAt.same _
  ·obtain us|r1|t1|_:=I.tuple hp;obtain ws|r2|t2|_:=I.tuple hq;have z:=SeqAt.RcAt.tuples (A:=A) (e:=λj=>decide (a[j]?=b[j]?)) (show s.heap.IsTuple p us.toArray from t1) (show s.heap.IsTuple q ws.toArray from t2) () (k.items (A:=A.in1) I (by show A.units+1+k.d < cLine;lia) r1 r2 pa pb);rw[EA a b (by rw[pa.9,r1.9];simp) (by rw[pb.9,r2.9];simp)] at z;exact .of_refs e z
theorem Jl {X:Cx} {pins:List (Addr×Obj)} {σ:St} {H:Hp} {s:Shared} {p q:Addr} {xs ys:List V} {a b:List α} {A:Around} (I:Inv X pins σ H s) (hp:bJ X.K H p xs) (hq:bJ X.K H q ys)
  (pa:Paired (λa x=>k.R X.K H x a) a xs) (pb:Paired (λa x=>k.R X.K H x a) b ys) (hA:A.units+(k.d+1) < cLine) :
  SeqAt.RcAt A s (.ref p) (.ref q) (decide (a=b))/\SeqAt.RcNeAt A s (.ref p) (.ref q) (!decide (a=b)):=by
 obtain us|r1|t1|_:=I.list hp;obtain ws|r2|t2|_:=I.list hq;have l1:=r1.9;have l2:=r2.9;have l3:=pa.9;have l4:=pb.9;by_cases e:us.9=ws.9
 ·have it:=k.items (A:=A.in1) I (by show A.units+1+k.d < cLine;lia) r1 r2 pa pb;have z:=SeqAt.RcAt.lists (A:=A) (e:=λj=>decide (a[j]?=b[j]?)) t1.isList t2.isList (by simpa using e) () it;have z2:=SeqAt.RcNeAt.lists (A:=A) (e:=λj=>decide (a[j]?=b[j]?)) t1.isList t2.isList (by simpa using e) () it;have e1:us.5.7=a.9:=by rw[aW];lia
  rw[e1,xP a b ()] at z z2;exact #[z,z2]
 ·have hne:¬a=b:=λz=>e (by have:=congrArg List.length z;lia)
  rw[decide_eq_false hne];exact #[SeqAt.RcAt.lists_lengths t1.isList t2.isList (by simpa using e) (),SeqAt.RcNeAt.lists_lengths t1.isList t2.isList (by simpa using e) ()]
def TB:Kind (List α) where
 R:=λK H x as=>∃p xs,x=.ref p/\bJ K H p xs/\Paired (λa x=>k.R K H x a) as xs
 d:=k.d+1
 inj:=λ{X pins σ H s x a b} I h1 h2=>by
  obtain p|xs|rfl|hp|pa:=h1;obtain q|ys|e|hq|pb:=h2;cases e;have e:=I.list_inj hp hq;subst e;exact nU (F:=λa x=>k.R X.K H x a) (λa b x=>k.inj I) pa pb
 rc:=λ{X pins σ H s x y v u a b A} I rx ry h1 h2 hA=>by
  obtain p|xs|rfl|hp|pa:=h1;obtain q|ys|rfl|hq|pb:=h2;cases rx;cases ry;exact (Jl k I hp hq pa pb hA).1
 ne:=λ{X pins σ H s x y v u a b A} I rx ry h1 h2 hA=>by
  obtain p|xs|rfl|hp|pa:=h1;obtain q|ys|rfl|hq|pb:=h2;cases rx;cases ry;exact (Jl k I hp hq pa pb hA).2
 eq:=λ{X pins σ H s x y v u a b A} I rx ry h1 h2 hA=>by
  obtain p|xs|rfl|hp|pa:=h1;obtain q|ys|rfl|hq|pb:=h2;cases rx;cases ry;by_cases e:p=q
  ·subst e;have e:=I.list_inj hp hq;subst e;rw[nU (F:=λa x=>k.R X.K H x a) (λa b x=>k.inj I) pa pb,decide_eq_true rfl];exact SeqAt.EqAt.same _
  ·exact .of_refs e (Jl k I hp hq pa pb hA).1
def Kind.via {β:Type} [DecidableEq β] (f:β->α) (fi:∀a b,f a=f b->a=b) (R':FG9->Hp->V->β->Prop) (im:∀{K H x b},R' K H x b->k.R K H x (f b)):Kind β where
 R:=R'
 d:=k.d
 inj:=λI h1 h2=>fi _ _ (k.inj I (im h1) (im h2))
 rc:=λ{X pins σ H s x y v u a b A} I rx ry h1 h2 hA=>by
  have z:=k.rc (A:=A) I rx ry (im h1) (im h2) hA;rwa [decide_eq_decide.mpr (show f a=f b↔a=b from #[fi a b,λe=>by rw[e]])] at z
 ne:=λ{X pins σ H s x y v u a b A} I rx ry h1 h2 hA=>by
  have z:=k.ne (A:=A) I rx ry (im h1) (im h2) hA;rwa [decide_eq_decide.mpr (show f a=f b↔a=b from #[fi a b,λe=>by rw[e]])] at z
 eq:=λ{X pins σ H s x y v u a b A} I rx ry h1 h2 hA=>by
  have z:=k.eq (A:=A) I rx ry (im h1) (im h2) hA;rwa [decide_eq_decide.mpr (show f a=f b↔a=b from #[fi a b,λe=>by rw[e]])] at z
end
def Ic (K:FG9) (H:Hp) (x:V) (n:Int×Int):Prop:=∃p,x=.ref p/\nG K H p [.int n.1,.int n.2]
def Vs:Kind (Int×Int):=(Wd We).via (λn=>[n.1,n.2]) (λa b e=>by cases a;cases b;simp at e;rw[e.1,e.2]) Ic λ#[p,e,h]=>#[p,_,e,h,.cons rfl (.cons rfl .nil)]
def V9 (K:FG9):R2:=λx y H Q=>∃(α:Type) (_:DecidableEq α) (k:Kind α) (a b:α),k.d<=50/\k.R K H x a/\k.R K H y b/\Q (.bl (decide (a=b))) H
def V8 (K:FG9):R2:=λx y H Q=>∃(α:Type) (_:DecidableEq α) (k:Kind α) (a b:α),k.d<=50/\k.R K H x a/\k.R K H y b/\Q (.bl (!decide (a=b))) H
theorem Ja (hu:X.A.units+50 < cLine):C7 X (compareOp .Eq) (V9 X.K):=by
 intro pins s σ H x y v u Q I rx ry h;obtain α|_|k|a|b|hd|ha|hb|q:=h;exact k.rc (A:=X.A) I rx ry ha hb () _ _ _ _ #[.bl (decide (a=b)),H,I,rfl,q]
theorem uD (hu:X.A.units+50 < cLine):C7 X (compareOp .NotEq) (V8 X.K):=by
 intro pins s σ H x y v u Q I rx ry h;obtain α|_|k|a|b|hd|ha|hb|q:=h;exact k.ne (A:=X.A) I rx ry ha hb () _ _ _ _ #[.bl (!decide (a=b)),H,I,rfl,q]
theorem BZ (hr:mO k A):A.units+50 < cLine:=by have:=hr.units;lia
def Inner (H:Hp) (p q:Addr):Prop:=∃a b c:Int,H p=some (.lst [.int a,.int b,.int c,.ref q])
def cM (p:Addr) (H H':Hp):Prop:=(∀b o,H b=some o->b≠p->H' b=some o)/\∀q,Inner H p q->Inner H' p q
theorem cM.refl (H:Hp):cM p H H:=#[λ_ _ h _=>h,λ_ h=>h]
theorem cM.trans (a:cM p H H1) (b:cM p H1 H2):cM p H H2:=#[λc o h n=>b.1 c o (a.1 c o h n) n,λq h=>b.2 q (a.2 q h)]
theorem Inner.inj (h:Inner H p q) (h':Inner H p q'):q=q':=by
 obtain a|b|c|e:=h;obtain a'|b'|c'|e':=h';rw[e] at e';have:=HO.lst.inj (cm e');simp at this;exact this.2.2.2
theorem cM.set (h:H p=some (.lst [.int a,.int b,.int c,.ref q])):cM p H (upd H p (.lst [.int a',.int b',.int c',.ref q])) :=
 #[λb u h n=>by rw[a7 n];exact h,λq' h'=>by
  rw[(Inner.inj #[a,b,c,h] h').symm];exact #[a',b',c',aK]]
theorem aA.upto (h:aA H H'):cM p H H':=#[λb o e _=>h b o e,λq #[a,b,c,e]=>#[a,b,c,h _ _ e]]
theorem aA.new (h:H p=Option.none):aA H (upd H p o):=λb u e=>by rw[a7 (fW e h)];exact e
theorem aA.sqt {K:FG9} (e:aA H H') (h:nG K H a xs):nG K H' a xs:=by
 rcases h with (h | ⟨o,h⟩) | h
 ·exact .inl (.inl (e _ _ h))
 ·exact .inl (.inr #[o,e _ _ h])
 ·exact .inr h
theorem aA.num {K:FG9} (e:aA H H') (h:Ic K H x n):Ic K H' x n:=by obtain p|q|r:=h;exact #[p,q,e.sqt r]
section
variable {σ:St} {H:Hp} {D:Ends}
theorem aX {t:TS} (e:σ0=σ) (h:t D σ H):t D σ0 H:=by rw[e];exact h
theorem SR (h:t { D with nx:=u D } σ H):UL t u D σ H:=h
theorem PK (h:D.nx σ H):Rl D σ H:=h
theorem Tb {g:TG} (h:te σ H λx H1=>g x σ H1 D.nx):Pk te g D σ H:=h
theorem Nl (h:Q (σ.set i (some v)) H):Ky i v σ H Q:=h
theorem SS (h:te σ H D.rt):UM te D σ H:=h
theorem S4 (h:c σ H λb H1=>if b=true then t D σ H1 else u D σ H1):UR c t u D σ H:=h
theorem PZ (h:te σ H λ_ H1=>D.nx σ H1):Ro te D σ H:=h
theorem SU (h:ta σ H λvs H1=>∃v w,vs=[v,w]/\D.nx ((σ.set i (some v)).set j (some w)) H1):UN i j ta D σ H:=h
theorem P9 
  (h:to σ H λo H1=>ti σ H1 λi H2=>tget o i H2 λx H3=>te σ H3 λy H4=>tip x y H4 λz H5=>tset o i z H5 λH6=>D.nx σ H6):Rr to ti te tget tip tset D σ H:=h
theorem S0 (h:Q (.int (f i j)) H):ipI f (.int i) (.int j) H Q:=#[i,j,rfl,rfl,h]
theorem S7 {g:TG} (h:wi σ H λJ H1=>∃W:Nat->Nat->St->Hp->Prop,(∃m,W 0 m σ H1)/\∀i m σ H,W i m σ H →
  (J.stop i H/\D.nx σ H)\/(J.go i H/\∃N:St->Hp->Prop,(∀σ' H',N σ' H'->∃m',m' < m/\W (i+1) m' σ' H')/\∀x H',J.yld i H x H'->g x σ H' λσ2 H2=>tb { D with nx:=N,ct:=N,bk:=D.nx } σ2 H2)):US wi g tb D σ H:=h
variable {Q:VK} {QA:List V->Hp->Prop} {QB:Bool->Hp->Prop}
theorem SN (e:σ[i]?=some (some v)) (h:Q v H):Sy i σ H Q:=#[v,e,h]
theorem V6 (h:Q v H):tC v σ H Q:=h
theorem Va (h:ta σ H λx H1=>tb σ H1 λy H2=>r x y H2 Q):UO r ta tb σ H Q:=h
theorem U4 (h:ta σ H λx H1=>r x H1 Q):VT r ta σ H Q:=h
theorem Vd {g:Int->Int->V} (h:Q (g i j) H):Qi g (.int i) (.int j) H Q:=#[i,j,rfl,rfl,h]
theorem fD {g:Int->Int->V} (hc:C i j) (h:Q (g i j) H):rI C g (.int i) (.int j) H Q:=#[i,j,rfl,rfl,hc,h]
theorem V7 {g:Int->V} (h:Q (g i) H):rU g (.int i) H Q:=#[i,rfl,h]
theorem Ta (h:Q (.bl (decide (i=j))) H):rEq (.int i) (.int j) H Q:=#[rfl,by
 have e:decide (V.int i=V.int j)=decide (i=j):=by simp
 rw[e];exact h]
theorem SX (h:Q (.bl (!decide (i=j))) H):rNe (.int i) (.int j) H Q:=#[rfl,by
 have e:decide (V.int i=V.int j)=decide (i=j):=by simp
 rw[e];exact h]
theorem PC (h:t σ H λx H'=>∃k,x=.bl k/\QB k H'):Ri t σ H QB:=h
theorem U5 (h:t σ H λx H'=>∃k,x=.bl k/\QB k H'):tB t σ H QB:=h
theorem Tc (h:t σ H λc H1=>if c=true then u σ H1 QB else QB false H1):UU t u σ H QB:=h
theorem U9 (h:t σ H λc H1=>if c=true then QB true H1 else u σ H1 QB):tOr t u σ H QB:=h
theorem SV (h:t σ H λc H1=>QB (!c) H1):UP t σ H QB:=h
theorem Qd (h:t σ H λx H1=>∃c,x=.bl c/\if c=true then u σ H1 Q else Q (.bl false) H1):Rw t u σ H Q:=h
theorem PJ (h:t σ H λx H1=>∃c,x=.bl c/\Q (.bl (!c)) H1):Rk t σ H Q:=h
theorem S5 (h:c σ H λb H1=>if b=true then ta σ H1 Q else tb σ H1 Q):tIf c ta tb σ H Q:=h
theorem SM (h:QB true H):UI σ H QB:=h
theorem SW (h:QA [] H):Le σ H QA:=h
theorem P0 (h:ta σ H λx H1=>tr σ H1 λxs H2=>QA (x :: xs) H2):tT ta tr σ H QA:=h
theorem P8 (h:t σ H λvs H1=>sp vs H1 Q E):MK sp [] E t σ H Q:=by
 have e:(λvs H1=>sp (vs++[]) H1 Q E)=λvs H1=>sp vs H1 Q E:=by funext vs H1;rw[tO]
 show t σ H λvs H1=>sp (vs++[]) H1 Q E
 rw[e];exact h
theorem Vb (h:t σ H λvs H1=>r vs H1 Q):V3 r t σ H Q:=h
theorem IV {K:FG9} (hx:nG K H p xs) (e:JB xs i=some v) (h:Q v H):Te K (.ref p) (.int i) H Q:=#[p,xs,i,v,rfl,rfl,hx,e,h]
theorem cy {K:FG9} (hx:bJ K H p xs) (e:JB xs i=some v) (h:Q v H):Tf K (.ref p) (.int i) H Q:=#[p,xs,i,v,rfl,rfl,hx,e,h]
theorem PY {K:FG9} (hx:bJ K H p xs) (e:JB xs i=some v) (h:Q v H):RA K (.ref p) (.int i) H Q:=#[p,xs,i,v,rfl,rfl,hx,e,h]
theorem gZ (hx:H p=some (.lst xs)) (e:Mq xs.9 i=some j) (ey:xs.set j v=ys) (h:QH (upd H p (.lst ys))):Rz (.ref p) (.int i) v H QH:=#[p,xs,i,j,rfl,rfl,hx,e,by rw[ey];exact h]
theorem PV (h:to σ H λo H1=>ti σ H1 λi H2=>t o i v H2 λH3=>QS σ H3):Vv to ti t v σ H QS:=h
theorem Nn (h:t v σ H λσ' H'=>u r σ' H' QS):RR t u (v :: r) σ H QS:=#[v,r,rfl,h]
theorem PX (h:QS σ H):Vw [] σ H QS:=#[rfl,h]
theorem PU {K:FG9} (hx:nG K H a xs) (hl:xs.9=n) (h:t xs σ H QS):TK K n t (.ref a) σ H QS:=#[a,xs,rfl,hx,hl,h]
theorem U7 (h:te σ H λx H1=>tl σ H1 λl H2=>th σ H2 λu H3=>r x l u H3 Q):tSl r te tl th σ H Q:=h
theorem Lv (h:QO none H):JP σ H QO:=h
theorem PH (h:t σ H λx H1=>∃i,x=.int i/\QO (some i) H1):Rj t σ H QO:=h
variable {R:It->Hp->Prop} {K:FG9}
theorem Nj (h:tl σ H λx H1=>∃a,x=.ref a/\(∃xs,bJ K H1 a xs)/\R (OQ K a) H1):Ob K tl σ H R:=h
theorem PR (h:tl σ H λx H1=>∃a,x=.ref a/\(∃xs,nG K H1 a xs)/\R (Si K a) H1):Vu K tl σ H R:=h
theorem Ni (h:ta σ H λvs H1=>∃j:Int,vs=[.int j]/\-(2^62)<=j/\j < 2^62/\R (KZ 0 j.toNat) H1):RO ta σ H R:=h
theorem P7 {g:TG} (e:Mn k cap σ=σ₀) (h:wi σ H λJ H1=>oA J σ₀ g tf te Q H1):F9 wi k cap g tf te σ H Q:=by
 unfold F9;rw[e];exact h
theorem PB {g:TG} {NY:V->Hp->Prop} (h:g x σ H λσ2 H2=>tf σ2 H2 λb H3=>if b=true then te σ2 H3 NY else NN H3):nI σ g tf te x H NY NN:=h
theorem Vc (h:to σ H λx H1=>VZ K T x H1/\t σ H1 λxs H2=>r x xs H2 Q):tBM K T r to t σ H Q:=h
def VM (Q:VK) (xs:List V) (H:Hp):Prop:=xs.9<=sizeLine/\∀p,H p=none->Q (.ref p) (upd H p (.tup xs))
def VN (Q:VK) (xs:List V) (H:Hp):Prop:=xs.9<=sizeLine/\∀p,H p=none->Q (.ref p) (upd H p (.lst xs))
theorem SO (h:t σ H (VM Q)):UJ t σ H Q:=h
theorem SY (h:t σ H (VN Q)):UQ t σ H Q:=h
theorem nK (h:Nat.ble n 1000=true):n<=sizeLine:=aL (bD (Nat.le_of_ble_eq_true h))
theorem b6 {xs:List V} (h:∀p H',aA H H'->H' p=some (.tup xs)->Q (.ref p) H') (hl:Nat.ble xs.9 1000=true:=by rfl):VM Q xs H :=
 #[nK hl,λp hp=>h p _ (aA.new hp) aK]
theorem dw {xs:List V} (h:∀p H',aA H H'->H p=none->H' p=some (.lst xs)->Q (.ref p) H') (hl:Nat.ble xs.9 1000=true:=by rfl):VN Q xs H :=
 #[nK hl,λp hp=>h p _ (aA.new hp) hp aK]
theorem Vt {A B:Prop} (h:B):if (!true)=true then A else B:=Oa h
def WB (tb:TS) (D:Ends) (Pv:St->Hp->Prop) (μ:St->Hp->Nat) (n:Nat) (σ:St) (H:Hp):Prop:=∃N:St->Hp->Prop,(∀σ' H',N σ' H'->∃m',m' < n/\(m'=μ σ' H'/\Pv σ' H'))/\tb { D with nx:=N,ct:=N,bk:=D.nx } σ H
theorem U3 (h:tb { D with nx:=λσ' H'=>Pv σ' H'/\μ σ' H' < n,ct:=λσ' H'=>Pv σ' H'/\μ σ' H' < n,bk:=D.nx } σ H):WB tb D Pv μ n σ H :=
 #[_,λσ' H' #[p,l]=>#[_,l,rfl,p],h]
theorem Ex (Pv:St->Hp->Prop) (μ:St->Hp->Nat) (h0:Pv σ H) (hs:∀σ H,Pv σ H->c σ H λb H1=>if b=true then WB tb D Pv μ (μ σ H) σ H1 else D.nx σ H1):MJ c tb D σ H:=by
 refine #[λm σ H=>m=μ σ H/\Pv σ H,#[_,rfl,h0],?_];rintro m σ H ⟨rfl,p⟩;exact hs σ H p
end
def iq (H:Hp) (p:Addr):Prop:=∃(q:Addr) (a b c:Int) (cs:List Int),H p=some (.lst [.int a,.int b,.int c,.ref q])/\H q=some (.lst (cs.map V.int))/\0<=a/\0<=c/\c<=(cs.9:Int)/\∀x∈cs,(0:Int)<=x
theorem Md {H:Hp} {cs:List Int} (hp:H p=some (.lst [.int a,.int b,.int c,.ref q])) (hq:H q=some (.lst (cs.map V.int))):q≠p:=λe=>by
 rw[e,hp] at hq;have h:=HO.lst.inj (cm hq);cases cs with
 | nil=>cases h
 | cons x1 cs=>cases cs with
  | nil=>cases h
  | cons x2 cs=>cases cs with
   | nil=>cases h
   | cons x3 cs=>cases cs with
    | nil=>cases h
    | cons x4 cs=>simp at h
theorem iq.same (h:iq H p) (e:aA H H'):iq H' p:=by obtain q|a|b|c|cs|h1|h2|r:=h;exact #[q,a,b,c,cs,e _ _ h1,e _ _ h2,r]
theorem cM.tup {H H':Hp} {p r:Addr} {xs:List V} (u:cM p H H') (B:iq H p) (h:H r=some (.tup xs)):H' r=some (.tup xs):=by
 obtain q|a|b|c|cs|h1|_:=B;exact u.1 r _ h λe=>by rw[e,h1] at h;cases h
theorem cM.other (u:cM p H H') (n:r≠p) (h:H r=some o):H' r=some o:=u.1 r _ h n
theorem iq.inner (h:iq H p):∃q,Inner H p q/\∃xs,H q=some (.lst xs):=by obtain q|a|b|c|cs|h1|h2|_:=h;exact #[q,#[a,b,c,h1],_,h2]
theorem iq.upd (h:iq H p) (hi:Inner H p q) (n1:r≠p) (n2:r≠q):iq (L2.upd H r o) p:=by
 obtain q'|a|b|c|cs|h1|h2|z:=h;have e:q'=q:=Inner.inj #[a,b,c,h1] hi;subst e;exact #[q',a,b,c,cs,by rw[a7 n1.symm];exact h1,by rw[a7 n2.symm];exact h2,z]
theorem Inner.upd (hi:Inner H p q) (n1:r≠p):Inner (L2.upd H r o) p q:=by obtain a|b|c|h:=hi;exact #[a,b,c,by rw[a7 n1.symm];exact h]
def Pu:Sp:=λvs H Q _=>∃p n,vs=[.ref p,.int n]/\iq H p/\0 < n/\n < 2^64/\∀v H',0<=v->v < n->iq H' p->cM p H H'->Q (.int v) H'
inductive M6 (K:FG9) (vs:List V) (H:Hp) (Q:VK) (E9:XK):Prop
 | mk (a:Addr) (ns:List Int):vs=[.ref a]->bJ K H a (ns.map V.int)->ns.9<=63->(∀p H',H p=none->iq H' p->aA H H'->Q (.ref p) H')->M6 K vs H Q E9
inductive A6 (K:FG9) (vs:List V) (H:Hp) (Q:VK) (E9:XK):Prop
 | mk (a:Addr) (ns:List Int):vs=[.ref a]->bJ K H a (ns.map V.int)->ns.9<=63->(∀H',Q (.bl true) H')->A6 K vs H Q E9
def SJ:Sp:=λvs H Q _=>∃t b,vs=[.int t,.int b]/\0 < b/\Sz 8999000 b/\∀r H',aA H H'->H' r=some (.tup [.int (lo t b),.int (hi t b)])->Q (.ref r) H'
def UX:Sp:=λvs H Q _=>∃a b,vs=[.int a,.int b]/\Q (.int (g a b)) H
def Ln:Sp:=λvs H Q _=>∃t b,vs=[.int t,.int b]/\b≠0/\Sz 8999000 b/\∀r H',aA H H'->H' r=some (.tup [.int (lo (if b < 0 then -t else t) (if b < 0 then -b else b)),.int (hi (if b < 0 then -t else t) (if b < 0 then -b else b))])->Q (.ref r) H'
def RV (a b c d:Int):Int:=a*d+c*b
def Ox (a b c d:Int):Int:=a*d - c*b
def Ow (a _b c _d:Int):Int:=a*c
def Kd (K:FG9) (f:Int->Int->Int->Int->Int):Sp:=λvs H Q _=>∃p q a b c d,vs=[.ref p,.ref q]/\nG K H p [.int a,.int b]/\nG K H q [.int c,.int d]/\0 < b/\0 < d/\Sz 4000000 a/\Sz 4000000 b/\Sz 4000000 c/\Sz 4000000 d /\
 ∀r H',aA H H'->H' r=some (.tup [.int (lo (f a b c d) (b*d)),.int (hi (f a b c d) (b*d))])->Q (.ref r) H'
theorem cA {α β:Type} {F:α->β->Prop}:∀{l1 l1':List α} {l2 l2':List β},Paired F l1 l2->Paired F l1' l2'->Paired F (l1++l1') (l2++l2')
 | _,_,_,_,.nil,h=>h
 | _,_,_,_,.cons r t,h=>.cons r (cA t h)
theorem dR {h:Heap} (ha:h.get? a=some o) (hb:h.get? b=some u) (hc:o.cls≠u.cls):a≠b:=λe=>by
 subst e;rw[ha] at hb;cases hb;exact hc rfl
theorem nH (h:a≠b):Value.type a≠Value.type b:=λe=>h (by injection e)
theorem DC {z TI TO i1 i2 l1 l2:Addr} (hz:IsZip h z TI TO f0) (hTI:IsPair h TI (.ref i1) (.ref i2)) (hTO:IsPair h TO a b)
  (h1:h.IsListIter i1 l1 k1) (h2:h.IsListIter i2 l2 k2) (hl1:h.IsList l1 xs) (hl2:h.IsList l2 ys) (hT:TI≠TO) (hi:i1≠i2):ZipApart z TI TO i1 i2 l1 l2:=by
 obtain o1|g1|c1|_:=h1;obtain o2|g2|c2|_:=h2;obtain p1|q1|d1|_:=hl1;obtain p2|q2|d2|_:=hl2;refine #[dR hTI hz ?_,dR hTO hz ?_,dR g1 hz ?_,dR g2 hz ?_,hT,dR hTI g1 ?_,dR hTI g2 ?_,dR hTO g1 ?_,dR hTO g2 ?_,hi,dR q1 hz ?_,dR q1 hTO ?_,dR q1 g1 ?_,dR q1 g2 ?_,dR q2 hz ?_,dR q2 hTO ?_,dR q2 g1 ?_,dR q2 g2 ?_]
 all_goals first
  | (rw[d1];first | (rw[c1];exact nH ()) | (rw[c2];exact nH ()) | exact nH ())
  | (rw[d2];first | (rw[c1];exact nH ()) | (rw[c2];exact nH ()) | exact nH ())
  | (rw[c1];exact nH ())
  | (rw[c2];exact nH ())
  | exact nH ()
def VY (K : FG9) (l1 l2 : Addr) : It :=
  #[λi H => ∃ xs ys x y, bJ K H l1 xs /\ bJ K H l2 ys /\ xs[i]? = some x /\ ys[i]? = some y,
   λi H v H' => ∃ p x y, v = .ref p /\ H p = none /\ H' = upd H p (.tup [x, y]) /\ (∀ xs, bJ K H l1 xs → xs[i]? = some x) /\ ∀ ys, bJ K H l2 ys → ys[i]? = some y,
   λi H => ∃ xs ys, bJ K H l1 xs /\ bJ K H l2 ys /\ (xs.9 ≤ i \/ ys.9 ≤ i)]
def tnZ (z TI TO i1 i2 l1 l2:Addr) (i:Nat) (h:Heap):Prop:=IsZip h z TI TO .none/\IsPair h TI (.ref i1) (.ref i2)/\(∃a b,IsPair h TO a b)/\h.IsListIter i1 l1 i/\h.IsListIter i2 l2 i
theorem MF {P:Program} {w:World} {K:FG9} {elts:List Expr} {kk:Nat} {tpos:Pos} (z TI TO i1 i2 l1 l2:Addr) (hT:TI≠TO) (hi:i1≠i2):Turn P w K (.Tuple elts kk tpos) (VY K l1 l2) [z,TI,TO,i1,i2] z (tnZ z TI TO i1 i2 l1 l2) where
 mem:=by simp
 obj:=λi h st b hb=>by
  obtain hz|hTI|⟨a,c,hTO⟩|⟨o1,g1,c1,d1⟩|⟨o2,g2,c2,d2⟩:=st;simp only[aI,aT,or_false] at hb;rcases hb with rfl | rfl | rfl | rfl | rfl
  ·exact #[_,hz,λv q=>nomatch q]
  ·exact #[_,hTI,λv q=>nomatch q]
  ·exact #[_,hTO,λv q=>nomatch q]
  ·exact #[o1,g1,λv q=>by rw[d1] at q;cases q]
  ·exact #[o2,g2,λv q=>by rw[d2] at q;cases q]
 keep:=λi h h' st k=>by
  obtain hz|hTI|⟨a,c,hTO⟩|h1|h2:=st;exact #[k z (by simp) _ hz,k TI (by simp) _ hTI,#[a,c,k TO (by simp) _ hTO],h1.at λo e=>k i1 (by simp) o e,h2.at λo e=>k i2 (by simp) o e]
 item:=by
  intro X hP hw hK hc i pins s σ H E I hf st hg;subst hP hw hK;obtain hz|hTI|⟨a,c,hTO⟩|h1|h2:=st;obtain xs|ys|x|y|qx|qy|ex|ey:=hg;obtain us|rx|px|_:=I.list qx;obtain ws|ry|py|_:=I.list qy;obtain u|eu|ru:=rx.get ex;obtain v|ev|rv:=ry.get ey;have D:=DC hz hTI hTO h1 h2 px.isList py.isList hT hi;refine wpAny_pyNext_zip_item D hz hTI hTO h1 h2 px.isList py.isList (x:=u) (y:=v) (by simpa using eu) (by simpa using ev) λh' a1 a2 a3 a4 a5 a6 hk=>?_
  refine #[_,rfl,wpAny_letOwnedTupleGo_zip a1 λh'' hz'' hs=>?_];have hT0:H s.6=none:=I.hok.fresh (ar _);have zne:s.6≠z:=K0 (Heap.lt_size hz)
  have up:∀b o,b∉[z,TO,i1,i2]->s.heap.get? b=some o->h''.get? b=some o:=λb o hb e=>by
   simp only[aI,aT,or_false,not_or] at hb;exact (hs.2 b hb.1).trans (hk b o hb.1 hb.2.1 hb.2.2.1 hb.2.2.2 e)
  have fx:∀b∈[z,TO,i1,i2],lZ X pins H b:=λb hb=>hf b (by
   simp only[aI,aT,or_false] at hb ⊢;rcases hb with rfl | rfl | rfl | rfl <;> simp)
  have nx:∀b o,H b=some o->b∉[z,TO,i1,i2]:=λb o e hb=>by
   have:=(fx b hb).1;rw[this] at e;cases e
  have nT:∀{b:Addr} {o:HO},H b=some o->b≠s.6:=λe q=>by rw[q,hT0] at e;cases e
  have tup:h''.get? s.6=some { cls:=.type "tuple",data:=.seq [u,v].toArray }:=(hs.2 _ zne).trans a5
  have I2:Inv X pins σ (upd H s.heap.objs.size (.tup [x,y])) { s with heap:=h'' }:=by
   refine I.step (g':=s.gens) (d':=s.drawn) (t':=s.toks) (ch:=[z,TO,i1,i2]) (λb hb=>?_) (λb o _ _ hb e _=>up b o hb e) (λb o _ _ hb e _=>#[o.slots,up b o hb e]) (λb o hb e n=>?_)
    (λb o hb e=>#[o,up b o hb e]) (λb q e=>by rw[a7 (nT e)];exact e) (λb o q e=>by rw[a7 (nT e)];exact e) (λb q e=>#[[].toArray,by rw[a7 (nT e),e];simp]) (λm hm=>?_) (λb o e=>?_) I.bare
   ·obtain _|f1|_|f3|f4|f5:=fx b hb;exact #[f3,f1,f4,f5]
   ·rw[a7 (cT (Heap.lt_size e))];exact n
   ·obtain o|es|ep|ho|r:=hm;exact #[o,es,ep,up _ o (λz=>(fx _ z).2.1 rfl) ho,r]
   ·by_cases hb:b=s.6
    ·subst hb;rw[aK] at e;cases e;exact #[nK rfl,[u,v],.cons ru (.cons rv .nil),#[_,tup,rfl,_,rfl]]
    ·rw[a7 hb] at e;refine (I.hok b o e).stay (λc v' hc q=>up c v' ?_ q) (λc q=>by rw[a7 (nT q)];exact q) λc xs q=>by rw[a7 (nT q)];exact q
     rcases hc with rfl | hc
     ·exact nx _ _ e
     ·exact nx _ _ hc
  refine #[.ref s.6,_,I2,rfl,#[_,x,y,rfl,hT0,rfl,λxs' q=>by rw[I.list_inj q qx];exact ex,λys' q=>by rw[I.list_inj q qy];exact ey],?_,λb hb=>?_]
  ·refine #[hz'',(hs.2 _ D.TIz).trans (hk _ _ D.TIz D.TITO D.TIi1 D.TIi2 hTI),#[_,_,(hs.2 _ D.TOz).trans a2],a3.at λo e=>(hs.2 _ D.i1z).trans e,a4.at λo e=>(hs.2 _ D.i2z).trans e]
  ·obtain ⟨o,e,_⟩:∃o,s.heap.get? b=some o/\True:=by
    obtain o1|g1|_:=h1;obtain o2|g2|_:=h2;simp only[aI,aT,or_false] at hb;rcases hb with rfl | rfl | rfl | rfl | rfl
    ·exact #[_,hz,trivial]
    ·exact #[_,hTI,trivial]
    ·exact #[_,hTO,trivial]
    ·exact #[_,g1,trivial]
    ·exact #[_,g2,trivial]
   rw[a7 (cT (Heap.lt_size e))];exact (hf b hb).1
 done:=by
  intro X hP hw hK hc i pins s σ H E I hf st hg;subst hP hw hK;obtain hz|hTI|⟨a,c,hTO⟩|h1|h2:=st;obtain xs|ys|qx|qy|hend:=hg;obtain us|rx|px|_:=I.list qx;obtain ws|ry|py|_:=I.list qy;have lx:=rx.9;have ly:=ry.9;have D:=DC hz hTI hTO h1 h2 px.isList py.isList hT hi
  refine wpAny_pyNext_zip_end (I.ok.hd hc) D hz hTI hTO h1 h2 px.isList py.isList (by
   rcases hend with q | q
   ·exact .inl (by simp;lia)
   ·exact .inr (by simp;lia)) λh' hk=>#[rfl,?_]
  have up:∀b o,b∉[z,TO,i1,i2]->s.heap.get? b=some o->h'.get? b=some o:=λb o hb e=>by
   simp only[aI,aT,or_false,not_or] at hb;exact hk b o hb.1 hb.2.1 hb.2.2.1 hb.2.2.2 e
  have fx:∀b∈[z,TO,i1,i2],lZ X pins H b:=λb hb=>hf b (by
   simp only[aI,aT,or_false] at hb ⊢;rcases hb with rfl | rfl | rfl | rfl <;> simp)
  have nx:∀b o,H b=some o->b∉[z,TO,i1,i2]:=λb o e hb=>by
   have:=(fx b hb).1;rw[this] at e;cases e
  refine I.step (g':=s.gens) (d':=s.drawn) (t':=s.toks) (ch:=[z,TO,i1,i2]) (λb hb=>?_) (λb o _ _ hb e _=>up b o hb e) (λb o _ _ hb e _=>#[o.slots,up b o hb e]) (λb o hb e n=>n)
   (λb o hb e=>#[o,up b o hb e]) (λb q e=>e) (λb o q e=>e) (λb q e=>#[[].toArray,by rw[e];simp]) (λm hm=>?_) (λb o e=>?_) I.bare
  ·obtain _|f1|_|f3|f4|f5:=fx b hb;exact #[f3,f1,f4,f5]
  ·obtain o|es|ep|ho|r:=hm;exact #[o,es,ep,up _ o (λz=>(fx _ z).2.1 rfl) ho,r]
  ·refine (I.hok b o e).stay (λc v' hc q=>up c v' ?_ q) (λc q=>q) λc xs q=>q
   rcases hc with rfl | hc
   ·exact nx _ _ e
   ·exact nx _ _ hc
 self:=λ_ _ _ _ _ st h=>wpAny_pyIter_zip st.1 h
section
variable {X:Cx}
def TF (K:FG9) (ta:TA):TI:=λσ H R=>ta σ H λvs H1=>∃l1 l2,vs=[.ref l1,.ref l2]/\(∃xs,bJ K H1 l1 xs)/\(∃ys,bJ K H1 l2 ys)/\R (VY K l1 l2) H1
theorem EZ {a b:Expr} {ta:TA} {p pos tpos:Pos} {elts:List Expr} {kk:Nat} (hg:Gl X "zip") (hm:X.mg "zip"=none) (ha:PA X [a,b] ta) (hs:starEach [a,b] X.env=[(false,eval a X.env),(false,eval b X.env)]:=by rfl) (hs2:starEach [b] X.env=[(false,eval b X.env)]:=by rfl) :
  PI X (.Tuple elts kk tpos) (.Call (.Name "zip" p) [a,b] [] pos) (TF X.K ta):=by
 intro pins s σ H R I h;refine Call_ (pZ I hg hm boot_zip (PyProof.Rows.callWith_type1 (iX (ha pos pins s σ H _ I h) λus s1 #[vs,H1,I1,r1,q1]=>?_) (by rw[hs,hs2]) (by rw[hs2];rfl)));obtain l1|l2|e|⟨xs,qx⟩|⟨ys,qy⟩|q:=q1;subst e;obtain u|v|rfl|ru|rv:=vals2 r1;cases ru;cases rv;obtain us|rx|px|_:=I1.list qx;obtain ws|ry|py|_:=I1.list qy;refine call_zip_2 px.isList py.isList λh' a1 a2 a3 a4 a5 a6 hk=>wpAny_pyIter_zip a1 ?_
 have I2:Inv X pins σ H1 { s1 with heap:=h' }:=I1.kept (t':=s1.toks) hk;refine #[_,[s1.6+4,s1.6+2,s1.6+3,s1.6,s1.6+1],_,_,H1,rfl,I2,MF (s1.6+4) (s1.6+2) (s1.6+3) s1.heap.objs.size (s1.6+1) l1 l2 (cT (iG _)) (cT (iG _)),#[a1,a2,#[_,_,a3],a4,a5],λb hb=>?_,q]
 have hb':s1.6<=b:=by
  simp only[aI,aT,or_false] at hb;rcases hb with rfl | rfl | rfl | rfl | rfl <;> first | exact Mw _ _ | exact ar _
 exact I1.fpOk hb' (I1.hok.fresh hb')
theorem Cy (hc:X.calm=true):rn X (.builtin "all") (λxs H Q=>∃(p:Addr) (bs:List Bool),xs=[.ref p]/\bJ X.K H p (bs.map V.bl)/\Q (.bl (bs.all id)) H):=by
 intro pins s σ H xs us Q I r h;obtain p|bs|rfl|hp|q:=h;obtain u|rfl|ru:=vals1 r;cases ru;obtain vs|rv|pl|hz:=I.list hp
 have hb:PyProof.Rows.LSm.BoolsAre vs bs:=by
  clear q hp pl hz
  induction bs generalizing vs with
  | nil=>cases rv;exact .nil
  | cons b bs ih =>
   rw[mW] at rv;cases rv with
   | cons r1 r2=>cases r1;exact .cons b (ih _ r2)
 have hlt:p < s.6:=by obtain _|e|_:=pl.isList;exact Heap.lt_size e
 refine call_all_walk (wpAny_pyIter_list pl.isList ?_)
 refine #[s.6,[s.6,p],[s.6],vs.5.7,_,_,λi=>(bs[i]?).getD true,rfl,Walks.list (A:=X.A.in1) (I.ok.hd hc) _ p (cT hlt) vs.5,
  #[#[_,Heap.get?_push_size _ rfl,rfl,rfl],pl.isList.push _],λi v s' Q' E' hP hQ=>?_,λh' tk hk=>?_]
 ·obtain b|e|rfl:=hb.get i v (by simpa using hP);simp only[e,eY] at hQ;exact wpAny_truthy_bool hQ
 ·have e:((List.range vs.5.7).all λi=>(bs[i]?).getD true)=bs.all id:=by
   rw[aW,hb.9];exact PyProof.Rows.LSm.range_all bs
  rw[e];exact #[.bl _,H,I.kept (t':=tk) (PyProof.Rows.LSm.kept_iter hk),rfl,q]
theorem Cw (hc:X.calm=true):rn X (.builtin "sum") (λxs H Q=>∃(p:Addr) (ns:List Int),xs=[.ref p]/\bJ X.K H p (ns.map V.int)/\Q (.int ns.sum) H):=by
 intro pins s σ H xs us Q I r h;obtain p|ns|rfl|hp|q:=h;obtain u|rfl|ru:=vals1 r;cases ru;obtain vs|rv|pl|_:=I.list hp;have hi:IntsAre vs ns:=intsAre_of rv;obtain xs|hx:=hi.allInts.items;have hl':s.heap.IsList p (intItems xs):=hx ▸ pl.isList;refine sum_intListG (I.ok.hd hc) hl' λh' tk t' hk=>?_
 have e1:ns=xs.toList.map (·.1):=by
  rw[<- nums_intItems,<- hx];exact (show numsOf vs.toArray.toList=ns from hi.numsOf).symm
 have e2:preSum (numAt xs) xs.7=ns.sum:=by
  rw[preSum_eq,aD (by simp),e1]
 rw[e2];exact #[.int _,H,I.kept (t':=tk) hk,#[_,rfl],q]
end
section
variable {K:FG9} {l1 l2:Addr} {xs ws:List V} {g:TG} {tf:TT} {te:TE} {Q:VK} {σ₀:St} {H:Hp}
theorem Cu (Pv:Nat->List V->Hp->Prop) (hz:xs.9<=sizeLine) (hw:ws.9=xs.9) (h0:Pv 0 [] H) (hl:∀i ys H,i<=xs.9->Pv i ys H->bJ K H l1 xs/\bJ K H l2 ws)
  (hs:∀i x y ys H p,xs[i]?=some x->ws[i]?=some y->ys.9<=i->Pv i ys H->H p=none->nI σ₀ g tf te (.ref p) (upd H p (.tup [x,y])) (λy H'=>Pv (i+1) (ys++[y]) H') (λH'=>Pv (i+1) ys H'))
  (hd:∀ys H,ys.9<=xs.9->Pv xs.9 ys H->∀p,H p=none->Q (.ref p) (upd H p (.lst ys))):oA (VY K l1 l2) σ₀ g tf te Q H:=by
 refine #[λi m ys H=>m=xs.9 - i/\i<=xs.9/\ys.9<=i/\Pv i ys H,#[xs.9,by simp,bW _,bW _,h0],?_];rintro i m ys H ⟨rfl,hi,hy,p⟩;obtain q1|q2:=hl i ys H hi p;by_cases hlt:i < xs.9
 ·refine .inr #[#[xs,ws,xs[i],ws[i]'(),q1,q2,by simp [hlt],by simp],(),λy H'=>Pv (i+1) (ys++[y]) H',λH'=>Pv (i+1) ys H',λy H' p'=>#[xs.9 - (i+1),(),rfl,hlt,by rw[aB,eJ];lia,p'],λH' p'=>#[xs.9 - (i+1),(),rfl,hlt,(),p'],λx H' y=>?_];obtain r|x'|y'|rfl|hr|rfl|e1|e2:=y;exact hs i x' y' ys _ r (e1 xs q1) (e2 ws q2) hy p hr
 ·have e:i=xs.9:=()
  subst e;exact .inl #[#[xs,ws,q1,q2,.inl (ar _)],(),hd ys H hy p]
end
section
variable {X:Cx}
theorem vh (K:FG9) (n:Nat) {es:List Expr} {k:Nat} {pos:Pos} {t:O4} (h:VJ X es t) (hK:X.K=K:=by rfl) (hc:X.calm=true:=by rfl)
  (hn:(assignEach es X.env).9=n:=by rfl) (hst:(assignEach es X.env).findIdx? (·.1)=none:=by rfl):PG X (.Tuple es k pos) (TK K n t):=by subst hK;exact yK hc h hn hst
theorem jc (K:FG9) (hK:X.K=K):VO X (Te K):=by subst hK;exact bP
theorem mL (K:FG9) (hK:X.K=K):VO X (Tf K):=by subst hK;exact bz
theorem nR (K:FG9) {tg l:Expr} {tl:TE} (hl:PE X l tl) (hK:X.K=K:=by rfl):PI X tg l (Ob K tl):=by subst hK;exact b7 hl
theorem M7 (K:FG9) (hK:X.K=K):Wk X (Td K):=by subst hK;exact ve
end
theorem c6 {X:Cx} {e e':Expr} {es:List Expr} {te:TE} {t:TA} (h:e=e') (ha:PE X e' te) (hr:PA X es t) (hs:∀l,starEach (e' :: l) X.env=(false,eval e' X.env) :: starEach l X.env:=by intro _;rfl):PA X (e :: es) (tT te t):=by subst h;exact aa ha hr (hs _)
section
variable {σ:St} {H:Hp} {D:Ends} {Q:VK}
theorem jA (hl:H l=some (.lst xs)) (hz:xs.9 < sizeLine) (h:Q .non (upd H l (.lst (xs++[y])))):Kh (.ref l) [y] H Q:=#[l,xs,y,rfl,rfl,hl,hz,h]
theorem PN {K:FG9} (h:ta σ H λvs H1=>∃l1 l2,vs=[.ref l1,.ref l2]/\(∃xs,bJ K H1 l1 xs)/\(∃ys,bJ K H1 l2 ys)/\R (VY K l1 l2) H1):TF K ta σ H R:=h
theorem pP (h1:H l=some (.lst xs)) (h2:H b=some (.lst zs)) (hz:xs.9+zs.9<=sizeLine) (h:∀p H',aA H H'->H p=none->H' p=some (.lst (xs++zs))->Q (.ref p) H'):Vf (.ref l) (.ref b) H Q :=
 #[l,b,xs,zs,rfl,rfl,h1,h2,hz,λp hp=>h p _ (aA.new hp) hp aK]
theorem Bv {K:FG9} {lo hi:Option Int} (h1:bJ K H a xs) (h:∀p H',aA H H'->H p=none->H' p=some (.lst (qP xs lo hi))->Q (.ref p) H'):Td K (.ref a) lo hi H Q :=
 #[a,xs,rfl,h1,λp hp=>h p _ (aA.new hp) hp aK]
theorem kT {xs:List α} {i:Int} (h0:0<=i) (h1:i < xs.9):∃v,JB xs i=some v/\v∈xs/\xs[i.toNat]?=some v:=by
 have hj:i.toNat < xs.9:=()
 refine #[xs[i.toNat],?_,bo hj,by simp [hj]];have:=eO (xs:=xs) (j:=i.toNat) (v:=xs[i.toNat]) (by simp [hj]);rwa [Int.toNat_of_nonneg h0] at this
end
theorem dN {α β:Type} {F:α->β->Prop}:∀{l1:List α} {l2:List β} {y:β},Paired F l1 l2->y∈l2->∃x∈l1,F x y
 | _,_,_,.nil,h=>nomatch h
 | _,_,_,.cons r t,h=>by
  rcases aI.mp h with rfl | h
  ·exact #[_,dE,r]
  ·obtain x|hx|q:=dN t h;exact #[x,bR _ hx,q]
theorem cE {F:α->β->Prop} {l1:List α} {l2:List β} {i:Nat} {y:β} (h:Paired F l1 l2) (e:l2[i]?=some y):∃x,l1[i]?=some x/\F x y:=by
 have hl:=h.9;have hi:i < l2.9:=(aR.mp e).1;refine #[l1[i]'(),by simp,?_];have:=lJ h (i:=i) () hi;have e2:l2[i]=y:=(aR.mp e).2;rwa [e2] at this
def Am (n:Int×Int):Prop:=0 < n.2/\Int.gcd n.1 n.2=1/\Sz 8000000 n.1/\Sz 8000000 n.2
theorem take_snoc {α:Type} {l:List α} {v:α} (h:l[i]?=some v):l.take (i+1)=l.take i++[v]:=by rw[List.take_add_one,h];rfl
theorem aA.after (s:aA H H') (h:H r=Option.none):aA H (upd H' r o):=λb u e=>by rw[a7 (fW e h)];exact s b u e
theorem cM.after (s:cM b H H') (h:H r=Option.none):cM b H (upd H' r o):=#[λc u e n=>by rw[a7 (fW e h)];exact s.1 c u e n,λq hi=>(s.2 q hi).upd λz=>by obtain _|_|_|e:=hi;rw[<- z,h] at e;cases e]
theorem cM.same (s:cM b H H') (e:aA H' H''):cM b H H'':=s.trans e.upto
theorem AN {α:Type} {Pr:α->Prop} {l:List α} {a:α} (h:∀n∈l,Pr n) (ha:Pr a):∀n∈l++[a],Pr n:=λn hn=>by
 rcases aw.mp hn with hn | hn
 ·exact h n hn
 ·have e:n=a:=by simpa using hn
  rw[e];exact ha
abbrev CT (h:Heap) (z TI TO:Addr) (f0 f1:Value):Prop:=h.get? z=some { cls:=.type "zip",dict:=none,data:=.fields [f0,f1,.bool false,.ref TI,.ref TO].toArray,slots:=[].toArray }
section
variable {prog:Program} {w:World} {A:Around} {E:Value->Shared->Prop} {s:Shared}
theorem JC (e:s.heap.get? a=some o) (h:Q (some o) s):wpAny (model prog w) A (loadIfAlive a) Q E s:=by
 intro Γ p hp;show Sem.wp _ _ (.loadIfAlive a .pure) _ _ _ _
 simp only[Sem.wp_loadIfAlive,e];exact wpAny_pure h Γ p hp
theorem BG {z TI TO T:Addr} (zr:CT s.heap z TI TO (rawInt T) (.bool b1)) (al:s.heap.get? T=some o)
  (h:∀h',CT h' z TI TO (rawInt T) (.bool true)->Heap.SameBut z s.heap h'->Q false { s with heap:=h' }):wpAny (model prog w) A (Builtin.SmallTypes.ownedTupleIsFree (.ref z)) Q E s:=by
 unfold Builtin.SmallTypes.ownedTupleIsFree;refine wpAny_bind (wpAny_field zr rfl (x:=rawInt T) rfl ?_);refine wpAny_bind (JC (a:=T) al ?_);refine wpAny_bind (wpAny_field zr rfl (x:=.bool b1) rfl ?_);cases b1 with
 | true=>exact wpAny_pure (h _ zr (.refl ..))
 | false=>exact wpAny_bind (wpAny_setField_rec zr (by simp) λh' zr' sb=>wpAny_pure (h h' zr' sb))
theorem LM {z TI TO T i1 i2 l1 l2:Addr} {Q:Value->Shared->Prop} (D:ZipApart z TI TO i1 i2 l1 l2) (zr:CT s.heap z TI TO (rawInt T) (.bool b1)) (al:s.heap.get? T=some o)
  (pt:IsPair s.heap TI (.ref i1) (.ref i2)) (j1:s.heap.IsListIter i1 l1 k1) (j2:s.heap.IsListIter i2 l2 k2) (m1:s.heap.IsList l1 us) (m2:s.heap.IsList l2 ws) (eu:us[k1]?=some u) (ev:ws[k2]?=some v)
  (hQ:∀h',CT h' z TI TO (rawInt T) (.bool true)->h'.IsListIter i1 l1 (k1+1)->h'.IsListIter i2 l2 (k2+1)->IsPair h' s.heap.objs.size u v->(∀c o,c≠z->c≠i1->c≠i2->s.heap.get? c=some o->h'.get? c=some o)->Q (.ref s.6) { s with heap:=h' }) :
  wpAny (model prog w) A (Builtin.«zip.__next__» #[[.ref z],[]]) (λfin s'=>∃v,fin=.done (.ret v)/\Q v s') E s:=by
 change wpAny _ _ (field (Value.ref z) 2 >>= _) _ _ s
 refine wpAny_bind (wpAny_field zr rfl (x:=.bool false) rfl ?_)
 change wpAny _ _ (field (Value.ref z) 3 >>= _) _ _ s
 refine wpAny_bind (wpAny_field zr rfl (x:=.ref TI) rfl (wpAny_bind (wpAny_seqItems pt rfl ?_)))
 change wpAny _ _ (Builtin.SmallTypes.ownedTupleIsFree (Value.ref z) >>= _) _ _ s
 refine wpAny_bind (BG zr al λg1 zr1 sb1=>?_);simp only[jR,if_false];refine wpAny_bind ?_;rw[<- Array.forIn_toList];simp only[Pe,Er];have j1':=j1.extBut sb1.extBut D.i1z;have m1':=m1.extBut sb1.extBut D.l1z;refine wpAny_bind (wpAny_bind (wpAny_holding ?_))
 change wpAny _ _ (Builtin.SmallTypes.nextOf (Value.ref i1) >>= _) _ _ _
 refine wpAny_bind (wpAny_nextOf_list_item j1' m1' eu λg2 j1a sb2=>wpAny_pure ?_);refine wpAny_pure ?_;have j2':=(j2.extBut sb1.extBut D.i2z).extBut sb2.extBut D.i12.symm;have m2':=(m2.extBut sb1.extBut D.l2z).extBut sb2.extBut D.l2i1;refine wpAny_bind (wpAny_bind (wpAny_holding ?_))
 change wpAny _ _ (Builtin.SmallTypes.nextOf (Value.ref i2) >>= _) _ _ _
 refine wpAny_bind (wpAny_nextOf_list_item j2' m2' ev λg3 j2a sb3=>wpAny_pure ?_);refine wpAny_pure (wpAny_pure ?_);refine wpAny_bind (wpAny_newTuple (hsz:=nK rfl) ?_);have sz:g3.objs.7=s.6:=by rw[sb3.1,sb2.1,sb1.1]
 have up:∀c o,c≠z->c≠i1->c≠i2->s.heap.get? c=some o->g3.get? c=some o:=λc o c1 c2 c3 e=>sb3.extBut _ _ c3 (sb2.extBut _ _ c2 (sb1.extBut _ _ c1 e))
 have zr3:CT g3 z TI TO (rawInt T) (.bool true):=sb3.extBut _ _ D.i2z.symm (sb2.extBut _ _ D.i1z.symm zr1);refine wpAny_pure #[_,rfl,?_]
 change Q (.ref g3.objs.7) { s with heap:=g3.push { cls:=.type "tuple",data:=.seq [u,v].toArray } }
 have last:=hQ (g3.push { cls:=.type "tuple",data:=.seq [u,v].toArray }) (Heap.get?_push_of_some _ zr3) ((j1a.extBut sb3.extBut D.i12).at λo e=>Heap.get?_push_of_some _ e) (j2a.at λo e=>Heap.get?_push_of_some _ e)
  (by rw[<- sz];exact Heap.get?_push_size _ rfl) λc o c1 c2 c3 e=>Heap.get?_push_of_some _ (up c o c1 c2 c3 e)
 rw[sz];exact last
theorem NQ {z TI TO T i1 i2 l1 l2:Addr} (hh:A.handled=none) (D:ZipApart z TI TO i1 i2 l1 l2) (zr:CT s.heap z TI TO (rawInt T) (.bool b1)) (al:s.heap.get? T=some o)
  (pt:IsPair s.heap TI (.ref i1) (.ref i2)) (j1:s.heap.IsListIter i1 l1 k1) (m1:s.heap.IsList l1 us) (eu:us[k1]?=none)
  (hE:∀h' e,(∀c o,c≠z->c≠i1->c≠i2->s.heap.get? c=some o->h'.get? c=some o)->(∃o,h'.get? e=some o/\o.cls=.type "StopIteration")->E (.ref e) { s with heap:=h' }) :
  wpAny (model prog w) A (Builtin.«zip.__next__» #[[.ref z],[]]) Q E s:=by
 change wpAny _ _ (field (Value.ref z) 2 >>= _) _ _ s
 refine wpAny_bind (wpAny_field zr rfl (x:=.bool false) rfl ?_)
 change wpAny _ _ (field (Value.ref z) 3 >>= _) _ _ s
 refine wpAny_bind (wpAny_field zr rfl (x:=.ref TI) rfl (wpAny_bind (wpAny_seqItems pt rfl ?_)))
 change wpAny _ _ (Builtin.SmallTypes.ownedTupleIsFree (Value.ref z) >>= _) _ _ s
 refine wpAny_bind (BG zr al λg1 zr1 sb1=>?_);simp only[jR,if_false];refine wpAny_bind ?_;rw[<- Array.forIn_toList];simp only[Pe,Er];refine wpAny_bind (wpAny_bind (wpAny_holding ?_))
 change wpAny _ _ (Builtin.SmallTypes.nextOf (Value.ref i1) >>= _) _ _ _
 exact wpAny_bind (wpAny_nextOf_list_end hh (j1.extBut sb1.extBut D.i1z) (m1.extBut sb1.extBut D.l1z) eu λg2 e xb he=>hE g2 e (λc o c1 c2 _ q=>xb _ _ c2 (sb1.extBut _ _ c1 q)) he)
theorem LK {z TI TO T i1 i2 l1 l2:Addr} (D:ZipApart z TI TO i1 i2 l1 l2) (zr:CT s.heap z TI TO (rawInt T) (.bool b1)) (al:s.heap.get? T=some o)
  (pt:IsPair s.heap TI (.ref i1) (.ref i2)) (j1:s.heap.IsListIter i1 l1 k1) (j2:s.heap.IsListIter i2 l2 k2) (m1:s.heap.IsList l1 us) (m2:s.heap.IsList l2 ws) (eu:us[k1]?=some u) (ev:ws[k2]?=some v)
  (hQ:∀h',CT h' z TI TO (rawInt T) (.bool true)->h'.IsListIter i1 l1 (k1+1)->h'.IsListIter i2 l2 (k2+1)->IsPair h' s.heap.objs.size u v->(∀c o,c≠z->c≠i1->c≠i2->s.heap.get? c=some o->h'.get? c=some o)->Q (some (.ref s.6)) { s with heap:=h' }) :
  wpAny (model prog w) A (pyNext (.ref z)) Q E s:=by
 have ty:s.TypeIs (.ref z) "zip":=#[_,zr,rfl];unfold pyNext;refine wpAny_bind (wpAny_attempt (wpAny_callSpecial?_slot (name:=Str.ofString "__next__") ty rz (wpAny_call_entry rz ty PySem.F.entry_zip_next ?_ (VR _))));exact LM D zr al pt j1 j2 m1 m2 eu ev λh' a1 a2 a3 a4 a5=>wpAny_pure (hQ h' a1 a2 a3 a4 a5)
theorem LJ {z TI TO T i1 i2 l1 l2:Addr} (hh:A.handled=none) (D:ZipApart z TI TO i1 i2 l1 l2) (zr:CT s.heap z TI TO (rawInt T) (.bool b1)) (al:s.heap.get? T=some o)
  (pt:IsPair s.heap TI (.ref i1) (.ref i2)) (j1:s.heap.IsListIter i1 l1 k1) (m1:s.heap.IsList l1 us) (eu:us[k1]?=none)
  (hQ:∀h',(∀c o,c≠z->c≠i1->c≠i2->s.heap.get? c=some o->h'.get? c=some o)->Q none { s with heap:=h' }):wpAny (model prog w) A (pyNext (.ref z)) Q E s:=by
 have ty:s.TypeIs (.ref z) "zip":=#[_,zr,rfl];unfold pyNext;refine wpAny_bind (wpAny_attempt (wpAny_callSpecial?_slot (name:=Str.ofString "__next__") ty rz (wpAny_call_entry rz ty PySem.F.entry_zip_next ?_ (VR _))));refine NQ hh D zr al pt j1 m1 eu λh' e kk #[oe,he,hc]=>?_
 exact wpAny_bind (wpAny_isInstance (T:="StopIteration") (b:=true) #[oe,he,hc] isSubtype_stop (wpAny_pure (hQ _ kk)))
end
section
variable {X:Cx} {pins:List (Addr×Obj)} {σ:St} {H:Hp} {s:Shared}
theorem Inv.moved {ch:List Addr} (I:Inv X pins σ H s) (fx:∀b∈ch,lZ X pins H b) (up:∀b o,b∉ch->s.heap.get? b=some o->h'.get? b=some o) (hg:AllBare g') :
  Inv X pins σ H { s with heap:=h',gens:=g',drawn:=d',toks:=t' }:=by
 have nx:∀b o,H b=some o->b∉ch:=λb o e hb=>by have:=(fx b hb).1;rw[this] at e;cases e
 refine I.step (ch:=ch) (λb hb=>?_) (λb o _ _ hb e _=>up b o hb e) (λb o _ _ hb e _=>#[o.slots,up b o hb e]) (λb o hb e n=>n) (λb o hb e=>#[o,up b o hb e]) (λb q e=>e) (λb o q e=>e) (λb q e=>#[[].toArray,by rw[e];simp]) (λm hm=>?_) (λb o e=>?_) hg
 ·obtain _|f1|_|f3|f4|f5:=fx b hb;exact #[f3,f1,f4,f5]
 ·obtain o|es|ep|ho|r:=hm;exact #[o,es,ep,up _ o (λz=>(fx _ z).2.1 rfl) ho,r]
 ·refine (I.hok b o e).stay (λc v' hc q=>up c v' ?_ q) (λc q=>q) λc xs q=>q
  rcases hc with rfl | hc
  ·exact nx _ _ e
  ·exact nx _ _ hc
theorem Inv.track (I:Inv X pins σ H s) (fp:lZ X pins H p) (new:jL X.prog X.w (upd H p o) s.heap p o):Inv X pins σ (upd H p o) s:=by
 have nt:∀{b:Addr} {u:HO},H b=some u->b≠p:=λe z=>by rw[z,fp.1] at e;cases e
 refine I.step (h':=s.8) (g':=s.gens) (d':=s.drawn) (t':=s.toks) (ch:=[p]) (λb hb=>?_) (λb o _ _ _ e _=>e) (λb o _ _ _ e _=>#[o.slots,e]) (λb o hb e n=>?_) (λb o _ e=>#[o,e]) (λb q e=>by rw[a7 (nt e)];exact e) (λb o q e=>by rw[a7 (nt e)];exact e)
  (λb q e=>#[[].toArray,by rw[a7 (nt e),e];simp]) (λm hm=>hm) (λb u e=>?_) I.bare
 ·have e:b=p:=by simpa using hb
  subst e;obtain _|f1|_|f3|f4|f5:=fp;exact #[f3,f1,f4,f5]
 ·rw[a7 λz=>hb (by simp [z])];exact n
 ·by_cases hb:b=p
  ·subst hb;rw[aK] at e;cases e;exact new
  ·rw[a7 hb] at e;exact (I.hok b u e).stay (λc v _ q=>q) (λc q=>by rw[a7 (nt q)];exact q) λc xs q=>by rw[a7 (nt q)];exact q
end
def Sh (H:Hp) (p:V×V) (x:V):Prop:=∃T,x=.ref T/\H T=some (.tup [p.1,p.2])
theorem Sh.same (h:Sh H p x) (e:aA H H'):Sh H' p x:=by obtain T|q|g:=h;exact #[T,q,e _ _ g]
def Zst (h:Heap) (z TI TO:Addr) (base:Nat):Prop:=(∃a b,IsPair h TO a b)/\(IsZip h z TI TO .none\/∃(T:Addr) (b1:Bool) (o:Obj),CT h z TI TO (rawInt T) (.bool b1)/\h.get? T=some o/\@LE.le Nat instLENat base T)
theorem Es {z TI TO i1 i2 l1 l2:Addr} (hz:CT h z TI TO f0 f1) (hTI:IsPair h TI (.ref i1) (.ref i2)) (hTO:IsPair h TO a b) (h1:h.IsListIter i1 l1 k1) (h2:h.IsListIter i2 l2 k2) (hl1:h.IsList l1 xs) (hl2:h.IsList l2 ys) (hT:TI≠TO) (hi:i1≠i2):ZipApart z TI TO i1 i2 l1 l2:=by
 obtain o1|g1|c1|_:=h1;obtain o2|g2|c2|_:=h2;obtain p1|q1|d1|_:=hl1;obtain p2|q2|d2|_:=hl2;have zt:Value.type "zip"≠.type "tuple":=nH ();have it:Value.type "list_iterator"≠.type "tuple":=nH ();have iz:Value.type "list_iterator"≠.type "zip":=nH ();have lz:Value.type "list"≠.type "zip":=nH ();have lt:Value.type "list"≠.type "tuple":=nH ();have li:Value.type "list"≠.type "list_iterator":=nH ()
 exact #[dR hTI hz zt.symm,dR hTO hz zt.symm,dR g1 hz (by rw[c1];exact iz),dR g2 hz (by rw[c2];exact iz),hT,dR hTI g1 (by rw[c1];exact it.symm),dR hTI g2 (by rw[c2];exact it.symm),dR hTO g1 (by rw[c1];exact it.symm),dR hTO g2 (by rw[c2];exact it.symm),hi,
  dR q1 hz (by rw[d1];exact lz),dR q1 hTO (by rw[d1];exact lt),dR q1 g1 (by rw[d1,c1];exact li),dR q1 g2 (by rw[d1,c2];exact li),dR q2 hz (by rw[d2];exact lz),dR q2 hTO (by rw[d2];exact lt),dR q2 g1 (by rw[d2,c1];exact li),dR q2 g2 (by rw[d2,c2];exact li)]
section
variable {X:Cx} {pins:List (Addr×Obj)} {σ:St}
theorem lZ.heap (f:lZ X pins H b) (e:H' b=none):lZ X pins H' b:=#[e,f.2]
structure FP where
 z:Addr
 TI:Addr
 TO:Addr
 i1:Addr
 i2:Addr
 S:Addr
 base:Nat
def FP.all (a:FP):List Addr:=[a.z,a.TI,a.TO,a.i1,a.i2,a.S]
structure FP.Ok (a:FP):Prop where
 tt:a.TI≠a.TO
 ii:a.i1≠a.i2
 Sz:a.S≠a.z
 STI:a.S≠a.TI
 STO:a.S≠a.TO
 Si1:a.S≠a.i1
 Si2:a.S≠a.i2
 lt:∀b∈a.all,@LT.lt Nat instLTNat b a.base
structure Rb (X:Cx) (pins:List (Addr×Obj)) (σ:St) (H1:Hp) (a:FP) (l1 l2:Addr) (i:Nat) (H:Hp) (s:Shared):Prop where
 inv:Inv X pins σ H s
 same:aA H1 H
 fps:∀b∈a.all,lZ X pins H b
 sz:a.base<=s.heap.objs.size
 zst:Zst s.heap a.z a.TI a.TO a.base
 pt:IsPair s.heap a.TI (.ref a.i1) (.ref a.i2)
 j1:s.heap.IsListIter a.i1 l1 i
 j2:s.heap.IsListIter a.i2 l2 i
variable {a:FP} {l1 l2:Addr} {H1 H:Hp} {s:Shared} {i:Nat} {xs ys:List V}
theorem Rb.push (L:Rb X pins σ H1 a l1 l2 i H s) (O:a.Ok) (k:∀b o,b≠a.S->s.heap.get? b=some o->h'.get? b=some o) (hz:h'.objs.7=s.6):Rb X pins σ H1 a l1 l2 i H { s with heap:=h' }:=by
 refine #[L.inv.moved (g':=s.gens) (d':=s.drawn) (t':=s.toks) (ch:=[a.S]) (λb hb=>?_) (λb o hb e=>k b o (λz=>hb (by simp [z])) e) L.inv.bare,L.same,L.fps,by show a.base<=h'.objs.7;rw[hz];exact L.sz,?_,k _ _ O.STI.symm L.pt,L.j1.at λo e=>k _ o O.Si1.symm e,L.j2.at λo e=>k _ o O.Si2.symm e]
 ·have e:b=a.S:=by simpa using hb
  rw[e];exact L.fps _ (by simp [FP.all])
 ·obtain ⟨c,d,z0⟩|z4:=L.zst;refine #[#[c,d,k _ _ O.STO.symm z0],?_];rcases z4 with z1 | ⟨T,b1,o,z1,z2,z3⟩
  ·exact .inl (k _ _ O.Sz.symm z1)
  ·refine .inr #[T,b1,o,k _ _ O.Sz.symm z1,k _ _ (λe=>?_) z2,z3];have:=O.lt a.S (by simp [FP.all]);rw[<- e] at this;exact absurd this (Nat.not_lt.mpr z3)
theorem Mz (O:a.Ok) (q1:bJ X.K H1 l1 xs) (q2:bJ X.K H1 l2 ys) (ex:xs[i]?=some x) (ey:ys[i]?=some y) (L:Rb X pins σ H1 a l1 l2 i H s)
  (hQ:∀s',Rb X pins σ H1 a l1 l2 (i+1) (upd H s.heap.objs.size (.tup [x,y])) s'->(∀c o,c∉[a.z,a.TO,a.i1,a.i2]->s.heap.get? c=some o->s'.heap.get? c=some o)->H s.6=none->Q (some (.ref s.6)) s'):wpAny (model X.prog X.w) A' (pyNext (.ref a.z)) Q E s:=by
 obtain I|sm|fps|sz|zst|pt|j1|j2:=id L;obtain us|ru|pu|_:=I.list (sm.seq q1);obtain ws|rw'|pw|_:=I.list (sm.seq q2);obtain u|eu|r1:=ru.get ex;obtain v|ev|r2:=rw'.get ey;have fx:∀b∈[a.z,a.TO,a.i1,a.i2],lZ X pins H b:=λb hb=>fps b (by simp only[FP.all,aI,aT,or_false] at hb ⊢;rcases hb with e | e | e | e <;> simp [e])
 have hT0:H s.6=none:=I.hok.fresh (ar _);have fT:lZ X pins H s.6:=I.fpOk (ar _) hT0;have lt:∀b∈a.all,b≠s.6:=λb hb e=>by have:=O.lt b hb;rw[e] at this;exact absurd this (Nat.not_lt.mpr sz)
 have fin:∀h',(∀c o,c∉[a.z,a.TO,a.i1,a.i2]->s.heap.get? c=some o->h'.get? c=some o)->IsPair h' s.heap.objs.size u v->IsPair h' a.TI (.ref a.i1) (.ref a.i2)->h'.IsListIter a.i1 l1 (i+1)->h'.IsListIter a.i2 l2 (i+1)->Zst h' a.z a.TI a.TO a.base →
   Q (some (.ref s.6)) { s with heap:=h' }:=λh' up pr pt' j1' j2' zst'=>by
  have I2:Inv X pins σ H { s with heap:=h' }:=I.moved (g':=s.gens) (d':=s.drawn) (t':=s.toks) fx up I.bare;have I3:Inv X pins σ (upd H s.heap.objs.size (.tup [x,y])) { s with heap:=h' }:=I2.track fT ⟨nK rfl,[u,v],.cons r1 (.cons r2 .nil),⟨_,pr,rfl,_,rfl⟩⟩;refine hQ _ #[I3,sm.trans (aA.new hT0),λb hb=>(fps b hb).heap (by rw[a7 (lt b hb)];exact (fps b hb).1),?_,zst',pt',j1',j2'] up hT0;exact aj sz (aL (Heap.lt_size pr))
 obtain ⟨c,d,z0⟩|z4:=zst;rcases z4 with z1 | ⟨T,b1,o,z1,z2,z3⟩
 ·have D:=Es z1 pt z0 j1 j2 pu.isList pw.isList O.tt O.ii;refine wpAny_pyNext_zip_item D z1 pt z0 j1 j2 pu.isList pw.isList (x:=u) (y:=v) (by simpa using eu) (by simpa using ev) λh' a1 a2 a3 a4 a5 a6 hk=>?_
  have up:∀c o,c∉[a.z,a.TO,a.i1,a.i2]->s.heap.get? c=some o->h'.get? c=some o:=λc o hc e=>by
   simp only[aI,aT,or_false,not_or] at hc;exact hk c o hc.1 hc.2.1 hc.2.2.1 hc.2.2.2 e
  exact fin h' up a5 (hk _ _ D.TIz D.TITO D.TIi1 D.TIi2 pt) a3 a4 #[#[_,_,a2],.inr #[s.6,false,_,a1,a5,sz]]
 ·have D:=Es z1 pt z0 j1 j2 pu.isList pw.isList O.tt O.ii;refine LK D z1 z2 pt j1 j2 pu.isList pw.isList (u:=u) (v:=v) (by simpa using eu) (by simpa using ev) λh' a1 a3 a4 a5 hk=>?_
  have up:∀c o,c∉[a.z,a.TO,a.i1,a.i2]->s.heap.get? c=some o->h'.get? c=some o:=λc o hc e=>by
   simp only[aI,aT,or_false,not_or] at hc;exact hk c o hc.1 hc.2.2.1 hc.2.2.2 e
  have Tn:∀b∈a.all,T≠b:=λb hb e=>by have:=O.lt b hb;rw[<- e] at this;exact absurd this (Nat.not_lt.mpr z3)
  exact fin h' up a5 (hk _ _ D.TIz D.TIi1 D.TIi2 pt) a3 a4 #[#[_,_,hk _ _ D.TOz D.TOi1 D.TOi2 z0],.inr #[T,true,o,a1,hk _ _ (Tn _ (by simp [FP.all])) (Tn _ (by simp [FP.all])) (Tn _ (by simp [FP.all])) z2,z3]]
theorem My (hh:A'.handled=none) (O:a.Ok) (q1:bJ X.K H1 l1 xs) (q2:bJ X.K H1 l2 ys) (hi:xs.9<=i) (L:Rb X pins σ H1 a l1 l2 i H s)
  (hQ:∀s',Inv X pins σ H s'->(∀c o,c∉[a.z,a.TO,a.i1,a.i2]->s.heap.get? c=some o->s'.heap.get? c=some o)->Q none s'):wpAny (model X.prog X.w) A' (pyNext (.ref a.z)) Q E s:=by
 obtain I|sm|fps|sz|zst|pt|j1|j2:=id L;obtain us|ru|pu|_:=I.list (sm.seq q1);obtain ws|rw'|pw|_:=I.list (sm.seq q2);have lx:=ru.9;have none1:us.5[i]?=none:=by simp;lia
 have fx:∀b∈[a.z,a.TO,a.i1,a.i2],lZ X pins H b:=λb hb=>fps b (by simp only[FP.all,aI,aT,or_false] at hb ⊢;rcases hb with e | e | e | e <;> simp [e])
 have fin:∀h',(∀c o,c∉[a.z,a.TO,a.i1,a.i2]->s.heap.get? c=some o->h'.get? c=some o)->Q none { s with heap:=h' }:=λh' up=>hQ _ (I.moved (g':=s.gens) (d':=s.drawn) (t':=s.toks) fx up I.bare) up
 obtain ⟨c,d,z0⟩|z4:=zst;rcases z4 with z1 | ⟨T,b1,o,z1,z2,z3⟩
 ·have D:=Es z1 pt z0 j1 j2 pu.isList pw.isList O.tt O.ii;refine wpAny_pyNext_zip_end hh D z1 pt z0 j1 j2 pu.isList pw.isList (.inl none1) λh' hk=>fin h' λc o hc e=>?_
  simp only[aI,aT,or_false,not_or] at hc;exact hk c o hc.1 hc.2.1 hc.2.2.1 hc.2.2.2 e
 ·have D:=Es z1 pt z0 j1 j2 pu.isList pw.isList O.tt O.ii;refine LJ hh D z1 z2 pt j1 pu.isList none1 λh' hk=>fin h' λc o hc e=>?_
  simp only[aI,aT,or_false,not_or] at hc;exact hk c o hc.1 hc.2.2.1 hc.2.2.2 e
theorem MC (hh:A'.handled=none) (O:a.Ok) (hz:xs.9<=sizeLine) (hl:ys.9=xs.9) (q1:bJ X.K H1 l1 xs) (q2:bJ X.K H1 l2 ys)
  (fin:∀s' H' ts acc c,Inv X pins σ H' s'->aA H1 H'->lZ X pins H' a.S->s'.heap.get? a.S=some (lobj acc c)->di ts acc->Paired (Sh H') (xs.zip ys) ts->R (.ok (.ret .none)) s') :
  ∀(k i:Nat) (s:Shared) (H:Hp) (ts:List V) (acc:List Value) (c:Nat),xs.9 - i=k->i<=xs.9->Rb X pins σ H1 a l1 l2 i H s->s.heap.get? a.S=some (lobj acc c)->di ts acc->Paired (Sh H) ((xs.zip ys).take i) ts →
   codeAny (model X.prog X.w) A' (.builtin "list.extend.loop" #[[.ref a.S,.ref a.z,.none],[]]) R s:=by
 have Sn:a.S∉[a.z,a.TO,a.i1,a.i2]:=λh=>by
  simp only[aI,aT,or_false] at h;rcases h with e | e | e | e
  ·exact O.Sz e
  ·exact O.STO e
  ·exact O.Si1 e
  ·exact O.Si2 e
 intro k
 induction k with
 | zero =>
  intro i s H ts acc c hk hi L gS rv prs;have e:i=xs.9:=()
  refine codeAny_builtin Uo ?_;rw[Around.under_plainId mP _]
  change wpAny _ A'.in1 (pyNext (Value.ref a.z) >>= _) _ _ s
  refine wpAny_bind (My hh O q1 q2 () L λs' I' up=>wpAny_pure (fin s' H ts acc c I' L.same (L.fps _ (by simp [FP.all])) (up _ _ Sn gS) rv ?_));rwa [aD (by rw[tN];lia)] at prs
 | succ k ih =>
  intro i s H ts acc c hk hi L gS rv prs;have hlt:i < xs.9:=()
  have lt:=prs.9;have la:=rv.9;refine codeAny_builtin Uo ?_;rw[Around.under_plainId mP _]
  change wpAny _ A'.in1 (pyNext (Value.ref a.z) >>= _) _ _ s
  refine wpAny_bind (Mz O q1 q2 (x:=xs[i]) (y:=ys[i]'()) (by simp [hlt]) (by simp) L λs' L' up hT=>?_);have gS':=up _ _ Sn gS
  change wpAny _ A'.in1 (updateSeq a.S (·.push (Value.ref s.6)) >>= _) _ _ s'
  have small:acc.9<=sizeLine:=by
   rw[dh,tN] at lt
   lia
  refine wpAny_bind (wpAny_updateSeq gS' rfl (wpAny_pure #[plainId_quiet mP _,?_]) (by rw[aW];exact small) (by
   show (acc.toArray.push (Value.ref s.6)).7<=sizeLine+1
   rw[Array.size_push,aW]
   lia))
  have gS2:=mD gS' (λb=>b.push (Value.ref s.6));have e2:(acc.toArray.push (Value.ref s.6))=(acc++[Value.ref s.6]).5:=by simp
  rw[e2] at gS2;refine ih (i+1) _ (upd H s.heap.objs.size (.tup [xs[i],ys[i]'()])) (ts++[.ref s.6]) (acc++[.ref s.6]) _ () hlt (L'.push O (λb o hb e=>(Heap.get?_update_other _ _ (Ne.symm hb)).trans e) (Heap.size_update ..)) gS2 (rv.append (show di [V.ref s.6] [Value.ref s.6] from .cons rfl .nil)) ?_;have zp:(xs.zip ys)[i]?=some (xs[i],ys[i]'()):=by simp [Uq,hlt]
  rw[take_snoc zp];exact (Paired.imp' (λ_ _ z=>z.same (aA.new hT)) prs).snoc #[_,rfl,aK]
theorem IB:typeLookup (.type "zip") "__len__"=pure Option.none:=by rw[typeLookup_type,builtinLookup_eq_fast];kernel_rfl
theorem F7:typeLookup (.type "zip") "__length_hint__"=pure Option.none:=by rw[typeLookup_type,builtinLookup_eq_fast];kernel_rfl
theorem MB (hh:A'.handled=none) (O:a.Ok) (hz:xs.9<=sizeLine) (hl:ys.9=xs.9) (q1:bJ X.K H1 l1 xs) (q2:bJ X.K H1 l2 ys) (L:Rb X pins σ H1 a l1 l2 0 H s) (gS:s.heap.get? a.S=some (lobj [] 0)) (z0:IsZip s.heap a.z a.TI a.TO .none)
  (fin:∀s' H' ts acc c,Inv X pins σ H' s'->aA H1 H'->lZ X pins H' a.S->s'.heap.get? a.S=some (lobj acc c)->di ts acc->Paired (Sh H') (xs.zip ys) ts->R (.ok (.ret .none)) s') :
  wpAny (model X.prog X.w) A'.in1 (Builtin.«list.__init__» #[[.ref a.S,.ref a.z],[]]) (λfl s'=>match fl with | .done f=>R (.ok f) s' | .again c'=>c'.quiet=true/\codeAny (model X.prog X.w) A' c' R s') (λe s'=>R (.error e) s') s:=by
 change wpAny _ A'.in1 (do let old <- Builtin.List.listItems (Value.ref a.S);Builtin.List.listUpdate (Value.ref a.S) (λ_=>[].toArray);letGo old.toList.reverse;Builtin.List.listExtendWith (Value.ref a.S) (Value.ref a.z) Value.none) _ _ s
 refine wpAny_bind ?_;unfold Builtin.List.listItems;refine wpAny_bind (wpAny_seqItems gS rfl (wpAny_pure ?_))
 change wpAny _ A'.in1 (updateSeq a.S (λ_=>[].toArray) >>= λ_=>letGo ([].toArray:Array Value).toList.reverse >>= λ_=>Builtin.List.listExtendWith (Value.ref a.S) (Value.ref a.z) Value.none) _ _ s
 refine wpAny_bind (wpAny_updateSeq gS rfl ?_);have g1:=mD gS (λ_=>([].toArray:Array Value));obtain ⟨n1,g1⟩:∃n1,(s.heap.update a.S (Obj.mapSeq λ_=>([].toArray:Array Value))).get? a.S=some (lobj [] n1):=#[_,g1];have L1:=L.push (h':=s.heap.update a.S (Obj.mapSeq λ_=>([].toArray:Array Value))) O (λb o hb e=>(Heap.get?_update_other _ _ (Ne.symm hb)).trans e) (Heap.size_update ..);have z1:IsZip (s.heap.update a.S (Obj.mapSeq λ_=>([].toArray:Array Value))) a.z a.TI a.TO .none:=(Heap.get?_update_other _ _ O.Sz).trans z0;refine wpAny_bind (wpAny_letGo ?_);unfold Builtin.List.listExtendWith;have ty:Shared.TypeIs { s with heap:=s.heap.update a.S (Obj.mapSeq λ_=>([].toArray:Array Value)) } (.ref a.z) "zip":=#[_,z1,rfl];refine wpAny_bind (wpAny_typeOf ty ?_);have h1:Builtin.List.listSameRef (.ref a.S) (.ref a.z)=false:=by simp [Builtin.List.listSameRef,O.Sz]
 have h2:(Value.type "zip" == Value.type "list")=false:=()
 have h3:(Value.type "zip" == Value.type "tuple")=false:=()
 simp only[h1,h2,h3,Bool.or_false,jR,if_false];refine wpAny_bind (wpAny_pyIter_zip z1 (wpAny_bind (wpAny_holding ?_)));unfold Builtin.List.listLengthHint;refine wpAny_bind (wpAny_specialOf ty IB ?_)
 change wpAny _ A'.in1 (specialOf (Value.ref a.z) (Str.ofString "__length_hint__") >>= _) _ _ _
 refine wpAny_bind (wpAny_specialOf ty F7 (wpAny_pure ?_))
 change wpAny _ A'.in1 (rule "list.extend.makes-room" >>= λ_=>Builtin.List.listTouch (Value.ref a.S) >>= λ_=>again (.builtin "list.extend.loop" #[[Value.ref a.S,Value.ref a.z,Value.none],[]])) _ _ _
 refine wpAny_bind (wpAny_rule (wpAny_bind ?_))
 change wpAny _ A'.in1 (updateSeq a.S (·.push Value.none) >>= λ_=>updateSeq a.S (·.pop)) _ _ _
 refine wpAny_bind (wpAny_updateSeq g1 rfl ?_);have g2:=mD g1 (λb=>b.push Value.none);obtain ⟨n2,g2⟩:∃n2,((s.heap.update a.S (Obj.mapSeq λ_=>([].toArray:Array Value))).update a.S (Obj.mapSeq λb=>b.push Value.none)).get? a.S=some (lobj [Value.none] n2):=#[_,g2];have L2:=L1.push (h':=(s.heap.update a.S (Obj.mapSeq λ_=>([].toArray:Array Value))).update a.S (Obj.mapSeq λb=>b.push Value.none)) O (λb o hb e=>(Heap.get?_update_other _ _ (Ne.symm hb)).trans e) (Heap.size_update ..);refine wpAny_updateSeq g2 rfl ?_ (nK rfl);have g3:=mD g2 (λb=>b.pop);have L3:=L2.push (h':=((s.heap.update a.S (Obj.mapSeq λ_=>([].toArray:Array Value))).update a.S (Obj.mapSeq λb=>b.push Value.none)).update a.S (Obj.mapSeq λb=>b.pop)) O (λb o hb e=>(Heap.get?_update_other _ _ (Ne.symm hb)).trans e) (Heap.size_update ..);exact wpAny_pure #[plainId_quiet mP _,MC hh O hz hl q1 q2 fin _ 0 _ H [] [] _ rfl (bW _) L3 g3 .nil .nil]
end
section
variable {X:Cx}
theorem Sr (n:Nat):FP.Ok #[n+4,n+2,n+3,n,n+1,n+5,n+5+1]:=by
 have ne:∀p q:Nat,p≠q->@Ne Addr p q:=λ_ _ h=>h
 refine #[ne (n+2) (n+3) (),ne n (n+1) (),ne (n+5) (n+4) (),ne (n+5) (n+2) (),ne (n+5) (n+3) (),ne (n+5) n (),ne (n+5) (n+1) (),λb hb=>?_];have hb':b∈[n+4,n+2,n+3,n,n+1,n+5]:=hb;show @LT.lt Nat instLTNat b (n+5+1)
 simp only[aI,aT,or_false] at hb';rcases hb' with e | e | e | e | e | e <;> (rw[e];exact bx (iG _) ())
def F8 (K:FG9) (ta:TA):TE:=λσ H Q=>ta σ H λvs H1=>∃(l1 l2:Addr) (xs ys:List V),vs=[.ref l1,.ref l2]/\bJ K H1 l1 xs/\bJ K H1 l2 ys/\ys.9=xs.9 /\
 ∀L ts H',aA H1 H'->H1 L=none->H' L=some (.lst ts)->Paired (Sh H') (xs.zip ys) ts->Q (.ref L) H'
theorem BC {e1 e2:Expr} {ta:TA} {p p2 pos pos2:Pos} (hg:Gl X "list") (hm:X.mg "list"=none) (hg2:Gl X "zip") (hm2:X.mg "zip"=none) (ha:PA X [e1,e2] ta) (hc:X.calm=true:=by rfl)
  (hs:starEach [e1,e2] X.env=[(false,eval e1 X.env),(false,eval e2 X.env)]:=by rfl) (hs2:starEach [e2] X.env=[(false,eval e2 X.env)]:=by rfl)
  (hs3:starEach [Expr.Call (.Name "zip" p2) [e1,e2] [] pos2] X.env=[(false,eval (.Call (.Name "zip" p2) [e1,e2] [] pos2) X.env)]:=by rfl) :
  PE X (.Call (.Name "list" p) [.Call (.Name "zip" p2) [e1,e2] [] pos2] [] pos) (F8 X.K ta):=by
 intro pins s σ H Q I h;refine wpAny_Call_Name_kw (pZ I hg hm boot_list ?_);refine PyProof.Rows.callWith_type1 ?_ (by rw[hs3];rfl) rfl;rw[hs3];show wpAny _ _ (spliced ((false,eval (.Call (.Name "zip" p2) [e1,e2] [] pos2) X.env) :: [])) _ _ s
 refine Calls.spliced_cons ?_;refine Call_ (pZ I hg2 hm2 boot_zip (PyProof.Rows.callWith_type1 (iX (ha pos2 pins s σ H _ I h) λus s1 #[vs,H1,I1,r1,q1]=>?_) (by rw[hs,hs2]) (by rw[hs2];rfl)));obtain l1|l2|xs|ys|e|qx|qy|hl|q:=q1;subst e;obtain u|v|rfl|ru|rv:=vals2 r1;cases ru;cases rv;obtain us|rx|px|hz:=I1.list qx;obtain ws|ry|py|_:=I1.list qy;refine call_zip_2 px.isList py.isList λh' a1 a2 a3 a4 a5 a6 hk=>?_
 refine Calls.spliced_nil ?_;have I2:Inv X pins σ H1 { s1 with heap:=h' }:=I1.kept (t':=s1.toks) hk;have up:∀b o,h'.get? b=some o->(h'.push { cls:=.type "list",data:=.seq [].toArray }).get? b=some o:=λb o e=>Heap.get?_push_of_some _ e
 have O:FP.Ok #[s1.6+4,s1.6+2,s1.6+3,s1.6,s1.6+1,h'.objs.7,h'.objs.7+1]:=by
  rw[a6];exact Sr s1.heap.objs.size
 have old:∀b∈(FP.mk (s1.6+4) (s1.6+2) (s1.6+3) s1.heap.objs.size (s1.6+1) h'.objs.size (h'.objs.7+1)).all,s1.6<=b:=λb hb=>by
  rw[a6] at hb;simp only[FP.all,aI,aT,or_false] at hb;rcases hb with rfl | rfl | rfl | rfl | rfl | rfl <;> first | exact Mw _ _ | exact ar _
 have gS:(h'.push { cls:=.type "list",data:=.seq [].toArray }).get? h'.objs.7=some (lobj [] 0):=Heap.get?_push_size _ rfl;refine callType_codes (Q₁:=λob t=>ob=.ref h'.objs.7/\t={ s1 with heap:=h'.push { cls:=.type "list",data:=.seq [].toArray } }) PySem.F.called_list (PySem.F.typeCall_list_1 _) PySem.F.entry_list_init (code_list_new _ ⟨rfl,rfl⟩) λob t ht=>?_
 obtain rfl|rfl:=ht;refine #[#[_,gS,rfl],PySem.F.args_list_init_2 _ _,?_]
 have L:Rb X pins σ H1 #[s1.6+4,s1.6+2,s1.6+3,s1.6,s1.6+1,h'.objs.7,h'.objs.7+1] l1 l2 0 H1 { s1 with heap:=h'.push { cls:=.type "list",data:=.seq [].toArray } } :=
  #[I2.kept (t':=s1.toks) up,aA.refl _,λb hb=>I1.fpOk (old b hb) (I1.hok.fresh (old b hb)),by rw[Heap.size_push];exact ar _,#[#[_,_,up _ _ a3],.inl (up _ _ a1)],up _ _ a2,a4.at λo e=>up _ o e,a5.at λo e=>up _ o e]
 refine MB (A':=X.A.in1) (I.ok.hd hc) O hz hl qx qy L gS (up _ _ a1) λs' H' ts acc c I' sm fS gS' vs' prs=>#[rfl,?_]
 have nS:H1 h'.objs.7=none:=I1.hok.fresh (old _ (by simp [FP.all]));have lt:=prs.9;rw[tN] at lt;exact #[.ref h'.objs.7,_,I'.track (o:=.lst ts) fS #[(),acc,c,vs',gS'],rfl,q _ ts _ (sm.trans (aA.new fS.1)) nS aK (Paired.imp' (λ_ _ z=>z.same (aA.new fS.1)) prs)]
end
end L2
namespace Nm
def yS:List Int->Int->Int
 | [],m=>m
 | b :: r,m=>yS r (m*(b / g m b))
theorem xM (hm:0 < m) (hb:0 < b):0 < m*(b / g m b):=fj hm (Fs (t:=m) hb)
theorem Fo:b∣m*(b / g m b):=by
 have h1:=BW m b;refine #[lo m b,?_];have h2:b / g m b*g m b=b:=yU m b
 calc m*(b / g m b)=lo m b*g m b*(b / g m b):=by rw[h1]
  _=lo m b*(b / g m b*g m b):=by rw[dZ,iC (g m b)]
  _=b*lo m b:=by rw[h2,iC]
theorem BY:∀{bs:List Int} {m:Int},0 < m->(∀b∈bs,0 < b)->0 < yS bs m
 | [],_,hm,_=>hm
 | b :: r,m,hm,h=>BY (bs:=r) (xM hm (h b dE)) λc hc=>h c (bR _ hc)
theorem Hu:∀{bs:List Int} {m:Int},m∣yS bs m
 | [],_=>K6 _
 | b :: r,m=>Ir (Int.dvd_mul_right m _) (Hu (bs:=r))
theorem Ht:∀{bs:List Int} {m b:Int},b∈bs->b∣yS bs m
 | c :: r,m,b,h=>by
  rcases aI.mp h with rfl | h
  ·exact Ir Fo (Hu (bs:=r))
  ·exact Ht (bs:=r) h
end Nm
namespace L2
open PySem PySem.Spec PyProof.Rows Nm
def FQ (K:FG9) (H:Hp) (p:Addr) (ns:List (Int×Int)):Prop:=∃xs,H p=some (.lst xs)/\Paired (λn x=>Ic K H x n) ns xs
theorem FQ.same {K:FG9} (h:FQ K H p ns) (e:aA H H'):FQ K H' p ns:=by obtain xs|g|q:=h;exact #[xs,e _ _ g,Paired.imp' (λ_ _ z=>e.num z) q]
def GV (K:FG9) (T:String):V->Hp->VK->Prop:=λx H Q=>Ly K T x H Q\/∃a xs b,x=.ref a/\nG K H a xs/\PySem.W.kitOne K (.type "tuple") (.type T)=some b/\Q (.bl b) H
theorem DR:∀{bs:List Int} {m b:Int},yS (bs++[b]) m=yS bs m*(b / g (yS bs m) b)
 | [],_,_=>rfl
 | c :: r,m,b=>DR (bs:=r)
def cp (ns:List (Int×Int)) (B:Int):List Int:=ns.map λn=>n.1*(B / n.2)
def cI (ns:List (Int×Int)):Int:=yS (ns.map (·.2)) 1
def Jw (ns ms:List (Int×Int)):Int:=(List.zipWith (λx y=>x*y) (cp ns (cI ns)) (cp ms (cI ms))).sum
theorem qT (h:n∈ns):n.2∣cI ns:=Ht (av.mpr #[n,h,rfl])
theorem IU {K:FG9} (h:ta σ H λvs H1=>∃(l1 l2:Addr) (xs ys:List V),vs=[.ref l1,.ref l2]/\bJ K H1 l1 xs/\bJ K H1 l2 ys/\ys.9=xs.9 /\
 ∀L ts H',aA H1 H'->H1 L=none->H' L=some (.lst ts)->Paired (Sh H') (xs.zip ys) ts->Q (.ref L) H'):F8 K ta σ H Q:=h
theorem Wg (hb:0 < b) (h:Sz k b):Sz k (g m b):=h.le (by
 have h1:(g m b).natAbs=Int.gcd m b:=by unfold g;simp
 rw[h1];exact ks () (by have:=fV (a:=m) (b:=b);exact gI.mpr this |> λz=>by simpa using z))
theorem JM {ts us:List Int} {i:Nat} (h:((ts.map V.int).zip (us.map V.int))[i]?=some pq):∃t u,ts[i]?=some t/\us[i]?=some u/\pq=(.int t,.int u):=by
 rw[Uq,ay,ay] at h;obtain h1|h2:=h;cases e1:ts[i]? with
 | none=>rw[e1] at h1;cases h1
 | some t =>
  cases e2:us[i]? with
  | none=>rw[e2] at h2;cases h2
  | some u =>
   rw[e1] at h1;rw[e2] at h2;refine #[t,u,rfl,rfl,?_];cases pq;simp at h1 h2;rw[h1,h2]
def Lp (K:FG9):Sp:=λvs H Q _=>∃x n,vs=[x]/\Ic K H x n/\Am n/\∀H',aA H H'->Q (.bl true) H'
inductive yz (K:FG9) (vs:List V) (H:Hp) (Q:VK) (E9:XK):Prop
 | mk (p:Addr) (ns:List (Int×Int)):vs=[.ref p,.int ns.9]->FQ K H p ns->ns.9<=1000->(∀n∈ns,Am n)->(∀H',aA H H'->Q (.bl true) H')->yz K vs H Q E9
theorem rR {X:Cx} {a:Expr} {ta:TE} {pos:Pos} {c:Str} {T:String} {p p2:Pos} (hg:Gl X "isinstance") (hm:X.mg "isinstance"=none) (hb:bootBuiltins c=some (.type T)) (hmc:X.mg c=none) (ha:PE X a ta) (hgc:Gl X c:=by rfl) (hn:c≠"__name__":=by decide)
  (hd:(c == ("__debug__":Str))=false:=by decide) (he:starEach [a,.Name c p2] X.env=[(false,eval a X.env),(false,eval (.Name c p2) X.env)]:=by rfl)
  (hpl:(backTo pos (starEach [.Name c p2] X.env)).any (·.1)=false:=by rfl) (he2:starEach [.Name c p2] X.env=[(false,eval (.Name c p2) X.env)]:=by rfl):PE X (.Call (.Name "isinstance" p) [a,.Name c p2] [] pos) (VT (GV X.K T) ta):=by
 intro pins s σ H Q I h;refine wpAny_Call_Name_kw (pZ I hg hm PyProof.Rows.boot_isinstance ?_);have hA:PA X [a,.Name c p2] (tT ta (tT (tC (.ty T)) Le)):=aa ha (aa (Kj hgc hmc hb rfl hn hd) ag he2) (by rw[he,he2])
 have hq:tT ta (tT (tC (.ty T)) Le) σ H (λvs H1=>∃x,vs=[x,.ty T]/\GV X.K T x H1 Q):=by
  show ta σ H λx H1=>∃x',[x,V.ty T]=[x',V.ty T]/\GV X.K T x' H1 Q
  have e:(λx H1=>∃x',[x,V.ty T]=[x',V.ty T]/\GV X.K T x' H1 Q)=λx H1=>GV X.K T x H1 Q:=by
   funext x H1;apply propext;constructor
   ·rintro ⟨x',e,q⟩;cases e;exact q
   ·intro q;exact #[x,rfl,q]
  rw[e];exact h
 refine PyProof.Rows.callWith_builtin1 (iX (hA pos pins s σ H _ I hq) λus s1 #[vs,H1,I1,r1,x,e,q1]=>?_) (by rw[he,he2]) hpl;subst e;obtain u|w'|rfl|ru|rt:=vals2 r1;cases rt;rcases q1 with ⟨t,bb,ty,ek,q⟩ | ⟨ad,xs,bb,rfl,hs,ek,q⟩
 ·exact DU I1 ru ty ek λtk=>#[.bl bb,H1,I1.tok tk,rfl,q]
 ·cases ru;obtain its|_|⟨o,g1,g2,_⟩|_:=I1.tuple hs;exact dY PySem.W.kitx_tuple I1.kIn #[o,g1,g2] ek (λz=>nomatch z) λtk=>#[.bl bb,H1,I1.tok tk,rfl,q]
theorem Ud (h1:Sz j x) (h2:Sz j y):Sz (j+1) (x+y):=by
 unfold Sz at *
 have:=yt x y;rw[jf]
 lia
theorem Ng (h:H l=some (.lst [x])) (hk:k<=1000) (q:∀p H',aA H H'->H p=none->H' p=some (.lst (List.replicate k x))->Q (.ref p) H'):Ve (.ref l) (.int k) H Q :=
 #[l,k,[x],rfl,rfl,h,(),(),aL (bD (by simp;lia)),λp hp=>q p _ (aA.new hp) hp (by rw[aK];simp)]
theorem TZ {k:Nat} (h:k<=xs.9):qP xs none (some (k:Int))=xs.take k:=by
 unfold qP;rw[HT.uy,HT.EU,Pc h];simp
theorem HQ {k:Nat}:qP xs (some (k:Int)) none=xs.drop k:=by
 unfold qP;rw[HT.uy,HT.EU];by_cases h:k<=xs.9
 ·rw[Pc h,aD (by simp)]
 ·rw[Nat.min_eq_right (),List.drop_of_length_le (),List.drop_of_length_le ()];simp
theorem wH {α β:Type} {F:α->β->Prop} {x:α} {y:β} (h:F x y):∀m:Nat,Paired F (List.replicate m x) (List.replicate m y)
 | 0=>.nil
 | m+1=>.cons h (wH h m)
theorem iu (h:a < n):Mq n (a:Int)=some a:=by
 unfold Mq;rw[if_pos (),if_pos (),Int.toNat_natCast]
theorem OE {k:Nat}:qP xs none (some (k:Int))=xs.take k:=by
 by_cases h:k<=xs.9
 ·exact TZ h
 ·unfold qP;rw[HT.uy,HT.EU,Nat.min_eq_right (),aD (by simp),aD ()];rfl
theorem uA {α β:Type} {F:α->β->Prop}:∀{l1:List α} {l2:List β} (_:Paired F l1 l2) (k:Nat),Paired F (l1.take k) (l2.take k)
 | _,_,.nil,k=>by simp;exact .nil
 | _,_,.cons h r,0=>.nil
 | _,_,.cons h r,k+1=>.cons h (uA r k)
theorem ML {j:Nat}:∀{l:List Int},(∀v∈l,Sz j v)->Sz (j+l.9) l.sum
 | [],_=>dG _
 | v :: r,h=>by
  rw[UA,bV];exact Ud (j:=j+r.9) ((h v (.head _)).mono ()) (ML λu hu=>h u (.tail _ hu))
def Qh (K:FG9):List V->Hp->VK->Prop:=λxs H Q=>∃p ys,xs=[.ref p]/\(bJ K H p ys\/nG K H p ys)/\∀l,H l=none->Q (.ref l) (upd H l (.lst ys))
theorem my (K:FG9) (hK:X.K=K):rn X (.type "list") (Qh K):=by subst hK;exact iS
theorem aA.none (s:aA H H') (h:H' l=Option.none):H l=Option.none:=by
 cases e:H l with
 | none=>rfl
 | some o=>have:=s _ _ e;rw[h] at this;cases this
def Sj (K:FG9) (H:Hp) (p:Addr) (rows:List (List (Int×Int))):Prop:=∃xs,H p=some (.lst xs)/\Paired (λns x=>∃q,x=V.ref q/\FQ K H q ns) rows xs
theorem II (h:b.natAbs<=1000000):Sz 20 b:=bO h ()
theorem cM.none (u:cM b H H') (B:iq H' b) (h:H' l=Option.none):H l=Option.none:=by
 cases e:H l with
 | none=>rfl
 | some o =>
  by_cases z:l=b
  ·obtain _|_|_|_|_|e2|_:=B;rw[<- z,h] at e2;cases e2
  ·have:=u.1 l o e z;rw[h] at this;cases this
inductive A7 (K:FG9) (vs:List V) (H:Hp) (Q:VK) (E9:XK):Prop
 | mk (p:Addr) (rows:List (List (Int×Int))) (m:Nat):vs=[.ref p,.int rows.9,.int m]->Sj K H p rows->rows.9<=1000->m<=1000->((∀ns∈rows,ns.9=m/\∀n∈ns,Am n))->(∀H',aA H H'->Q (.bl true) H')->A7 K vs H Q E9
end L2
namespace Nm
def nm (q:Rat):Int×Int:=(q.num,(q.den:Int))
theorem jH (q:Rat):0 < (nm q).2:=by have:=q.den_pos;show 0 < (q.den:Int);lia
theorem BR (q:Rat):Int.gcd (nm q).1 (nm q).2=1:=q.reduced
theorem Tq (h:nm p=nm q):p=q:=by
 have h1:p.num=q.num:=congrArg Prod.fst h;have h2:(p.den:Int)=q.den:=congrArg Prod.snd h;exact Rat.ext h1 ()
theorem m9 (q:Rat):(q.num:Rat)=q*(q.den:Rat):=by
 have h:=Rat.num_divInt_den q;rw[Rat.divInt_eq_div] at h
 have hd:((q.den:Int):Rat)≠0:=by
  intro z;have z:=Ap.mp z;have:=q.den_pos
  lia
 have e:((q.den:Int):Rat)=(q.den:Rat):=bL _
 calc (q.num:Rat)=(q.num:Rat) / ((q.den:Int):Rat)*((q.den:Int):Rat):=(iL hd).symm
  _=q*(q.den:Rat):=by rw[h,e]
theorem RF (hb:0 < b) (hg:Int.gcd a b=1) (e:q*(b:Rat)=(a:Rat)):(a,b)=nm q:=by
 have h1:a*(q.den:Int)=q.num*b:=by
  apply eP.mp;rw[aO,aO,<- e,m9,bL];grind
 obtain e1|e2:=uniq hb (jH q) hg (BR q) h1;exact Prod.ext e1 e2
theorem xK {t b:Int} (hb:0 < b) (e:q*(b:Rat)=(t:Rat)):(lo t b,hi t b)=nm q:=by
 refine RF (Fs hb) (BU ()) ?_;have h:=BV t b;have hb':(b:Rat)≠0:=λz=>by have:=Ap.mp z;lia
 have h2:((lo t b:Int):Rat)*(b:Rat)=(t:Rat)*((hi t b:Int):Rat):=by rw[<- aO,h,aO]
 rw[<- e] at h2;have h3:(q*((hi t b:Int):Rat) - ((lo t b:Int):Rat))*(b:Rat)=0:=by grind
 rcases CY.mp h3 with h4 | h4
 ·grind
 ·exact absurd h4 hb'
def Fr (M V:Nat) (q:Rat):Prop:=∃z:Int,q*(M:Rat)=(z:Rat)/\z.natAbs<=V*M
theorem Fr.mono (h:Fr M V q) (l:V<=V'):Fr M V' q:=by obtain z|e|b:=h;exact #[z,e,aj b (aE _ l)]
theorem Fr.scale (h:Fr M V q) (k:Nat):Fr (M*k) V q:=by
 obtain z|e|b:=h;refine #[z*k,?_,?_]
 ·rw[cJ,aO,<- e,bL,dX]
 ·rw[fU,jP,<- dM];exact aE _ b
theorem Fr.scaleL (h:Fr M V q) (k:Nat):Fr (k*M) V q:=by rw[d5];exact h.scale k
theorem Fr.dvd (h:Fr M V q) (d:M∣N):Fr N V q:=by obtain k|rfl:=d;exact h.scale k
theorem Fr.add (h:Fr M V p) (h':Fr M W q):Fr M (V+W) (p+q):=by
 obtain z|e|b:=h;obtain z'|e'|b':=h';refine #[z+z',by rw[kq,<- e,<- e',Rat.add_mul],?_];rw[OY];have:=yt z z'
 lia
theorem Fr.neg (h:Fr M V q):Fr M V (-q):=by
 obtain z|e|b:=h;exact #[-z,by rw[iZ,<- e,OV],by rw[pj];exact b]
theorem Fr.sub (h:Fr M V p) (h':Fr M W q):Fr M (V+W) (p - q):=by rw[Rat.sub_eq_add_neg];exact h.add h'.neg
theorem Fr.mul (h:Fr M V p) (h':Fr N W q):Fr (M*N) (V*W) (p*q):=by
 obtain z|e|b:=h;obtain z'|e'|b':=h';refine #[z*z',?_,?_]
 ·rw[cJ,aO,<- e,<- e'];grind
 ·rw[fU]
  calc z.natAbs*z'.natAbs<=(V*M)*(W*N):=aH b b'
   _=V*W*(M*N):=by rw[dM,Nat.mul_left_comm M,<- dM]
theorem Fr.zero:Fr M V 0:=#[0,by simp,by simp]
theorem Fr.int {i:Int} (h:i.natAbs<=V):Fr M V (i:Rat):=#[i*M,by rw[aO,bL],by rw[fU,jP];exact aE _ h]
theorem Fr.den (h:Fr M V q):(q.den:Int)∣(M:Int):=by
 obtain z|e|b:=h
 have h1:q.num*(M:Int)=z*(q.den:Int):=by
  apply eP.mp;rw[aO,aO,<- e,m9,bL,bL];grind
 have h2:(q.den:Int)∣q.num*(M:Int):=#[z,by rw[h1,iC]];exact sR (by rw[mG];exact BR q) h2
theorem Fr.den_le (h:Fr M V q) (hM:0 < M):q.den<=M:=ks hM (Ar.mp h.den)
theorem Fr.num_le (h:Fr M V q) (hM:0 < M):q.num.natAbs<=V*M:=by
 have hd:=h.den;obtain z|e|b:=h;obtain k|hk:=Ar.mp hd;have hk0:k≠0:=λz=>by rw[z,K1] at hk;lia
 have h1:z=q.num*(k:Int):=by
  apply eP.mp;rw[aO,<- e,m9,bL,hk,cJ];grind
 rw[h1] at b;exact aj (pS ()) b
theorem Fr.own (q:Rat) (h:q.num.natAbs<=V):Fr q.den V q:=#[q.num,(m9 q).symm,aj h (de _ q.den_pos)]
theorem Fr.sz (h:Fr M V q) (hM:0 < M) (h1:M<=2^k) (h2:V<=2^j):Sz (j+k+1) (nm q).1/\Sz (k+1) (nm q).2:=by
 constructor
 ·show q.num.natAbs < 2^(j+k+1)
  have h3:=h.num_le hM;have h4:V*M<=2^j*2^k:=aH h2 h1;rw[jf,aJ];have:=dG (j+k);rw[aJ] at this
  lia
 ·show (q.den:Int).natAbs < 2^(k+1)
  have h3:=h.den_le hM;rw[jP,jf];have:=dG k
  lia
theorem Fr.sum {M V:Nat}:∀{l:List Rat},(∀x∈l,Fr M V x)->Fr M (l.9*V) l.sum
 | [],_=>by simp;exact Fr.zero
 | x :: r,h=>by
  rw[UA,bV,dP,pe];exact (h x (.head _)).add (Fr.sum λy hy=>h y (.tail _ hy))
def d9 (xs ys:List Rat):Rat:=(List.zipWith (λx y=>x*y) xs ys).sum
theorem Fr.dot (h:∀x∈xs,Fr M V x) (h':∀y∈ys,Fr N W y):Fr (M*N) (xs.9*(V*W)) (d9 xs ys):=by
 have q:=Fr.sum (M:=M*N) (V:=V*W) (l:=List.zipWith (λx y=>x*y) xs ys) λz hz=>by
  obtain i|hi|e:=bX hz;rw[gX] at e;rw[<- e];exact (h _ (bo _)).mul (h' _ (bo _))
 exact q.mono (aE _ (by rw[bM];lia))
theorem AG:∀{bs:List Int} {m M:Int},0 < m->m∣M->(∀b∈bs,0 < b/\b∣M)->yS bs m∣M
 | [],_,_,_,h,_=>h
 | b :: r,m,M,hm,h,hb=>by
  have b1:=hb b dE;refine AG (bs:=r) (xM hm b1.1) ?_ λc hc=>hb c (bR _ hc)
  have gp:0 < g m b:=Cb ();have e1:=BW m b;have e2:=yU m b;obtain u|hu:=h;obtain v|hv:=b1.2
  have h3:lo m b*u=hi m b*v:=by
   apply wa (show g m b≠0 by lia)
   calc lo m b*u*g m b=lo m b*g m b*u:=by rw[dZ,iC u,<- dZ]
    _=m*u:=by rw[e1]
    _=M:=hu.symm
    _=b*v:=hv
    _=hi m b*g m b*v:=by rw[e2]
    _=hi m b*v*g m b:=by rw[dZ,iC (g m b),<- dZ]
  have h4:hi m b∣lo m b*u:=#[v,h3];have h5:hi m b∣u:=sR (by rw[mG];exact BU ()) h4;obtain w|hw:=h5;refine #[w,?_];show M=m*hi m b*w
  rw[hu,hw,dZ]
theorem FC (hb:0 < b) (d:a∣b) (h:Sz k b):Sz k a:=h.le (ks () (gI.mpr d))
end Nm
namespace Nm
def Dr (W:Nat) (x:Rat):Prop:=x.num.natAbs<=W/\x.den<=W
def xx:List Nat->Nat
 | []=>1
 | a :: r=>a*xx r
theorem yI:∀{l:List Nat},(∀a∈l,0 < a)->0 < xx l
 | [],_=>Nat.one_pos
 | a :: r,h=>aY (h a (.head _)) (yI λb hb=>h b (.tail _ hb))
theorem yJ:∀{l:List Nat} {a:Nat},a∈l->a∣xx l
 | b :: r,a,h=>by
  rcases aI.mp h with rfl | h
  ·exact K3 ..
  ·exact gR (yJ h) (bZ ..)
theorem BA {k:Nat}:∀{l:List Nat},(∀a∈l,a<=2^k)->xx l<=2^(k*l.9)
 | [],_=>by simp [xx]
 | a :: r,h=>by
  rw[bV,Nat.mul_succ,aJ,d5 (2^(k*r.9))];exact aH (h a (.head _)) (BA λb hb=>h b (.tail _ hb))
def GF (M V:Nat) (rows:LR9):Prop:=∀xs∈rows,∀x∈xs,Fr M V x
def Ul (c n i:Nat) (rows:LR9):Prop:=∃M,0 < M/\M<=2^(i*(c*n+2))/\GF M (2^(20+2*i)) rows
theorem TH:Ul c n 0 []:=#[1,(),by simp,λ_ h=>nomatch h]
theorem TJ (c n i:Nat):(i+1)*(c*n+2)=i*(c*n+2)+(c*n+2):=dP ..
theorem Qv (h:Ul c n i rows) (hl:xs.9=n) (hd:∀x∈xs,Dr (2^c) x) (hc:c<=20):Ul c n (i+1) (rows++[xs]):=by
 obtain M|h0|h1|h2:=h
 have dp:0 < xx (xs.map (·.den)):=yI λa ha=>by
  obtain x|_|rfl:=av.mp ha;exact x.den_pos
 have dl:xx (xs.map (·.den))<=2^(c*n):=by
  have:=BA (k:=c) (l:=xs.map (·.den)) λa ha=>by
   obtain x|hx|rfl:=av.mp ha;exact (hd x hx).2
  rwa [af,hl] at this
 refine #[M*xx (xs.map (·.den)),aY h0 dp,?_,λys hy x hx=>?_]
 ·rw[TJ,aJ];exact aH h1 (aj dl (aF () ()))
 ·rcases aw.mp hy with hy | hy
  ·exact ((h2 ys hy x hx).scale _).mono (aF () ())
  ·have e:ys=xs:=by simpa using hy
   subst e;have f:Fr x.den (2^c) x:=Fr.own x (hd x hx).1;have g:=(f.dvd (yJ (av.mpr #[x,hx,rfl]))).scaleL M;exact g.mono (aF () ())
def kx (rows:LR9) (w:Nat):LR9:=(List.range w).map λj=>rows.map λxs=>xs.getD j 0
theorem j5:(kx rows w).9=w:=by simp [kx]
theorem qA:∀ys∈kx rows w,ys.9=rows.9:=λys hy=>by
 obtain j|_|rfl:=av.mp hy;exact af ..
theorem getD_map {α:Type} {l:List α} {f:α->Rat} (h:i < l.9):(l.map f).getD i 0=f l[i]:=by
 rw[ae,ay,ai h];rfl
end Nm
namespace L2
open PySem PySem.Spec PyProof.Rows Nm
theorem cM.sqt {K:FG9} (u:cM b H H') (B:iq H b) (h:nG K H a xs):nG K H' a xs:=by
 rcases h with (h | ⟨o,h⟩) | h
 ·exact .inl (.inl (u.tup B h))
 ·exact .inl (.inr #[o,u.other (λz=>by obtain _|_|_|_|_|e|_:=B;rw[z,e] at h;cases h) h])
 ·exact .inr h
theorem MS {K:FG9} (h:nG K H a xs) (hl:H l=some (.lst ys)):nG K (upd H l o) a xs:=by
 rcases h with (h | ⟨o,h⟩) | h
 ·exact .inl (.inl (by rw[a7 λz=>by rw[z,hl] at h;cases h];exact h))
 ·exact .inl (.inr #[o,by rw[a7 λz=>by rw[z,hl] at h;cases h];exact h])
 ·exact .inr h
def bS (K:FG9) (H:Hp) (q:Rat) (x:V):Prop:=Ic K H x (nm q)
section
variable {K:FG9} {H H':Hp} {q:Rat} {x:V} {b l p:Addr} {qs:List Rat}
theorem bS.same (h:bS K H q x) (e:aA H H'):bS K H' q x:=e.num h
theorem bS.upto (h:bS K H q x) (u:cM b H H') (B:iq H b):bS K H' q x:=by obtain p|e|s:=h;exact #[p,e,u.sqt B s]
theorem bS.updL (h:bS K H q x) (hl:H l=some (.lst ys)):bS K (upd H l o) q x:=by obtain p|e|s:=h;exact #[p,e,MS s hl]
theorem bS.mk (h:H r=some (.tup [.int a,.int c])) (e:(a,c)=nm q):bS K H q (.ref r):=#[r,rfl,by rw[<- e];exact nG.of h]
def cu (K:FG9) (H:Hp) (p:Addr) (qs:List Rat):Prop:=∃xs,H p=some (.lst xs)/\Paired (bS K H) qs xs
theorem cu.same (h:cu K H p qs) (e:aA H H'):cu K H' p qs:=by obtain xs|g|r:=h;exact #[xs,e _ _ g,Paired.imp' (λ_ _ z=>z.same e) r]
theorem cu.upto (h:cu K H p qs) (u:cM b H H') (B:iq H b) (n:p≠b):cu K H' p qs:=by obtain xs|g|r:=h;exact #[xs,u.other n g,Paired.imp' (λ_ _ z=>z.upto u B) r]
theorem cu.updL (h:cu K H p qs) (hl:H l=some (.lst ys)) (n:p≠l):cu K (upd H l o) p qs:=by obtain xs|g|r:=h;exact #[xs,by rw[a7 n];exact g,Paired.imp' (λ_ _ z=>z.updL hl) r]
theorem uB {α β γ:Type} {F:α->β->Prop} {f:γ->α}:∀{l:List γ} {l2:List β},Paired (λc x=>F (f c) x) l l2->Paired F (l.map f) l2
 | _,_,.nil=>.nil
 | _,_,.cons r t=>.cons r (uB t)
theorem cu.rowK (h:cu K H p qs):FQ K H p (qs.map nm):=by obtain xs|g|r:=h;exact #[xs,g,uB (F:=λn x=>Ic K H x n) r]
def dF (K:FG9) (H0 H:Hp) (qs:List Rat) (x:V):Prop:=∃q,x=V.ref q/\H0 q=none/\cu K H q qs
def bQ (K:FG9) (H0 H:Hp) (p:Addr) (rows:LR9):Prop:=∃xs,H p=some (.lst xs)/\Paired (dF K H0 H) rows xs/\V.ref p∉xs
theorem oO {rows:LR9} (h:∃H2,H2 p=none/\Paired (dF K H0 H2) rows ys):V.ref p∉ys:=λhm=>by
 obtain H2|e|pr:=h;obtain qs|_|q|z|_|xs|g|_:=dN pr hm;cases z;rw[e] at g;cases g
variable {H0:Hp} {rows:LR9}
theorem dF.same (h:dF K H0 H qs x) (e:aA H H'):dF K H0 H' qs x:=by obtain q|a|b|c:=h;exact #[q,a,b,c.same e]
theorem dF.upto (h:dF K H0 H qs x) (u:cM b H H') (B:iq H b) (nb:H0 b≠none):dF K H0 H' qs x:=by obtain q|a|c|d:=h;exact #[q,a,c,d.upto u B λz=>nb (by rw[<- z];exact c)]
theorem dF.weak (h:dF K H0 H qs x) (e:aA H1 H0):dF K H1 H qs x:=by obtain q|a|b|c:=h;exact #[q,a,e.none b,c]
theorem bQ.same (h:bQ K H0 H p rows) (e:aA H H'):bQ K H0 H' p rows:=by obtain xs|g|r|n:=h;exact #[xs,e _ _ g,Paired.imp' (λ_ _ z=>z.same e) r,n]
theorem bQ.upto (h:bQ K H0 H p rows) (u:cM b H H') (B:iq H b) (n:p≠b) (nb:H0 b≠none):bQ K H0 H' p rows:=by obtain xs|g|r|nn:=h;exact #[xs,u.other n g,Paired.imp' (λ_ _ z=>z.upto u B nb) r,nn]
theorem bQ.weak (h:bQ K H0 H p rows) (e:aA H1 H0):bQ K H1 H p rows:=by obtain xs|g|r|n:=h;exact #[xs,g,Paired.imp' (λ_ _ z=>z.weak e) r,n]
theorem bQ.gridK (h:bQ K H0 H p rows):Sj K H p (rows.map (List.map nm)):=by obtain xs|g|r|_:=h;exact #[xs,g,uB (F:=λns x=>∃q,x=V.ref q/\FQ K H q ns) (Paired.imp' (λ_ _ #[q,a,_,c]=>#[q,a,c.rowK]) r)]
end
def DS:Kind Rat:=Vs.via nm (λ_ _ e=>Tq e) (λK H x q=>bS K H q x) id
def N3:Kind (List Rat):=TB DS
def uK:Kind (LR9):=TB N3
theorem cu.kind {K:FG9} (h:cu K H p qs):N3.R K H (.ref p) qs:=by obtain xs|g|q:=h;exact #[p,xs,rfl,bJ.of g,q]
theorem bQ.kind {K:FG9} (h:bQ K H0 H p rows):uK.R K H (.ref p) rows:=by obtain xs|g|q|_:=h;exact #[p,xs,rfl,bJ.of g,Paired.imp' (λ_ _ #[q,a,_,c]=>by rw[a];exact c.kind) q]
def lh (x:Rat):Prop:=Sz 4000000 (nm x).1/\Sz 4000000 (nm x).2
def Fits (l:List Rat):Prop:=∃M V:Nat,0 < M/\M<=2^900/\V<=2^900/\∀x∈l,Fr M V x
theorem Fits.szn (h:Fits l) (hx:x∈l):lh x:=by
 obtain M|V|h0|h1|h2|h3:=h;obtain a|b:=(h3 x hx).sz h0 h1 h2;exact #[a.mono (),b.mono ()]
theorem Fits.ok (h:Fits l) (hx:x∈l):Am (nm x):=#[jH x,BR x,(h.szn hx).1.mono (),(h.szn hx).2.mono ()]
theorem Js {M V:Nat} (h0:0 < M) (h1:M<=2^1800) (h2:V<=2^1810) (h:Fr M V x):lh x:=by
 obtain a|b:=h.sz h0 h1 h2;exact #[a.mono (),b.mono ()]
theorem IH (h:lh x):Am (nm x):=#[jH x,BR x,h.1.mono (),h.2.mono ()]
inductive rD (K:FG9) (f:Rat->Rat->Rat) (vs:List V) (H:Hp) (Q:VK) (E9:XK):Prop
 | mk (u v:V) (x y:Rat):vs=[u,v]->bS K H x u->bS K H y v->lh x->lh y->(∀r H',aA H H'->bS K H' (f x y) (.ref r)->Q (.ref r) H')->rD K f vs H Q E9
section
variable {K:FG9} {vs:List V} {H:Hp} {Q:VK} {E:XK}
theorem Jb (hf:∀x y:Rat,(f x y)*(((nm x).2*(nm y).2:Int):Rat)=((F (nm x).1 (nm x).2 (nm y).1 (nm y).2:Int):Rat)) (h:rD K f vs H Q E):Kd K F vs H Q E:=by
 obtain u|v|x|y|rfl|⟨p,rfl,hp⟩|⟨q,rfl,hq⟩|⟨s1,s2⟩|⟨s3,s4⟩|k:=h;refine #[p,q,_,_,_,_,rfl,hp,hq,jH x,jH y,s1,s2,s3,s4,λr H' s g=>k r H' s (bS.mk g ?_)];exact xK (fj (jH x) (jH y)) (hf x y)
theorem wM (x:Rat):(((nm x).1:Int):Rat)=x*(((nm x).2:Int):Rat):=by
 show (x.num:Rat)=x*(((x.den:Nat):Int):Rat)
 rw[m9,bL]
theorem AO (h:rD K (λx y=>x+y) vs H Q E):Kd K RV vs H Q E:=Jb (λx y=>by
 unfold RV;rw[kq,aO,aO,aO,wM,wM];grind) h
theorem JR (h:rD K (λx y=>x - y) vs H Q E):Kd K Ox vs H Q E:=Jb (λx y=>by
 unfold Ox;rw[Pb,aO,aO,aO,wM,wM];grind) h
theorem Km (h:rD K (λx y=>x*y) vs H Q E):Kd K Ow vs H Q E:=Jb (λx y=>by
 unfold Ow;rw[aO,aO,wM,wM];grind) h
end
def tj (M:Int) (ns:List (Int×Int)):Prop:=0 < M/\Sz 4400000 M/\∀n∈ns,0 < n.2/\n.2∣M/\Sz 4400000 n.1
theorem tj.bot (h:tj M ns):0 < cI ns/\Sz 4400000 (cI ns):=by
 have hb:∀b∈ns.map (·.2),0 < b/\b∣M:=λb hb=>by
  obtain n|hn|rfl:=av.mp hb;exact #[(h.2.2 n hn).1,(h.2.2 n hn).2.1]
 exact #[BY () λb q=>(hb b q).1,FC h.1 (AG () (Int.one_dvd _) hb) h.2.1]
inductive MY (K:FG9) (vs:List V) (H:Hp) (Q:VK) (E9:XK):Prop
 | mk (p:Addr) (bs:List Int) (M:Int):vs=[.ref p]->bJ K H p (bs.map V.int)->0 < M->Sz 4400000 M->((∀b∈bs,0 < b/\b∣M))->Q (.int (yS bs 1)) H->MY K vs H Q E9
inductive MZ (K:FG9) (vs:List V) (H:Hp) (Q:VK) (E9:XK):Prop
 | mk (p:Addr) (ns:List (Int×Int)) (M:Int):vs=[.ref p]->FQ K H p ns->ns.9<=1000->tj M ns->(∀H',aA H H'->Q (.int (cI ns)) H')->MZ K vs H Q E9
inductive Gi (K:FG9) (vs:List V) (H:Hp) (Q:VK) (E9:XK):Prop
 | mk (p:Addr) (ns:List (Int×Int)) (M:Int) (B:Int):vs=[.ref p,.int B]->FQ K H p ns->ns.9<=1000->tj M ns->0 < B->Sz 4400000 B->(∀r H',H r=none->aA H H'->H' r=some (.lst ((cp ns B).map V.int))->Q (.ref r) H')->Gi K vs H Q E9
theorem tS (h:tj M ns) (hB:0 < B) (sB:Sz 4400000 B) (ht:t∈cp ns B):Sz 8800000 t:=by
 obtain n|hn|rfl:=av.mp ht;have hp:=h.2.2 n hn
 have sq:Sz 4400000 (B / n.2):=sB.le (by
  rw[Ur ()];exact Nat.div_le_self ..)
 exact (hp.2.2.mul sq).mono ()
theorem mH (h:(nm x).2∣B):(((nm x).1*(B / (nm x).2):Int):Rat)=x*(B:Rat):=by
 obtain k|rfl:=h;have hp:=jH x;rw[yv _ (),aO,aO,wM];grind
theorem HJ {B C:Int}:∀{xs ys:List Rat},(∀x∈xs,(nm x).2∣B)->(∀y∈ys,(nm y).2∣C)->(((List.zipWith (λx y=>x*y) (cp (xs.map nm) B) (cp (ys.map nm) C)).sum:Int):Rat)=d9 xs ys*((B:Rat)*(C:Rat))
 | [],ys,_,_=>by simp [cp,d9]
 | x :: xs,[],_,_=>by simp [cp,d9]
 | x :: xs,y :: ys,h1,h2=>by
  have ih:=HJ (B:=B) (C:=C) (xs:=xs) (ys:=ys) (λz hz=>h1 z (.tail _ hz)) (λz hz=>h2 z (.tail _ hz));have e1:=mH (h1 x (.head _));have e2:=mH (h2 y (.head _));have e3:(List.zipWith (λx y=>x*y) (cp ((x :: xs).map nm) B) (cp ((y :: ys).map nm) C)).sum=((nm x).1*(B / (nm x).2))*((nm y).1*(C / (nm y).2))+(List.zipWith (λx y=>x*y) (cp (xs.map nm) B) (cp (ys.map nm) C)).sum:=rfl;have e4:d9 (x :: xs) (y :: ys)=x*y+d9 xs ys:=rfl;rw[e3,e4,kq,aO,ih,e1,e2];grind
theorem KH (h1:0 < cI (xs.map nm)) (h2:0 < cI (ys.map nm)):(lo (Jw (xs.map nm) (ys.map nm)) (cI (xs.map nm)*cI (ys.map nm)),hi (Jw (xs.map nm) (ys.map nm)) (cI (xs.map nm)*cI (ys.map nm)))=nm (d9 xs ys):=by
 refine xK (fj h1 h2) ?_;unfold Jw;rw[HJ (λx hx=>qT (av.mpr #[x,hx,rfl])) (λx hx=>qT (av.mpr #[x,hx,rfl])),aO]
inductive Gh (K:FG9) (vs:List V) (H:Hp) (Q:VK) (E9:XK):Prop
 | mk (p:Addr) (w:Nat) (H0:Hp) (rows:LR9):vs=[.ref p,.int w]->bQ K H0 H p rows->rows.9<=1000->w<=1000->(∀xs∈rows,xs.9=w)->(∀r H',H r=none->aA H H'->bQ K H H' r (kx rows w)->Q (.ref r) H')->Gh K vs H Q E9
inductive A5 (K:FG9) (vs:List V) (H:Hp) (Q:VK) (E9:XK):Prop
 | mk (b:Addr) (w:Nat):vs=[.ref b,.int w]->iq H b->1<=w->w<=1000000->(∀r x H',Dr (max w 6) x->bS K H' x (.ref r)->iq H' b->cM b H H'->Q (.ref r) H')->A5 K vs H Q E9
inductive GA (K:FG9) (vs:List V) (H:Hp) (Q:VK) (E9:XK):Prop
 | mk (b:Addr) (m w:Nat):vs=[.ref b,.int m,.int w]->iq H b->m<=1000->1<=w->w<=1000000->(∀r xs H',H r=none->cu K H' r xs->xs.9=m->(∀x∈xs,Dr (max w 6) x)->iq H' b->cM b H H'->Q (.ref r) H')->GA K vs H Q E9
inductive Gu (K:FG9) (vs:List V) (H:Hp) (Q:VK) (E9:XK):Prop
 | mk (p q:Addr) (xs ys:List Rat):vs=[.ref p,.ref q]->cu K H p xs->cu K H q ys->ys.9=xs.9->xs.9<=1000->(∀x∈xs,lh x)->(∀y∈ys,lh y)->(∀r H',H r=none->aA H H'->cu K H' r (List.zipWith (λx y=>x+y) xs ys)->Q (.ref r) H')->Gu K vs H Q E9
inductive M5 (K:FG9) (vs:List V) (H:Hp) (Q:VK) (E9:XK):Prop
 | mk (u:V) (q:Addr) (c:Rat) (ys:List Rat):vs=[u,.ref q]->bS K H c u->lh c->cu K H q ys->ys.9<=1000->(∀y∈ys,lh y)->(∀r H',H r=none->aA H H'->cu K H' r (ys.map λy=>c*y)->Q (.ref r) H')->M5 K vs H Q E9
inductive Be (K:FG9) (vs:List V) (H:Hp) (Q:VK) (E9:XK):Prop
 | mk (p:Addr) (H0:Hp) (rows:LR9):vs=[.ref p]->bQ K H0 H p rows->rows.9<=1000->(∀xs∈rows,xs.9<=1000)->(∀r H',H r=none->aA H H'->bQ K H H' r rows->Q (.ref r) H')->Be K vs H Q E9
section
variable {K:FG9} {a:Addr} {xs:List V} {g:TG} {tf:TT} {te:TE} {Q:VK} {σ₀:St} {H:Hp} {α β:Type}
theorem cL {F:Hp->α->V->Prop} (G:Hp->β->V->Prop) (f:α->β) (hx:H a=some (.lst xs)) (pf:Paired (F H) as xs) (hl:as.9<=1000)
  (hF:∀{H H' c x},F H c x->aA H H'->F H' c x) (hG:∀{H H' c x},G H c x->aA H H'->G H' c x)
  (hs:∀(i:Nat) c x H' NY NN,as[i]?=some c->aA H H'->F H' c x->(∀y H2,aA H' H2->G H2 (f c) y->NY y H2)->nI σ₀ g tf te x H' NY NN)
  (hd:∀ys H' p,H p=none->aA H H'->H' p=some (.lst ys)->Paired (G H') (as.map f) ys->(∃H2,H2 p=none/\Paired (G H2) (as.map f) ys)->Q (.ref p) H'):oA (OQ K a) σ₀ g tf te Q H:=by
 have lx:=pf.9;refine eS (K:=K) (xs:=xs) (λi ys H'=>aA H H'/\Paired (G H') ((as.take i).map f) ys) (aL (bD ())) #[aA.refl _,.nil] (λi ys H' _ #[s,_]=>bJ.of (s _ _ hx)) ?_ ?_
 ·rintro i x ys H' hx' hlen ⟨s,pr⟩;obtain c|ec|hc:=cE pf hx';refine hs i c x H' _ _ ec s (hF hc s) λy H2 s2 gy=>#[s.trans s2,?_]
  rw[take_snoc ec,cn];exact cA (Paired.imp' (λ_ _ z=>hG z s2) pr) (.cons gy .nil)
 ·rintro ys H' hy ⟨s,pr⟩ p hp;rw[aD ()] at pr;exact hd ys _ p (s.none hp) (s.trans (aA.new hp)) aK (Paired.imp' (λ_ _ z=>hG z (aA.new hp)) pr) #[H',hp,pr]
theorem kh (G:Hp->β->V->Prop) (f:Nat->β) (hl:n<=1000) (hG:∀{H H' c x},G H c x->aA H H'->G H' c x)
  (hs:∀(i:Nat) H' NY NN,i < n->aA H H'->(∀y H2,aA H' H2->G H2 (f i) y->NY y H2)->nI σ₀ g tf te (.int i) H' NY NN)
  (hd:∀ys H' p,H p=none->aA H H'->H' p=some (.lst ys)->Paired (G H') ((List.range n).map f) ys->(∃H2,H2 p=none/\Paired (G H2) ((List.range n).map f) ys)->Q (.ref p) H'):oA (KZ 0 n) σ₀ g tf te Q H:=by
 refine wV (λi ys H'=>aA H H'/\Paired (G H') ((List.range i).map f) ys) (aL (bD ())) #[aA.refl _,.nil] ?_ ?_
 ·rintro i ys H' hi hlen ⟨s,pr⟩;rw[K5];refine hs i H' _ _ hi s λy H2 s2 gy=>#[s.trans s2,?_]
  rw[C0,cn];exact cA (Paired.imp' (λ_ _ z=>hG z s2) pr) (.cons gy .nil)
 ·rintro ys H' hy ⟨s,pr⟩ p hp;exact hd ys _ p (s.none hp) (s.trans (aA.new hp)) aK (Paired.imp' (λ_ _ z=>hG z (aA.new hp)) pr) #[H',hp,pr]
theorem y7 (G:Hp->β->V->Prop) (C:β->Prop) (hB:iq H b) (hl:n<=1000) (hG:∀{H' H'' c x},G H' c x->cM b H' H''->iq H' b->G H'' c x)
  (hs:∀(i:Nat) H' NY NN,i < n->cM b H H'->iq H' b->(∀y c H2,cM b H' H2->iq H2 b->C c->G H2 c y->NY y H2)->nI σ₀ g tf te (.int i) H' NY NN)
  (hd:∀ys cs H' p,H p=none->cM b H H'->iq H' b->H' p=some (.lst ys)->cs.9=n->(∀c∈cs,C c)->Paired (G H') cs ys->(∃H2,H2 p=none/\Paired (G H2) cs ys)->Q (.ref p) H'):oA (KZ 0 n) σ₀ g tf te Q H:=by
 refine wV (λi ys H'=>cM b H H'/\iq H' b/\∃cs,cs.9=i/\(∀c∈cs,C c)/\Paired (G H') cs ys) (aL (bD ())) #[(aA.refl _).upto,hB,[],rfl,(λ_ z=>nomatch z),.nil] ?_ ?_
 ·rintro i ys H' hi hlen ⟨u,B,cs,lc,hc,pr⟩;rw[K5];refine hs i H' _ _ hi u B λy c H2 u2 B2 cc gy=>#[u.trans u2,B2,cs++[c],by simp [lc],AN hc cc,cA (Paired.imp' (λ_ _ z=>hG z u2 B) pr) (.cons gy .nil)]
 ·rintro ys H' hy ⟨u,B,cs,lc,hc,pr⟩ p hp;have s:aA H' (upd H' p (.lst ys)):=aA.new hp;exact hd ys cs _ p (u.none B hp) (u.same s) (B.same s) aK lc hc (Paired.imp' (λ_ _ z=>hG z s.upto B) pr) #[H',hp,pr]
end
section
variable {X:Cx}
theorem eH {g:TG} {tb:TS} {D:Ends} (Pv:Nat->St->Hp->Prop) (h0:Pv 0 σ H)
  (hs:∀(i:Nat) σ H,i < n->Pv i σ H->g (.int i) σ H λσ2 H2=>tb { D with nx:=Pv (i+1),ct:=Pv (i+1),bk:=D.nx } σ2 H2) (hd:∀σ H,Pv n σ H->D.nx σ H) :
  ∃W:Nat->Nat->St->Hp->Prop,(∃m,W 0 m σ H)/\∀i m σ H,W i m σ H →
   ((KZ 0 n).stop i H/\D.nx σ H)\/((KZ 0 n).go i H/\∃N:St->Hp->Prop,(∀σ' H',N σ' H'->∃m',m' < m/\W (i+1) m' σ' H')/\∀x H',(KZ 0 n).yld i H x H'->g x σ H' λσ2 H2=>tb { D with nx:=N,ct:=N,bk:=D.nx } σ2 H2) :=
 LV (lo:=0) Pv h0 (λi σ H hi p=>by rw[K5];exact hs i σ H hi p) hd
theorem qS:rn X (.type "int") (λxs H Q=>∃b:Bool,xs=[.bl b]/\Q (.int (if b=true then 1 else 0)) H):=by
 intro pins s σ H xs us Q I r h;obtain b|rfl|q:=h;obtain u|rfl|ru:=vals1 r;cases ru;exact call_int_bool #[.int _,H,I.tok _,#[_,rfl],q]
theorem Ds (K:FG9) (hK:X.K=K):rn X (.builtin "len") (λxs H Q=>∃p ys,xs=[.ref p]/\(bJ K H p ys\/nG K H p ys)/\Q (.int ys.9) H):=by subst hK;exact bw
theorem Nv {st:Stmt}:PS X st (λ_ _ _=>False):=λ_ _ _ _ _ _ h=>h.elim
end
theorem Jm {t b:Int} (hb:0 < b) (h1:t.natAbs<=W) (h2:b.natAbs<=W):∃q:Rat,(lo t b,hi t b)=nm q/\Dr W q/\q*(b:Rat)=(t:Rat):=by
 have hb':(b:Rat)≠0:=λz=>by have:=Ap.mp z;lia
 have e:(t:Rat) / (b:Rat)*(b:Rat)=t:=iL hb';have h:=xK hb e;refine #[_,h,#[?_,?_],e]
 ·have:=congrArg Prod.fst h;have z:=lo_le (t:=t) (b:=b) ();show ((nm ((t:Rat) / (b:Rat))).1).natAbs<=W
  rw[<- this];exact aj z h1
 ·have:=congrArg Prod.snd h;have z:=RQ (t:=t) (b:=b) ();have hd:(((t:Rat) / (b:Rat)).den:Int)=hi t b:=this.symm;have hp:=Fs (t:=t) hb
  lia
theorem Kt {K:FG9} (h:Paired (bS K H) qs xs) (hj:j < qs.9):∃v,JB xs (j:Int)=some v/\bS K H (qs.getD j 0) v:=by
 have hl:=h.9;refine #[xs[j]'(),eO (by simp),?_];have:=lJ h (i:=j) hj ();rwa [ae,ai hj]
theorem yY {xs ys:List Rat} (h1:i < xs.9) (h2:i < ys.9):d9 (xs.take (i+1)) (ys.take (i+1))=d9 (xs.take i) (ys.take i)+xs.getD i 0*ys.getD i 0:=by
 have e1:xs[i]?=some (xs.getD i 0):=by rw[ae,ai h1];rfl
 have e2:ys[i]?=some (ys.getD i 0):=by rw[ae,ai h2];rfl
 unfold d9;rw[take_snoc e1,take_snoc e2,F4 (by simp;lia),CZ];simp [dc]
theorem getD_mem {xs:List Rat} (h:i < xs.9):xs.getD i 0∈xs:=by
 rw[ae,ai h];exact bo h
theorem DB {xs ys:List Rat} (h:ys.9=xs.9):List.zipWith (λx y=>x+y) xs ys=(List.range xs.9).map λi=>xs.getD i 0+ys.getD i 0:=by
 apply ph;intro i;rw[b9,ay];by_cases hi:i < xs.9
 ·rw[bY hi,ai hi,ai (show i < ys.9 by lia)];simp [ae,ai hi,ai (show i < ys.9 by lia)]
 ·rw[bE (show (List.range xs.9).9<=i by simp;lia),bE (show xs.9<=i by lia)];rfl
theorem iq.at (B:iq H b):H b≠none:=by obtain _|_|_|_|_|e|_:=B;rw[e];simp
theorem Inner.at (B:iq H b) (i:Inner H b q):H q≠none:=by
 obtain q'|i'|xs|e:=B.inner;rw[<- Inner.inj i' i,e];simp
theorem lK {F:α->β->Prop} {l1:List α} {l2:List β} (h:Paired F l1 l2) (hi:i < l1.9):∃x y,l1[i]?=some x/\l2[i]?=some y/\x∈l1/\F x y:=by
 have hl:=h.9;exact #[l1[i],l2[i]'(),by simp,by simp,bo _,lJ h hi ()]
section
variable {α β:Type} [DecidableEq α] [DecidableEq β] (k1:Kind α) (k2:Kind β)
theorem K7 {X:Cx} {pins:List (Addr×Obj)} {σ:St} {H:Hp} {s:Shared} {A:Around} (I:Inv X pins σ H s) (h1:A.units+k1.d < cLine) (h2:A.units+k2.d < cLine) {x y z w:V} {us ws:List Value} {a b:α×β}
  (rx:di [x,y] us) (ry:di [z,w] ws) (a1:k1.R X.K H x a.1) (a2:k2.R X.K H y a.2) (b1:k1.R X.K H z b.1) (b2:k2.R X.K H w b.2) :
  ∀j (h1:j < us.5.7) (h2:j < ws.5.7),SeqAt.EqAt A s us.5[j] ws.5[j] (if j=0 then decide (a.1=b.1) else decide (a.2=b.2)):=λj l1 l2=>by
 obtain u1|u2|rfl|r1|r2:=vals2 rx;obtain w1|w2|rfl|q1|q2:=vals2 ry;have hj:j < 2:=by simpa using l1
 rcases jO j 1 with h | h
 ·have e:j=0:=()
  subst e;exact k1.eq (A:=A) I r1 q1 a1 b1 h1
 ·have e:j=1:=()
  subst e;exact k2.eq (A:=A) I r2 q2 a2 b2 h2
theorem Ph {a b:α×β}:(List.range 2).all (λj=>if j=0 then decide (a.1=b.1) else decide (a.2=b.2))=decide (a=b):=by
 have e:List.range 2=[0,1]:=rfl;rw[e];simp only[List.all_cons,List.all_nil,Bool.and_true,if_true,Nat.one_ne_zero,if_false];rw[<- Bool.decide_and];exact decide_eq_decide.mpr #[λ#[h1,h2]=>Prod.ext h1 h2,λh=>by rw[h];exact #[rfl,rfl]]
theorem Ez {X:Cx} {pins:List (Addr×Obj)} {σ:St} {H:Hp} {s:Shared} {p q:Addr} {x1 x2 y1 y2:V} {a b:α×β} {A:Around} (I:Inv X pins σ H s) (hp:bJ X.K H p [x1,x2]) (hq:bJ X.K H q [y1,y2])
  (a1:k1.R X.K H x1 a.1) (a2:k2.R X.K H x2 a.2) (b1:k1.R X.K H y1 b.1) (b2:k2.R X.K H y2 b.2) (hA:A.units+(max k1.d k2.d+1) < cLine) :
  SeqAt.RcAt A s (.ref p) (.ref q) (decide (a=b))/\SeqAt.RcNeAt A s (.ref p) (.ref q) (!decide (a=b)):=by
 obtain us|r1|t1|_:=I.list hp;obtain ws|r2|t2|_:=I.list hq;have l1:=r1.9;have l2:=r2.9;have e1:us.5.7=2:=by rw[aW,<- l1];rfl
 have e2:ws.5.7=2:=by rw[aW,<- l2];rfl
 have it:=K7 k1 k2 (A:=A.in1) I (by show A.units+1+k1.d < cLine;lia) (by show A.units+1+k2.d < cLine;lia) r1 r2 a1 a2 b1 b2;have z:=SeqAt.RcAt.lists (A:=A) (e:=λj=>if j=0 then decide (a.1=b.1) else decide (a.2=b.2)) t1.isList t2.isList (by rw[e1,e2]) () it;have z2:=SeqAt.RcNeAt.lists (A:=A) (e:=λj=>if j=0 then decide (a.1=b.1) else decide (a.2=b.2)) t1.isList t2.isList (by rw[e1,e2]) () it;rw[e1,Ph] at z z2;exact #[z,z2]
def Tz:Kind (α×β) where
 R:=λK H x a=>∃p u v,x=.ref p/\bJ K H p [u,v]/\k1.R K H u a.1/\k2.R K H v a.2
 d:=max k1.d k2.d+1
 inj:=λ{X pins σ H s x a b} I h1 h2=>by
  obtain p|u|v|rfl|hp|a1|a2:=h1;obtain q|u'|v'|e|hq|b1|b2:=h2;cases e;have e:=I.list_inj hp hq;cases e;exact Prod.ext (k1.inj I a1 b1) (k2.inj I a2 b2)
 rc:=λ{X pins σ H s x y v u a b A} I rx ry h1 h2 hA=>by
  obtain p|x1|x2|rfl|hp|a1|a2:=h1;obtain q|y1|y2|rfl|hq|b1|b2:=h2;cases rx;cases ry;exact (Ez k1 k2 I hp hq a1 a2 b1 b2 hA).1
 ne:=λ{X pins σ H s x y v u a b A} I rx ry h1 h2 hA=>by
  obtain p|x1|x2|rfl|hp|a1|a2:=h1;obtain q|y1|y2|rfl|hq|b1|b2:=h2;cases rx;cases ry;exact (Ez k1 k2 I hp hq a1 a2 b1 b2 hA).2
 eq:=λ{X pins σ H s x y v u a b A} I rx ry h1 h2 hA=>by
  obtain p|x1|x2|rfl|hp|a1|a2:=h1;obtain q|y1|y2|rfl|hq|b1|b2:=h2;cases rx;cases ry;by_cases e:p=q
  ·subst e;have e:=I.list_inj hp hq;cases e;have e2:a=b:=Prod.ext (k1.inj I a1 b1) (k2.inj I a2 b2);rw[decide_eq_true e2];exact SeqAt.EqAt.same _
  ·exact .of_refs e (Ez k1 k2 I hp hq a1 a2 b1 b2 hA).1
end
theorem KN (h1:-(2^64) < i) (h2:i < 2^64):fO i j:=.inl (.inl #[h1,h2])
theorem QR (h1:-(2^64) < j) (h2:j < 2^64):fO i j:=.inl (.inr #[h1,h2])
def Uk (K : FG9) (l : Addr) : It :=
  #[λi H => ∃ xs x, bJ K H l xs /\ xs[i]? = some x,
   λi H v H' => ∃ p x, v = .ref p /\ H p = none /\ H' = upd H p (.tup [.int i, x]) /\ ∀ xs, bJ K H l xs → xs[i]? = some x,
   λi H => ∃ xs, bJ K H l xs /\ xs.9 ≤ i]
def tnE (e it l:Addr) (i:Nat) (h:Heap):Prop:=(∃old,IsEnum h e it i old)/\h.IsListIter it l i
theorem K9 {P:Program} {w:World} {K:FG9} {elts:List Expr} {kk:Nat} {tpos:Pos} (e it l:Addr) (hei:e≠it):Turn P w K (.Tuple elts kk tpos) (Uk K l) [e,it] e (tnE e it l) where
 mem:=by simp
 obj:=λi h st b hb=>by
  obtain ⟨old,he⟩|⟨o1,g1,c1,d1⟩:=st;simp only[aI,aT,or_false] at hb;rcases hb with rfl | rfl
  ·exact #[_,he,λv q=>nomatch q]
  ·exact #[o1,g1,λv q=>by rw[d1] at q;cases q]
 keep:=λi h h' st k=>by
  obtain ⟨old,he⟩|h1:=st;exact #[#[old,k e (by simp) _ he],h1.at λo q=>k it (by simp) o q]
 item:=by
  intro X hP hw hK hc i pins s σ H E I hf st hg;subst hP hw hK;obtain ⟨old,he⟩|h1:=st;obtain xs|x|qx|ex:=hg;obtain us|rx|px|_:=I.list qx;obtain u|eu|ru:=rx.get ex;refine wpAny_pyNext_enum_item he h1 px.isList (x:=u) (by simpa using eu) hei λh' a1 a2 a3 a4 hk=>?_
  refine #[_,rfl,wpAny_letOwnedTupleGo_enum a1 λh'' he'' hs=>?_];have hT0:H s.6=none:=I.hok.fresh (ar _);have ene:s.6≠e:=K0 (Heap.lt_size he)
  have up:∀b o,b∉[e,it]->s.heap.get? b=some o->h''.get? b=some o:=λb o hb q=>by
   simp only[aI,aT,or_false,not_or] at hb;exact (hs.2 b hb.1).trans (hk b o hb.1 hb.2 q)
  have tup:h''.get? s.6=some { cls:=.type "tuple",data:=.seq [.int i s.toks,u].toArray }:=(hs.2 _ ene).trans a3;have I1:Inv X pins σ H { s with heap:=h'',toks:=s.toks+1 }:=I.moved (g':=s.gens) (d':=s.drawn) (t':=s.toks+1) (ch:=[e,it]) hf up I.bare;have fT:lZ X pins H s.6:=I.fpOk (ar _) hT0;have I2:=I1.track (o:=.tup [.int i,x]) fT #[nK rfl,[.int i s.toks,u],.cons #[_,rfl] (.cons ru .nil),#[_,tup,rfl,_,rfl]];refine #[.ref s.6,_,I2,rfl,#[_,x,rfl,hT0,rfl,λxs' q=>by rw[I.list_inj q qx];exact ex],?_,λb hb=>?_]
  ·exact #[#[_,by simpa using he''],a2.at λo q=>(hs.2 _ hei.symm).trans q]
  ·rw[a7]
   ·exact (hf b hb).1
   ·obtain o1|g1|_:=h1;simp only[aI,aT,or_false] at hb;rcases hb with rfl | rfl
    ·exact ene.symm
    ·exact cT (Heap.lt_size g1)
 done:=by
  intro X hP hw hK hc i pins s σ H E I hf st hg;subst hP hw hK;obtain ⟨old,he⟩|h1:=st;obtain xs|qx|hend:=hg;obtain us|rx|px|_:=I.list qx;have lx:=rx.9;refine wpAny_pyNext_enum_end (I.ok.hd hc) he h1 px.isList (by simp;lia) λh' hk=>#[rfl,?_]
  exact I.moved (g':=s.gens) (d':=s.drawn) (t':=s.toks) (ch:=[e,it]) hf (λb o hb q=>hk b o (λz=>hb (by simp [z])) q) I.bare
 self:=λ_ _ _ _ _ st h=>let ⟨⟨_,he⟩,_⟩:=st;wpAny_pyIter_enum he h
section
variable {X:Cx}
def Oc (K:FG9) (ta:TA):TI:=λσ H R=>ta σ H λvs H1=>∃l,vs=[.ref l]/\(∃xs,bJ K H1 l xs)/\R (Uk K l) H1
theorem E1 {a:Expr} {ta:TA} {p pos tpos:Pos} {elts:List Expr} {kk:Nat} (hg:Gl X "enumerate") (hm:X.mg "enumerate"=none) (ha:PA X [a] ta) (hs:starEach [a] X.env=[(false,eval a X.env)]:=by rfl) :
  PI X (.Tuple elts kk tpos) (.Call (.Name "enumerate" p) [a] [] pos) (Oc X.K ta):=by
 intro pins s σ H R I h;refine Call_ (pZ I hg hm boot_enumerate (PyProof.Rows.callWith_type1 (iX (ha pos pins s σ H _ I h) λus s1 #[vs,H1,I1,r1,q1]=>?_) (by rw[hs];rfl) rfl));obtain l|e|⟨xs,qx⟩|q:=q1;subst e;obtain u|rfl|ru:=vals1 r1;cases ru;obtain us|rx|px|_:=I1.list qx;refine call_enumerate_list px.isList λh' a1 a2 a3 hk=>wpAny_pyIter_enum a1 ?_
 have I2:Inv X pins σ H1 { s1 with heap:=h' }:=I1.kept (t':=s1.toks) hk;refine #[_,[s1.6+1,s1.6],_,_,H1,rfl,I2,K9 (s1.6+1) s1.heap.objs.size l (Nat.succ_ne_self _),#[#[_,a1],a2],λb hb=>?_,q]
 have hb':s1.6<=b:=by
  simp only[aI,aT,or_false] at hb;rcases hb with rfl | rfl <;> first | exact Eo _ | exact ar _
 exact I1.fpOk hb' (I1.hok.fresh hb')
end
theorem Nk {K:FG9} (h:ta σ H λvs H1=>∃l,vs=[.ref l]/\(∃xs,bJ K H1 l xs)/\R (Uk K l) H1):Oc K ta σ H R:=h
theorem Hw {K:FG9} {g:TG} {tb:TS} {D:Ends} (Pv:Nat->St->Hp->Prop) (h0:Pv 0 σ H) (hl:∀i σ H,i<=xs.9->Pv i σ H->bJ K H l xs)
  (hs:∀i x σ H p,xs[i]?=some x->Pv i σ H->H p=none->g (.ref p) σ (upd H p (.tup [.int i,x])) λσ2 H2=>tb { D with nx:=Pv (i+1),ct:=Pv (i+1),bk:=D.nx } σ2 H2) (hd:∀σ H,Pv xs.9 σ H->D.nx σ H) :
  ∃W:Nat->Nat->St->Hp->Prop,(∃m,W 0 m σ H)/\∀i m σ H,W i m σ H →
   ((Uk K l).stop i H/\D.nx σ H)\/((Uk K l).go i H/\∃N:St->Hp->Prop,(∀σ' H',N σ' H'->∃m',m' < m/\W (i+1) m' σ' H')/\∀x H',(Uk K l).yld i H x H'->g x σ H' λσ2 H2=>tb { D with nx:=N,ct:=N,bk:=D.nx } σ2 H2):=by
 refine #[λi m σ H=>m=xs.9 - i/\i<=xs.9/\Pv i σ H,#[xs.9,by simp,bW _,h0],?_];rintro i m σ H ⟨rfl,hi,p⟩;have q1:=hl i σ H hi p;by_cases hlt:i < xs.9
 ·refine .inr #[#[xs,xs[i],q1,by simp [hlt]],Pv (i+1),λσ' H' p'=>#[xs.9 - (i+1),(),rfl,hlt,p'],λx H' y=>?_];obtain r|x'|rfl|hr|rfl|e1:=y;exact hs i x' σ _ r (e1 xs q1) p hr
 ·have e:i=xs.9:=()
  subst e;exact .inl #[#[xs,q1,ar _],hd σ H p]
theorem S8 {K:FG9} (h:ta σ H λx H1=>∃a C dx fs v,x=.ref a/\H1 a=some (.ins C dx fs)/\Ml K C/\iT K C f/\fs.lookup f=some v/\Q v H1):UT K ta f σ H Q:=h
theorem PD {K:FG9} (h:tv σ H λy H1=>ta σ H1 λx H2=>∃a C dx fs,x=.ref a/\H2 a=some (.ins C dx fs)/\Ml K C/\iT K C f/\fs.9 < 1000 /\
 D.nx σ (upd H2 a (.ins C dx (bf f y fs)))):U2 K ta tv f D σ H:=h
theorem PL (h:ta σ H λx H1=>∃a dx fs,x=.ref a/\H1 a=some (.ins C dx fs)/\fs.lookup m=none /\
 t σ H1 λvs H2=>sp (x :: vs) H2 Q E):Rm C m sp [] E ta t σ H Q:=by
 have e:(λ(x:V) H1=>∃a dx fs,x=.ref a/\H1 a=some (.ins C dx fs)/\fs.lookup m=none/\t σ H1 λvs H2=>sp (x :: (vs++[])) H2 Q E)=λx H1=>∃a dx fs,x=.ref a/\H1 a=some (.ins C dx fs)/\fs.lookup m=none/\t σ H1 λvs H2=>sp (x :: vs) H2 Q E:=by
  funext x H1;simp only[tO]
 show ta σ H (λ(x:V) H1=>∃a dx fs,x=.ref a/\H1 a=some (.ins C dx fs)/\fs.lookup m=none/\t σ H1 λvs H2=>sp (x :: (vs++[])) H2 Q E)
 rw[e];exact h
theorem PM (h:t σ H λvs H1=>∀x dx,H1 x=none->H1 dx=none->dx≠x →
 sp (.ref x :: vs) (upd (upd H1 dx (.own x)) x (.ins C dx [])) (λv H2=>v=.non/\Q (.ref x) H2) E):Rn C sp [] E t σ H Q:=by
 have e:(λvs (H1:Hp)=>∀x dx,H1 x=none->H1 dx=none->dx≠x->sp (.ref x :: (vs++[])) (upd (upd H1 dx (.own x)) x (.ins C dx [])) (λv H2=>v=.non/\Q (.ref x) H2) E)=λvs H1=>∀x dx,H1 x=none->H1 dx=none->dx≠x->sp (.ref x :: vs) (upd (upd H1 dx (.own x)) x (.ins C dx [])) (λv H2=>v=.non/\Q (.ref x) H2) E:=by
  funext vs H1;simp only[tO]
 show t σ H (λvs (H1:Hp)=>∀x dx,H1 x=none->H1 dx=none->dx≠x->sp (.ref x :: (vs++[])) (upd (upd H1 dx (.own x)) x (.ins C dx [])) (λv H2=>v=.non/\Q (.ref x) H2) E)
 rw[e];exact h
def FZ (x:Addr) (H H':Hp):Prop:=∀b o,H b=some o->b≠x->H' b=some o
theorem FZ.upd:FZ x H (L2.upd H x o):=λb u h n=>by rw[a7 n];exact h
def vY (H:Hp) (x:Addr):Prop:=∃C dx fs,H x=some (.ins C dx fs)
section
variable {K:FG9} {H H' H0:Hp} {q:Rat} {v:V} {x p:Addr} {qs:List Rat} {rows:LR9}
theorem bS.exc (h:bS K H q v) (e:FZ x H H') (hx:vY H x):bS K H' q v:=by
 obtain C|dx|fs|hx:=hx;obtain r|er|s:=h;refine #[r,er,?_];rcases s with (h | ⟨o,h⟩) | h
 ·exact .inl (.inl (e _ _ h λz=>by rw[z,hx] at h;cases h))
 ·exact .inl (.inr #[o,e _ _ h λz=>by rw[z,hx] at h;cases h])
 ·exact .inr h
theorem cu.exc (h:cu K H p qs) (e:FZ x H H') (hx:vY H x):cu K H' p qs:=by
 obtain xs|g|r:=h;have hx':=hx;obtain C|dx|fs|hx:=hx;exact #[xs,e _ _ g (λz=>by rw[z,hx] at g;cases g),Paired.imp' (λ_ _ z=>z.exc e hx') r]
theorem dF.exc (h:dF K H0 H qs v) (e:FZ x H H') (hx:vY H x):dF K H0 H' qs v:=by obtain q|a|b|c:=h;exact #[q,a,b,c.exc e hx]
theorem bQ.exc (h:bQ K H0 H p rows) (e:FZ x H H') (hx:vY H x):bQ K H0 H' p rows:=by
 obtain xs|g|r|n:=h;have hx':=hx;obtain C|dx|fs|hx:=hx;exact #[xs,e _ _ g (λz=>by rw[z,hx] at g;cases g),Paired.imp' (λ_ _ z=>z.exc e hx') r,n]
end
def tD (a b c:Addr) (n i o:Nat):List (Str×V):=bf "outs" (.int o) (bf "look" (.ref c) (bf "ins" (.int i) (bf "put" (.ref b) (bf "states" (.int n) (bf "move" (.ref a) [])))))
section
variable {a b c:Addr} {n i o:Nat}
theorem Po:(tD a b c n i o).lookup ("ins":Str)=some (.int i):=by
 unfold tD;rw[aQ,if_neg (by decide +kernel),aQ,if_neg (by decide +kernel),aQ,if_pos rfl]
theorem JQ:(tD a b c n i o).lookup ("put":Str)=some (.ref b):=by
 unfold tD;rw[aQ,if_neg (by decide +kernel),aQ,if_neg (by decide +kernel),aQ,if_neg (by decide +kernel),aQ,if_pos rfl]
theorem AZ:(tD a b c n i o).lookup ("states":Str)=some (.int n):=by
 unfold tD;rw[aQ,if_neg (by decide +kernel),aQ,if_neg (by decide +kernel),aQ,if_neg (by decide +kernel),aQ,if_neg (by decide +kernel),aQ,if_pos rfl]
theorem Ge:(tD a b c n i o).lookup ("move":Str)=some (.ref a):=by
 unfold tD;rw[aQ,if_neg (by decide +kernel),aQ,if_neg (by decide +kernel),aQ,if_neg (by decide +kernel),aQ,if_neg (by decide +kernel),aQ,if_neg (by decide +kernel),aQ,if_pos rfl]
theorem SA {m:Str} (h1:¬m="outs") (h2:¬m="look") (h3:¬m="ins") (h4:¬m="put") (h5:¬m="states") (h6:¬m="move"):(tD a b c n i o).lookup m=none:=by
 unfold tD;rw[aQ,if_neg h1,aQ,if_neg h2,aQ,if_neg h3,aQ,if_neg h4,aQ,if_neg h5,aQ,if_neg h6];rfl
theorem DE:(tD a b c n i o).lookup ("moved":Str)=none:=SA (by decide +kernel) (by decide +kernel) (by decide +kernel) (by decide +kernel) (by decide +kernel) (by decide +kernel)
end
theorem d4 {k:Str} {v:V}:∀{l:List (Str×V)},(bf k v l).9<=l.9+1
 | []=>ar _
 | (x,y) :: r=>by
  unfold bf
  split
  ·simp
  ·have:=d4 (k:=k) (v:=v) (l:=r);simp only[bV]
   lia
structure fI (mv pt lk:LR9):Prop where
 n8:mv.9<=8
 i4:pt.9<=4
 o4:lk.9<=4
 mw:∀xs∈mv,xs.9=mv.9
 pw:∀xs∈pt,xs.9=mv.9
 lw:∀xs∈lk,xs.9=mv.9
def El (mv pt lk:LR9):Prop:=∃M V:Nat,0 < M/\M<=2^800/\V<=2^400/\GF M V mv/\GF M V pt/\GF M V lk
def ou (K:FG9) (H0 H:Hp) (C p:Addr) (mv pt lk:LR9):Prop:=∃dx a b c,H p=some (.ins C dx (tD a b c mv.9 pt.9 lk.9))/\H0 a=none/\H0 b=none/\H0 c=none/\bQ K H0 H a mv/\bQ K H0 H b pt/\bQ K H0 H c lk
section
variable {K:FG9} {H H' H0 H1:Hp} {C p b:Addr} {mv pt lk:LR9}
theorem ou.same (h:ou K H0 H C p mv pt lk) (e:aA H H'):ou K H0 H' C p mv pt lk:=by obtain dx|a|b|c|g|n1|n2|n3|g1|g2|g3:=h;exact #[dx,a,b,c,e _ _ g,n1,n2,n3,g1.same e,g2.same e,g3.same e]
theorem ou.upto (h:ou K H0 H C p mv pt lk) (u:cM b H H') (B:iq H b) (nb:H0 b≠none):ou K H0 H' C p mv pt lk:=by
 obtain dx|a|b'|c|g|n1|n2|n3|g1|g2|g3:=h;refine #[dx,a,b',c,u.other (λz=>by obtain _|_|_|_|_|e|_:=B;rw[z,e] at g;cases g) g,n1,n2,n3,g1.upto u B (λz=>nb (by rw[<- z];exact n1)) nb,g2.upto u B (λz=>nb (by rw[<- z];exact n2)) nb,g3.upto u B (λz=>nb (by rw[<- z];exact n3)) nb]
theorem ou.weak (h:ou K H0 H C p mv pt lk) (e:aA H1 H0):ou K H1 H C p mv pt lk:=by obtain dx|a|b|c|g|n1|n2|n3|g1|g2|g3:=h;exact #[dx,a,b,c,g,e.none n1,e.none n2,e.none n3,g1.weak e,g2.weak e,g3.weak e]
theorem El.fits (h:El mv pt lk) (hl:∀x∈l,(∃xs∈mv,x∈xs)\/(∃xs∈pt,x∈xs)\/(∃xs∈lk,x∈xs)\/x=0):Fits l:=by
 obtain M|V|h0|h1|h2|h3|h4|h5:=h;refine #[M,V,h0,aj h1 (aF () ()),aj h2 (aF () ()),λx hx=>?_];rcases hl x hx with ⟨xs,a,b⟩ | ⟨xs,a,b⟩ | ⟨xs,a,b⟩ | rfl
 ·exact h3 xs a x b
 ·exact h4 xs a x b
 ·exact h5 xs a x b
 ·exact Fr.zero
end
def Lf:Sp:=λvs H Q _=>∃i:Int,vs=[.int i]/\Q (.bl true) H
def Lo (K:FG9):Sp:=λvs H Q _=>∃x n,vs=[x]/\Ic K H x n/\Am n/\∀H',aA H H'->Q (.bl true) H'
inductive JX (vs:List V) (H:Hp) (Q:VK) (E9:XK):Prop
 | mk (p:Addr) (xs:List V) (a m:Int):vs=[.ref p,.int a,.int m]->H p=some (.lst xs)->(xs.9:Int)<=m->Q .non H->JX  vs H Q E9
inductive Ka (K:FG9) (vs:List V) (H:Hp) (Q:VK) (E9:XK):Prop
 | mk (p:Addr) (H0:Hp) (rows:LR9) (w:Nat):vs=[.ref p,.int w]->bQ K H0 H p rows->rows.9<=1000->w<=1000->((∀xs∈rows,xs.9=w/\∀x∈xs,Am (nm x)))->(∀r H',H r=none->aA H H'->bQ K H H' r rows->Q (.ref r) H')->Ka K vs H Q E9
def Uw (rows:LR9):Prop:=∀xs∈rows,∀x∈xs,Am (nm x)
inductive J6 (K:FG9) (C:Addr) (vs:List V) (H:Hp) (Q:VK) (E9:XK):Prop
 | mk (x dx p q r:Addr) (Hb H0 H1 H2:Hp) (mv pt lk:LR9):vs=[.ref x,.ref p,.ref q,.ref r]->Hb x=none->Hb dx=none->dx≠x->H=upd (upd Hb dx (.own x)) x (.ins C dx [])->bQ K H0 Hb p mv->bQ K H1 Hb q pt->bQ K H2 Hb r lk->fI mv pt lk->Uw mv->Uw pt->Uw lk->(∀H',aA Hb H'->ou K Hb H' C x mv pt lk->Q .non H')->J6 K C vs H Q E9
def gO (mv pt:LR9) (st pu:List Rat):List Rat:=List.zipWith (λline col=>d9 (line++col) (st++pu)) mv (kx pt mv.9)
theorem El.ok (h:El mv pt lk):Uw mv/\Uw pt/\Uw lk :=
 #[λxs hx x hx'=>(h.fits (l:=xs) λy hy=>.inl #[xs,hx,hy]).ok hx',λxs hx x hx'=>(h.fits (l:=xs) λy hy=>.inr (.inl #[xs,hx,hy])).ok hx',λxs hx x hx'=>(h.fits (l:=xs) λy hy=>.inr (.inr (.inl #[xs,hx,hy]))).ok hx']
def ip (K:FG9) (A:Addr->Prop) (H:Hp) (n:Nat) (C:Rat->Prop) (x:V):Prop:=∃q qs,x=V.ref q/\A q/\cu K H q qs/\qs.9=n/\∀y∈qs,C y
section
variable {K:FG9} {A A':Addr->Prop} {H H' H0:Hp} {n:Nat} {C C':Rat->Prop} {x v:V} {q b l p:Addr} {xs zs:List V} {y:Rat} {o:HO}
theorem ip.same (h:ip K A H n C x) (e:aA H H'):ip K A H' n C x:=by obtain q|qs|a|c|r|z:=h;exact #[q,qs,a,c,r.same e,z]
theorem ip.upto (h:ip K A H n C x) (u:cM b H H') (B:iq H b) (nb:¬A b):ip K A H' n C x:=by obtain q|qs|a|c|r|z:=h;exact #[q,qs,a,c,r.upto u B (λe=>nb (by rw[<- e];exact c)),z]
theorem ip.other (h:ip K A H n C x) (hl:H l=some (.lst zs)) (nl:¬A l):ip K A (upd H l o) n C x:=by obtain q|qs|a|c|r|z:=h;exact #[q,qs,a,c,r.updL hl (λe=>nl (by rw[<- e];exact c)),z]
theorem ip.weak (h:ip K A H n C x) (w:∀q,A q->A' q) (wc:∀y,C y->C' y):ip K A' H n C' x:=by obtain q|qs|a|c|r|l|z:=h;exact #[q,qs,a,w q c,r,l,λy hy=>wc y (z y hy)]
theorem wG {α β:Type} {F:α->β->Prop} {a:α} {b:β} (h:F a b):∀{l1:List α} {l2:List β} (j:Nat),Paired F l1 l2->Paired F (l1.set j a) (l2.set j b)
 | _,_,_,.nil=>.nil
 | _,_,0,.cons _ t=>.cons h t
 | _,_,j+1,.cons r t=>.cons r (wG h j t)
theorem ip.put (h:ip K A H n C x) (hq:H q=some (.lst zs)) (hv:bS K H y v) (hc:C y) (j:Nat):ip K A (upd H q (.lst (zs.set j v))) n C x:=by
 obtain q1|qs|rfl|a|⟨zs1,g1,pr⟩|l1|c1:=h;by_cases e:q1=q
 ·subst e;rw[hq] at g1;cases g1;refine #[q1,qs.set j y,rfl,a,#[_,aK,wG (hv.updL hq) j (Paired.imp' (λ_ _ z=>z.updL hq) pr)],by rw[eQ];exact l1,λz hz=>?_];rcases eh hz with hz | rfl
  ·exact c1 z hz
  ·exact hc
 ·exact #[q1,qs,rfl,a,#[zs1,by rw[a7 e];exact g1,Paired.imp' (λ_ _ z=>z.updL hq) pr],l1,c1]
theorem ip.at (h:ip K A H n C x):∃q zs qs,x=V.ref q/\A q/\H q=some (.lst zs)/\zs.9=n/\Paired (bS K H) qs zs/\qs.9=n/\∀y∈qs,C y:=by obtain q|qs|a|c|⟨zs,g,pr⟩|l|z:=h;exact #[q,zs,qs,a,c,g,by rw[<- pr.9];exact l,pr,l,z]
end
theorem uM {i:Int} (h:i.natAbs<=W) (hW:1<=W):Dr W (i:Rat):=#[h,hW]
def VP (K:FG9) (A:Addr->Prop) (H:Hp) (n:Nat) (C:Rat->Prop) (p:Addr) (m:Nat):Prop:=∃us,H p=some (.lst us)/\us.9=m/\¬A p/\∀x∈us,ip K A H n C x
structure Ie (A:Addr->Prop) (m p l b q0:Addr):Prop where
 am:¬A m
 ap:¬A p
 al:¬A l
 ab:¬A b
 aq:¬A q0
 mb:m≠b
 pb:p≠b
 lb:l≠b
 mp:m≠p
 ml:m≠l
 mq:m≠q0
theorem Kz {M:Nat} {z:Int} (h:z.natAbs<=2):Fr 1 2 (z:Rat):=Fr.int h
theorem Fx {z:Int} (hz:z.natAbs<=2) (ha:Fr M W a) (hc:Fr M W c):Fr M (3*W) (a+(z:Rat)*c):=by
 have h:=(Kz (M:=M) hz).mul hc;rw[yr] at h;exact (ha.add h).mono ()
theorem EB {z:Int} (h:z.natAbs<=1000):lh (z:Rat):=Js (M:=1) (V:=1000) () (v7) (aj (show 1000<=2^10 by decide) (aF () ())) (Fr.int h)
theorem AY {z:Int} (hz:z.natAbs<=2) (hc:Fr M W c) (h0:0 < M) (h1:M<=2^800) (hW:W<=2^140):lh ((z:Rat)*c):=by
 have h:=(Kz (M:=M) hz).mul hc;rw[yr] at h;refine Js h0 (aj h1 (aF () ())) (aj (cg 2 hW) ?_) h;rw[show 2*2^140=2^141 by rw[jf,d5]];exact aF () ()
def jE (A:Addr->Prop) (b m:Addr) (H H':Hp):Prop:=∀c u,H c=some u->c≠b->¬A c->c≠m->H' c=some u
theorem jE.same (h:jE A b m H H1) (s:aA H1 H2):jE A b m H H2:=λc u e n1 n2 n3=>s _ _ (h c u e n1 n2 n3)
theorem jE.upto (h:jE A b m H H1) (s:cM b H1 H2):jE A b m H H2:=λc u e n1 n2 n3=>s.1 _ _ (h c u e n1 n2 n3) n1
theorem jE.upd (h:jE A b m H H1) (hq:A q\/q=m):jE A b m H (L2.upd H1 q o):=λc u e n1 n2 n3=>by
 rw[a7]
 ·exact h c u e n1 n2 n3
 ·rintro rfl;rcases hq with hq | hq
  ·exact n2 hq
  ·exact n3 hq
theorem jE.new (h:jE A b m H H1) (hA:∀q,H q=none->A q) (B:iq H1 b) (hm:H1 m≠none) (hr:H1 r=none):A r:=by
 by_cases z:A r
 ·exact z
 ·cases e:H r with
  | none=>exact hA r e
  | some u =>
   have:=h r u e (λy=>B.at (by rw[<- y];exact hr)) z (λy=>hm (by rw[<- y];exact hr));rw[hr] at this;cases this
structure KY (K:FG9) (A:Addr->Prop) (n:Nat) (C:Rat->Prop) (r p b q0:Addr) (us:List V) (H0 H:Hp):Prop where
 gr:H r=some (.lst us)
 ru:∀x∈us,ip K A H n C x
 rp:ip K A H n C (.ref p)
 bag:iq H b
 inn:Inner H b q0
 up:cM b H0 H
section
variable {K:FG9} {A:Addr->Prop} {n:Nat} {C:Rat->Prop} {r p b q0:Addr} {us:List V} {H0 H H':Hp} {y:Rat} {v:V}
theorem KY.same (h:KY K A n C r p b q0 us H0 H) (e:aA H H'):KY K A n C r p b q0 us H0 H':=#[e _ _ h.gr,λx hx=>(h.ru x hx).same e,h.rp.same e,h.bag.same e,(e.upto (p:=b)).2 _ h.inn,h.up.same e]
theorem KY.upto (h:KY K A n C r p b q0 us H0 H) (u:cM b H H') (B:iq H' b) (nb:¬A b) (rb:r≠b):KY K A n C r p b q0 us H0 H':=#[u.other rb h.gr,λx hx=>(h.ru x hx).upto u h.bag nb,h.rp.upto u h.bag nb,B,u.2 _ h.inn,h.up.trans u]
theorem KY.put (h:KY K A n C r p b q0 us H0 H) (ap:A p) (nr:¬A r) (nb:¬A b) (nq:¬A q0) (hp:H0 p=none) (hv:bS K H y v) (hc:C y) (j:Nat):∃zs,H p=some (.lst zs)/\zs.9=n/\KY K A n C r p b q0 us H0 (upd H p (.lst (zs.set j v))):=by
 obtain q|zs|qs|e|a|g|l|_:=h.rp.at;cases e;have ne:∀{z},¬A z->z≠p:=λh e=>h (by rw[e];exact ap)
 exact #[zs,g,l,by rw[a7 (ne nr)];exact h.gr,λx hx=>(h.ru x hx).put g hv hc j,h.rp.put g hv hc j,h.bag.upd h.inn (ne nb).symm (ne nq).symm,h.inn.upd (ne nb).symm,h.up.after hp]
end
theorem Bs {K:FG9} (h:∀x∈us,ip K A H n C x):∃rows:LR9,Paired (λqs x=>∃q,x=V.ref q/\A q/\cu K H q qs) rows us/\rows.9=us.9/\∀qs∈rows,qs.9=n/\∀y∈qs,C y:=by
 induction us with
 | nil=>exact #[[],.nil,rfl,λ_ z=>nomatch z]
 | cons u us ih =>
  obtain rows|pr|l|hr:=ih λx hx=>h x (.tail _ hx)
  obtain q|qs|e|a|r|l1|c:=h u (.head _);refine #[qs :: rows,.cons #[q,e,a,r] pr,by simp [l],λzs hz=>?_];rcases aI.mp hz with rfl | hz
  ·exact #[l1,c]
  ·exact hr zs hz
theorem IT {K:FG9} {rows:LR9} (pr:Paired (λqs x=>∃q,x=V.ref q/\A q/\cu K H q qs) rows us) (h:∀qs∈rows,qs.9=n/\∀y∈qs,C y):∀x∈us,ip K A H n C x:=λx hx=>by
 obtain qs|hq|q|e|a|r:=dN pr hx;exact #[q,qs,e,a,r,(h qs hq).1,(h qs hq).2]
theorem DW {n:Nat}:∀{rows:LR9},(∀xs∈rows,xs.9=n)->rows.flatten.9=rows.9*n
 | [],_=>by simp
 | xs :: rows,h=>by
  rw[fR,aB,h xs (.head _),DW λys hy=>h ys (.tail _ hy),bV,dP,pe]
theorem Pz {rows:LR9} (h:∀qs∈rows,qs.9=n/\∀y∈qs,Dr (2^c) y):∃M:Nat,0 < M/\M<=2^(c*(rows.9*n))/\∀qs∈rows,∀y∈qs,Fr M (2^c) y:=by
 have fl:rows.flatten.9=rows.9*n:=DW λys hy=>(h ys hy).1
 have hm:∀a∈rows.flatten.map (·.den),0 < a/\a<=2^c:=λa ha=>by
  obtain y|hy|rfl:=av.mp ha;obtain qs|hq|hy:=cS.mp hy;exact #[y.den_pos,((h qs hq).2 y hy).2]
 refine #[xx (rows.flatten.map (·.den)),yI λa ha=>(hm a ha).1,?_,λqs hq y hy=>?_]
 ·have:=BA (k:=c) (l:=rows.flatten.map (·.den)) λa ha=>(hm a ha).2
  rwa [af,fl] at this
 ·exact (Fr.own y ((h qs hq).2 y hy).1).dvd (yJ (av.mpr #[y,cS.mpr #[qs,hq,hy],rfl]))
theorem lP {K:FG9} (h:VP K A H n C p m) (w:∀q,A q->H0 q=none):∃rows,bQ K H0 H p rows/\rows.9=m/\∀qs∈rows,qs.9=n/\∀y∈qs,C y:=by
 obtain us|g|l|a|r:=h;obtain rows|pr|lr|hr:=Bs r;refine #[rows,#[us,g,Paired.imp' (λ_ _ #[q,e,aq,rq]=>#[q,e,w q aq,rq]) pr,λhm=>?_],by rw[lr,l],hr];obtain q|_|e|aq|_:=r _ hm;cases e;exact a aq
theorem jE.trans (h:jE A b m H H1) (h':jE A b m H1 H2):jE A b m H H2:=λc u e n1 n2 n3=>h' c u (h c u e n1 n2 n3) n1 n2 n3
theorem Nf {K:FG9} {rows:LR9} (pr:Paired (dF K H0 H) rows us) (h:∀qs∈rows,qs.9=n/\∀y∈qs,C y) (w:∀q,V.ref q∈us->H0 q=none->H q≠none->A q):∀x∈us,ip K A H n C x:=λx hx=>by
 obtain qs|hq|q|e|a|r:=dN pr hx;subst e;exact #[q,qs,rfl,w q hx a (by obtain _|g|_:=r;rw[g];simp),r,(h qs hq).1,(h qs hq).2]
def Li:Sp:=λvs H Q _=>∃b,vs=[.ref b]/\iq H b/\∀r (n i o w:Nat) H',H' r=some (.tup [.int n,.int i,.int o,.int w])->n<=5->i<=4->o<=4->(w=4\/w=9\/(w=1000000/\n<=2))->(n=5->i<=2/\o<=2)->iq H' b->cM b H H'->Q (.ref r) H'
def fG (K:FG9) (H0 H:Hp) (r:Addr) (mv pt lk:LR9):Prop:=∃m p l,H r=some (.tup [.ref m,.ref p,.ref l])/\H0 m=none/\H0 p=none/\H0 l=none/\bQ K H0 H m mv/\bQ K H0 H p pt/\bQ K H0 H l lk
section
variable {K:FG9} {H H' H0 H1:Hp} {r b:Addr} {mv pt lk:LR9}
theorem fG.same (h:fG K H0 H r mv pt lk) (e:aA H H'):fG K H0 H' r mv pt lk:=by obtain m|p|l|g|n1|n2|n3|g1|g2|g3:=h;exact #[m,p,l,e _ _ g,n1,n2,n3,g1.same e,g2.same e,g3.same e]
theorem fG.upto (h:fG K H0 H r mv pt lk) (u:cM b H H') (B:iq H b) (nb:H0 b≠none):fG K H0 H' r mv pt lk:=by
 obtain m|p|l|g|n1|n2|n3|g1|g2|g3:=h;exact #[m,p,l,u.tup B g,n1,n2,n3,g1.upto u B (λz=>nb (by rw[<- z];exact n1)) nb,g2.upto u B (λz=>nb (by rw[<- z];exact n2)) nb,g3.upto u B (λz=>nb (by rw[<- z];exact n3)) nb]
theorem fG.weak (h:fG K H0 H r mv pt lk) (e:∀q,H0 q=none->H1 q=none):fG K H1 H r mv pt lk:=by
 obtain m|p|l|g|n1|n2|n3|⟨x1,y1,z1,w1⟩|⟨x2,y2,z2,w2⟩|⟨x3,y3,z3,w3⟩:=h;exact #[m,p,l,g,e _ n1,e _ n2,e _ n3,#[x1,y1,Paired.imp' (λ_ _ #[q,a,b,c]=>#[q,a,e _ b,c]) z1,w1],#[x2,y2,Paired.imp' (λ_ _ #[q,a,b,c]=>#[q,a,e _ b,c]) z2,w2],#[x3,y3,Paired.imp' (λ_ _ #[q,a,b,c]=>#[q,a,e _ b,c]) z3,w3]]
end
inductive A4 (K:FG9) (C:Addr) (vs:List V) (H:Hp) (Q:VK) (E9:XK):Prop
 | mk (r:Addr) (H0:Hp) (mv pt lk:LR9):vs=[.ref r]->fG K H0 H r mv pt lk->fI mv pt lk->El mv pt lk->(∀x H',H x=none->aA H H'->ou K H H' C x mv pt lk->Q (.ref x) H')->A4 K C vs H Q E9
def nextK (mv pt:LR9) (st pu:List Rat) (k:Nat):List Rat:=List.zipWith (λline col=>d9 (line++col.take k) (st++pu.take k)) mv (kx pt mv.9)
theorem kg {st pu:List Rat}:(nextK mv pt st pu k).9=mv.9:=by unfold nextK;rw[bM,j5];lia
theorem vm {st pu:List Rat} (h1:pt.9<=k) (h2:pu.9<=k):nextK mv pt st pu k=gO mv pt st pu:=by
 unfold nextK gO;apply ph;intro i;rw[b9,b9];cases e1:mv[i]? with
 | none=>rfl
 | some line =>
  cases e2:(kx pt mv.9)[i]? with
  | none=>rfl
  | some col =>
   have:=qA col (ao e2);show some _=some _
   rw[aD (),aD h2]
theorem Ax (h:i < w):(kx rows w)[i]?=some (rows.map λxs=>xs.getD i 0):=by
 unfold kx;rw[ay,bY h];rfl
theorem Jf {st pu:List Rat}:nextK mv pt st pu 0=mv.map λxs=>d9 xs st:=by
 unfold nextK;apply ph;intro i;rw[b9,ay];by_cases hi:i < mv.9
 ·rw[Ax hi,ai hi];simp
 ·rw[bE ()];rfl
theorem BS {st pu:List Rat} (hi:i < mv.9):(nextK mv pt st pu k).getD i 0=d9 (mv[i]++(pt.map λxs=>xs.getD i 0).take k) (st++pu.take k):=by
 rw[ae];unfold nextK;rw[b9,ai hi,Ax hi];rfl
theorem uN (h:as.9=xs.9):d9 (as++bs) (xs++ys)=d9 as xs+d9 bs ys:=by
 unfold d9;rw[F4 h,CZ]
theorem Jg {st pu:List Rat} (hm:∀xs∈mv,xs.9=st.9) (h1:k < pt.9) (h2:k < pu.9) (hw:(pt[k]).9=mv.9) :
  List.zipWith (λx y=>x+y) (nextK mv pt st pu k) ((pt[k]).map λy=>pu[k]*y)=nextK mv pt st pu (k+1):=by
 have l1:((pt[k]).map λy=>pu[k]*y).9=mv.9:=by rw[af,hw]
 rw[DB (by rw[l1,kg])];apply ph;intro i;rw[ay,kg];by_cases hi:i < mv.9
 ·have e0:(nextK mv pt st pu (k+1))[i]?=some ((nextK mv pt st pu (k+1)).getD i 0):=by
   rw[ae,ai (by rw[kg];exact hi)];rfl
  rw[bY hi,e0,BS hi];have ll:=hm mv[i] (bo hi);have ec:(pt.map λxs=>xs.getD i 0)[k]?=some ((pt[k]).getD i 0):=by rw[ay,ai h1];rfl
  have ep:pu[k]?=some pu[k]:=ai h2
  have e3:((pt[k]).map λy=>pu[k]*y).getD i 0=pu[k]*(pt[k]).getD i 0:=by
   rw[getD_map (by rw[hw];exact hi),ae,ai (by rw[hw];exact hi)];rfl
  show some ((nextK mv pt st pu k).getD i 0+((pt[k]).map λy=>pu[k]*y).getD i 0)=some _
  rw[BS hi,e3,take_snoc ec,take_snoc ep,uN ll,uN ll,uN (by rw[dh,dh,af];lia)];have:d9 [(pt[k]).getD i 0] [pu[k]]=(pt[k]).getD i 0*pu[k]:=by simp [d9,dc]
  rw[this];congr 1;grind
 ·rw[bE (by simpa using hi),bE (by rw[kg];lia)];rfl
theorem ou.weakN {K:FG9} (h:ou K H0 H C p mv pt lk) (e:∀q,H0 q=none->H1 q=none):ou K H1 H C p mv pt lk:=by
 obtain dx|a|b|c|g|n1|n2|n3|⟨x1,y1,z1,w1⟩|⟨x2,y2,z2,w2⟩|⟨x3,y3,z3,w3⟩:=h;exact #[dx,a,b,c,g,e _ n1,e _ n2,e _ n3,#[x1,y1,Paired.imp' (λ_ _ #[q,a,b,c]=>#[q,a,e _ b,c]) z1,w1],#[x2,y2,Paired.imp' (λ_ _ #[q,a,b,c]=>#[q,a,e _ b,c]) z2,w2],#[x3,y3,Paired.imp' (λ_ _ #[q,a,b,c]=>#[q,a,e _ b,c]) z3,w3]]
theorem yN {st pu:List Rat}:(gO mv pt st pu).9=mv.9:=by unfold gO;rw[bM,j5];lia
def jZ (k j:Nat) (l:List Rat):Prop:=∃M V:Nat,0 < M/\M<=2^k/\V<=2^j/\∀x∈l,Fr M V x
theorem Qx {M V:Nat} (h0:0 < M) (h1:M<=2^2000) (h2:V<=2^1950) (h:Fr M V x):lh x:=by
 obtain a|b:=h.sz h0 h1 h2;exact #[a.mono (),b.mono ()]
section
variable {k j k' j':Nat} {l xs ys:List Rat} {x y:Rat}
theorem jZ.szn (h:jZ k j l) (hx:x∈l) (hk:k+j<=3950000:=by decide):lh x:=by
 obtain M|V|h0|h1|h2|h3:=h;obtain a|b:=(h3 x hx).sz h0 h1 h2;exact #[a.mono (),b.mono ()]
theorem jZ.rowM (h:jZ k j l) (hk:k+j<=4200000:=by decide):∃M,tj M (l.map nm):=by
 obtain M|V|h0|h1|h2|h3:=h;refine #[M,(),?_,λn hn=>?_]
 ·show ((M:Nat):Int).natAbs < 2^4400000
  rw[jP];exact bO h1 (fg () ())
 ·obtain x|hx|rfl:=av.mp hn;obtain a|_:=(h3 x hx).sz h0 h1 h2;exact #[jH x,(h3 x hx).den,a.mono ()]
theorem jZ.one (h:jZ k j l) (hx:x∈l):jZ k j [x]:=by
 obtain M|V|h0|h1|h2|h3:=h;exact #[M,V,h0,h1,h2,λy hy=>by rw[bg.mp hy];exact h3 x hx]
theorem HI (h:jZ k j xs) (h':jZ k' j' ys) (hl:xs.9<=1000) (i:Nat) (hk:(k+k')+(j+j')<=3930000:=by decide):lh (d9 (xs.take i) (ys.take i)):=by
 obtain M|V|h0|h1|h2|h3:=h;obtain N|W|k0|k1|k2|k3:=h'
 have e:1000*(V*W)<=2^(10+(j+j')):=by
  rw[aJ 2 10];exact aH () (aj (aH h2 k2) (by rw[<- aJ];exact ar _))
 obtain a|b:=((Fr.dot (λx hx=>h3 x (cz hx)) (λy hy=>k3 y (cz hy))).mono (aE _ (show (xs.take i).9<=1000 by rw[dh];lia))).sz (aY h0 k0) (aj (aH h1 k1) (by rw[<- aJ];exact ar _)) e;exact #[a.mono (),b.mono ()]
theorem LZ (h:jZ k j xs) (h':jZ k' j' ys) (hl:xs.9<=1000) (hk:(k+k')+(j+j')<=3930000:=by decide):lh (d9 xs ys):=by
 have:=HI h h' hl (xs.9+ys.9) hk;rwa [aD (),aD ()] at this
theorem NL (hx:jZ k j [x]) (hy:jZ k' j' [y]) (hk:(k+k')+(j+j')<=3930000:=by decide):lh (x*y):=by
 obtain M|V|h0|h1|h2|h3:=hx;obtain N|W|k0|k1|k2|k3:=hy;obtain a|b:=((h3 x (.head _)).mul (k3 y (.head _))).sz (aY h0 k0) (aj (aH h1 k1) (by rw[<- aJ];exact ar _)) (aj (aH h2 k2) (by rw[<- aJ];exact ar _));exact #[a.mono (),b.mono ()]
def DA (xs ys:List Rat):Prop:=∃k j k' j':Nat,jZ k j xs/\jZ k' j' ys/\(k+k')+(j+j')<=3930000
theorem DA.sys (h:jZ 400 120 xs) (h':jZ 1800000 1800000 ys):DA xs ys:=#[_,_,_,_,h,h',()]
end
def Mu (mv pt lk:LR9):Prop:=∃M V:Nat,0 < M/\M<=2^400/\V<=2^120/\GF M V mv/\GF M V pt/\GF M V lk
section
variable {mv pt lk:LR9}
theorem Mu.fits (h:Mu mv pt lk) (hl:∀x∈l,(∃xs∈mv,x∈xs)\/(∃xs∈pt,x∈xs)\/(∃xs∈lk,x∈xs)\/x=0):jZ 400 120 l:=by
 obtain M|V|h0|h1|h2|g1|g2|g3:=h;refine #[M,V,h0,h1,h2,λx hx=>?_];rcases hl x hx with ⟨xs,a,b⟩ | ⟨xs,a,b⟩ | ⟨xs,a,b⟩ | rfl
 ·exact g1 xs a x b
 ·exact g2 xs a x b
 ·exact g3 xs a x b
 ·exact Fr.zero
theorem Mu.sf (h:Mu mv pt lk):El mv pt lk:=by obtain M|V|a|b|c|d:=h;exact #[M,V,a,aj b (aF () ()),aj c (aF () ()),d]
end
inductive EF (K:FG9) (vs:List V) (H:Hp) (Q:VK) (E9:XK):Prop
 | mk (p q:Addr) (xs ys:List Rat):vs=[.ref p,.ref q]->cu K H p xs->cu K H q ys->ys.9=xs.9->xs.9<=1000->DA xs ys->(∀r H',aA H H'->bS K H' (d9 xs ys) (.ref r)->Q (.ref r) H')->EF K vs H Q E9
inductive J7 (K:FG9) (vs:List V) (H:Hp) (Q:VK) (E9:XK):Prop
 | mk (p q:Addr) (H0:Hp) (rows:LR9) (ys:List Rat):vs=[.ref p,.ref q]->bQ K H0 H p rows->cu K H q ys->rows.9<=1000->ys.9<=1000->((∀xs∈rows,xs.9=ys.9/\DA xs ys))->(∀r H',H r=none->aA H H'->cu K H' r (rows.map λxs=>d9 xs ys)->Q (.ref r) H')->J7 K vs H Q E9
inductive DK (K:FG9) (C:Addr) (vs:List V) (H:Hp) (Q:VK) (E9:XK):Prop
 | mk (x p q:Addr) (H0:Hp) (mv pt lk:LR9) (st pu:List Rat):vs=[.ref x,.ref p,.ref q]->ou K H0 H C x mv pt lk->fI mv pt lk->Mu mv pt lk->cu K H p st->cu K H q pu->st.9=mv.9->pu.9=pt.9->jZ 1800000 1800000 (st++pu)->(∀r H',H r=none->aA H H'->cu K H' r (gO mv pt st pu)->Q (.ref r) H')->DK K C vs H Q E9
def jS (mv pt:LR9) (st:List Rat) (pus:LR9) (k:Nat):List Rat:=(pus.take k).foldl (gO mv pt) st
def mi (mv pt:LR9) (st:List Rat) (pus:LR9):LR9:=(List.range (pus.9+1)).map (jS mv pt st pus)
section
variable {mv pt lk pus:LR9} {st:List Rat} {k:Nat}
theorem qC (h:pus[k]?=some pu):jS mv pt st pus (k+1)=gO mv pt (jS mv pt st pus k) pu:=by
 unfold jS;rw[take_snoc h,List.foldl_append];rfl
theorem vd (h:st.9=mv.9):∀{k:Nat},k<=pus.9->(jS mv pt st pus k).9=mv.9
 | 0,_=>h
 | k+1,hk=>by rw[qC (ai (show k < pus.9 by lia)),yN]
theorem Ct:(mi mv pt st pus).9=pus.9+1:=by unfold mi;rw[af,bu]
theorem y0 (h:k<=pus.9):(mi mv pt st pus)[k]?=some (jS mv pt st pus k):=by
 unfold mi;rw[ay,bY ()];rfl
def OU (mv pt:LR9) (st:List Rat) (pus:LR9):Prop:=∀k,k<=pus.9->∃N W:Nat,0 < N/\N<=2^1800000/\W<=2^1800000/\(∀x∈jS mv pt st pus k,Fr N W x)/\∀xs∈pus,∀x∈xs,Fr N W x
theorem OU.both (h:OU mv pt st pus) (hk:k<=pus.9) (hp:pu∈pus):jZ 1800000 1800000 (jS mv pt st pus k++pu):=by
 obtain N|W|a|b|c|d|e:=h k hk;exact #[N,W,a,b,c,λx hx=>(aw.mp hx).elim (d x) (e pu hp x)]
theorem JN (h:GF M W rows):GF M W (kx rows w):=λys hy y hy'=>by
 obtain j|_|rfl:=av.mp hy;obtain xs|hx|rfl:=av.mp hy';rw[ae];cases e:xs[j]? with
 | none=>exact Fr.zero
 | some z=>exact h xs hx z (ao e)
end
def zd (K:FG9) (H:Hp) (l:Addr) (H':Hp) (xs:List Rat) (x:V):Prop:=∃q,x=.ref q/\H q=none/\q≠l/\cu K H' q xs
section
variable {K:FG9} {H H' H2:Hp} {l:Addr} {xs:List Rat} {x:V}
theorem zd.same (h:zd K H l H' xs x) (e:aA H' H2):zd K H l H2 xs x:=by obtain q|a|b|c|d:=h;exact #[q,a,b,c,d.same e]
theorem zd.upd {ys:List V} {o:HO} (h:zd K H l H' xs x) (hl:H' l=some (.lst ys)):zd K H l (upd H' l o) xs x:=by obtain q|a|b|c|d:=h;exact #[q,a,b,c,d.updL hl c]
theorem zd.rowF (h:zd K H l H' xs x):dF K H H' xs x:=by obtain q|a|b|_|d:=h;exact #[q,a,b,d]
theorem Lu (e:aA H H') (n:H l=none):aA H (upd H' l o):=λb u h=>by
 rw[a7 (λz=>by rw[z,n] at h;cases h)];exact e b u h
theorem Bt:∀{rows:LR9} {ys:List V},Paired (zd K H l H') rows ys->V.ref l∉ys
 | _,_,.nil=>by simp
 | _,_,.cons ⟨q,a,_,c,_⟩ r=>by
  intro hm;rcases aI.mp hm with e | hm
  ·rw[a] at e;cases e;exact c rfl
  ·exact Bt r hm
end
inductive A8 (K:FG9) (C:Addr) (vs:List V) (H:Hp) (Q:VK) (E9:XK):Prop
 | mk (x s p:Addr) (H0 H1:Hp) (mv pt lk pus:LR9) (st:List Rat):vs=[.ref x,.ref s,.ref p]->ou K H0 H C x mv pt lk->fI mv pt lk->Mu mv pt lk->cu K H s st->st.9=mv.9->bQ K H1 H p pus->pus.9<=100->(∀xs∈pus,xs.9=pt.9)->OU mv pt st pus->(∀r H',H r=none->aA H H'->bQ K H H' r (mi mv pt st pus)->Q (.ref r) H')->A8 K C vs H Q E9
theorem nE {l:List Rat} (h:∀x∈l,Dr (2^c) x) (hc:c<=20):∃B:Nat,0 < B/\B<=2^(c*l.9+2)/\∀x∈l,Fr B (2^22) x:=by
 obtain M|h0|h1|h2:=Qv (c:=c) (n:=l.9) (i:=0) (rows:=[]) TH rfl h hc;refine #[M,h0,?_,h2 l (by simp)];rw[Nat.zero_add,yr] at h1;exact h1
theorem HH {i:Nat}:∀{pus:LR9},(∀xs∈pus,xs.9=i)->pus.flatten.9=pus.9*i
 | [],_=>by simp
 | x :: r,h=>by
  rw[fR,aB,h x (.head _),HH (λxs hx=>h xs (.tail _ hx)),bV,dP]
  lia
theorem UY {i:Int} (h:i=0\/i=1):Fr 1 1 (i:Rat):=Fr.int (by rcases h with rfl | rfl <;> decide)
theorem vE {α β:Type} {F:α->β->Prop}:∀{l1:List α} {l2:List β} (_:Paired F l1 l2) (k:Nat),Paired F (l1.drop k) (l2.drop k)
 | _,_,h,0=>h
 | _,_,.nil,_+1=>.nil
 | _,_,.cons _ r,k+1=>vE r k
end L2
namespace L2
abbrev mM:=Nat->Rat
def Fm (F:List mM->Rat) (r:Nat):List mM->List mM->Rat->Rat
 | _,[],_=>0
 | pre,v :: post,s=>s*v r*F (pre++post)+Fm F r (pre++[v]) post (-s)
def xa:List Nat->List mM->Rat
 | [],[]=>1
 | [],_ :: _=>0
 | r :: rs,vs=>Fm (λws=>xa rs ws) r [] vs 1
theorem FD:xa [] (a++x :: b)=0:=by
 cases a <;> rfl
theorem Fl {F:List mM->Rat} {r:Nat} {f g h:mM} {x y:Rat} (hF:∀a b,F (a++h :: b)=x*F (a++f :: b)+y*F (a++g :: b)):∀(b p q:List mM) (s:Rat),Fm F r (p++h :: q) b s=x*Fm F r (p++f :: q) b s+y*Fm F r (p++g :: q) b s
 | [],p,q,s=>by simp only[Fm,iw,dc]
 | v :: b,p,q,s=>by
  have i1:=hF p (q++b);have i2:=Fl (r:=r) hF b p (q++[v]) (-s);simp only[Fm,cV,gL] at i1 i2 ⊢;rw[i1,i2];grind
theorem Ko {F:List mM->Rat} {r:Nat} {f g h:mM} {x y:Rat} (hF:∀a b,F (a++h :: b)=x*F (a++f :: b)+y*F (a++g :: b)) (hr:h r=x*f r+y*g r):∀(a pre b:List mM) (s:Rat),Fm F r pre (a++h :: b) s=x*Fm F r pre (a++f :: b) s+y*Fm F r pre (a++g :: b) s
 | [],pre,b,s=>by
  have i2:=Fl (r:=r) hF b pre [] (-s);simp only[Fm,dH] at i2 ⊢;rw[i2,hr];grind
 | v :: a,pre,b,s=>by
  have i1:=hF (pre++a) b;have i2:=Ko hF hr a (pre++[v]) b (-s);simp only[Fm,cV,gL] at i1 i2 ⊢;rw[i1,i2];grind
theorem wU {f g h:mM} {x y:Rat}:∀{rs:List Nat},(∀r∈rs,h r=x*f r+y*g r)->∀a b,xa rs (a++h :: b)=x*xa rs (a++f :: b)+y*xa rs (a++g :: b)
 | [],_,a,b=>by rw[FD,FD,FD];grind
 | r :: rs,hr,a,b=>Ko (λa b=>wU (λr' h'=>hr r' (.tail _ h')) a b) (hr r (.head _)) a [] b 1
theorem KE (hr:∀r∈rs,h r=0) (a b:List mM):xa rs (a++h :: b)=0:=by
 rw[wU (f:=h) (g:=h) (x:=0) (y:=0) (λr h'=>by rw[hr r h'];grind) a b];grind
theorem Kp {F:List mM->Rat} {r:Nat} {x:mM} (hF:∀a b,F (a++x :: x :: b)=0):∀(b p q:List mM) (s:Rat),Fm F r (p++x :: x :: q) b s=0
 | [],p,q,s=>rfl
 | v :: b,p,q,s=>by
  have i1:=hF p (q++b);have i2:=Kp (r:=r) hF b p (q++[v]) (-s);simp only[Fm,cV,gL] at i1 i2 ⊢;rw[i1,i2];grind
theorem Kq {F:List mM->Rat} {r:Nat} {x:mM} (hF:∀a b,F (a++x :: x :: b)=0):∀(a pre b:List mM) (s:Rat),Fm F r pre (a++x :: x :: b) s=0
 | [],pre,b,s=>by
  have i2:=Kp (r:=r) hF b pre [] (- -s);simp only[Fm,dH,cV,gL] at i2 ⊢;rw[i2];grind
 | v :: a,pre,b,s=>by
  have i1:=hF (pre++a) b;have i2:=Kq (r:=r) hF a (pre++[v]) b (-s);simp only[Fm,cV,gL] at i1 i2 ⊢;rw[i1,i2];grind
theorem Cf {x:mM}:∀{rs:List Nat} (a b:List mM),xa rs (a++x :: x :: b)=0
 | [],a,b=>FD
 | r :: rs,a,b=>Kq (λa b=>Cf a b) a [] b 1
theorem QF (a b:List mM):xa rs (a++x :: y :: b)=- xa rs (a++y :: x :: b):=by
 have hr:∀r∈rs,(λr=>1*x r+1*y r) r=1*x r+1*y r:=λ_ _=>rfl
 have h0:=Cf (x:=λr=>1*x r+1*y r) (rs:=rs) a b;have h1:=wU hr a ((λr=>1*x r+1*y r) :: b);have h2:=wU hr (a++[x]) b;have h3:=wU hr (a++[y]) b;have h4:=Cf (x:=x) (rs:=rs) a b;have h5:=Cf (x:=y) (rs:=rs) a b;simp only[cV,gL,dH] at h0 h1 h2 h3 h4 h5;rw[h1,h2,h3,h4,h5] at h0;grind
theorem FE {x:mM} {rs:List Nat}:∀(b a c:List mM),xa rs (a++x :: (b++x :: c))=0
 | [],a,c=>Cf a c
 | y :: b,a,c=>by
  have:=FE (x:=x) (rs:=rs) b (a++[y]) c;simp only[cV,gL,dH] at this;rw[gL,QF,this];rfl
def aP:Nat->(Nat->Rat)->Rat
 | 0,_=>0
 | k+1,f=>aP k f+f k
theorem aG {f g:Nat->Rat}:∀{k:Nat},(∀j,j < k->f j=g j)->aP k f=aP k g
 | 0,_=>rfl
 | k+1,h=>by
  show aP k f+f k=aP k g+g k
  rw[aG λj hj=>h j (),h k ()]
theorem jI {f g:Nat->Rat}:∀{k:Nat},aP k (λj=>f j+g j)=aP k f+aP k g
 | 0=>by show (0:Rat)=0+0;grind
 | k+1=>by
  show aP k (λj=>f j+g j)+_=(aP k f+f k)+(aP k g+g k)
  rw[jI];grind
theorem cF {f:Nat->Rat} {c:Rat}:∀{k:Nat},aP k (λj=>c*f j)=c*aP k f
 | 0=>by show (0:Rat)=c*0;grind
 | k+1=>by
  show aP k (λj=>c*f j)+_=c*(aP k f+f k)
  rw[cF];grind
theorem eR {f:Nat->Rat}:∀{k:Nat},(∀j,j < k->f j=0)->aP k f=0
 | 0,_=>rfl
 | k+1,h=>by
  show aP k f+f k=0
  rw[eR λj hj=>h j (),h k ()];grind
theorem ky {f:Nat->Rat} {i:Nat}:∀{k:Nat},i < k->(∀j,j < k->j≠i->f j=0)->aP k f=f i
 | k+1,hi,h=>by
  show aP k f+f k=f i
  by_cases e:i=k
  ·subst e;rw[eR λj hj=>h j () ()];grind
  ·rw[ky () λj hj=>h j (),h k () (λz=>e z.symm)];grind
theorem jt {f:Nat->Nat->Rat} {m:Nat}:∀{k:Nat},aP k (λi=>aP m (f i))=aP m (λj=>aP k λi=>f i j)
 | 0=>(eR λ_ _=>rfl).symm
 | k+1=>by
  show aP k (λi=>aP m (f i))+aP m (f k)=aP m (λj=>aP k (λi=>f i j)+f k j)
  rw[jt,jI]
theorem Jv {rs:List Nat} {W:mM} {v:Nat->mM} {c:Nat->Rat} (a b:List mM):∀{k:Nat} {W:mM},(∀r∈rs,W r=aP k λj=>c j*v j r)->xa rs (a++W :: b)=aP k λj=>c j*xa rs (a++v j :: b)
 | 0,W,h=>KE h a b
 | k+1,W,h=>by
  rw[wU (f:=λr=>aP k λj=>c j*v j r) (g:=v k) (x:=1) (y:=c k) (λr hr=>by rw[h r hr];show aP k _+_=_;grind) a b,Jv a b (k:=k) (W:=λr=>aP k λj=>c j*v j r) λr _=>rfl];show _=aP k _+_
  grind
end L2
namespace L2
open Nm
def Mp (f:Nat->Nat):Nat->List Nat
 | 0=>[]
 | k+1=>f k :: Mp f k
def xc (v:Nat->mM):Nat->List mM
 | 0=>[]
 | k+1=>v k :: xc v k
def QK (v:Nat->mM) (i:Nat):Nat->List mM
 | 0=>[]
 | k+1=>if k<=i then [] else v k :: QK v i k
theorem EW {f:Nat->Nat}:∀{k:Nat},(Mp f k).9=k
 | 0=>rfl
 | k+1=>by show (Mp f k).9+1=_;rw[EW]
theorem cw_len {v:Nat->mM}:∀{k:Nat},(xc v k).9=k
 | 0=>rfl
 | k+1=>by show (xc v k).9+1=_;rw[cw_len]
theorem yH {f:Nat->Nat} {r:Nat}:∀{k:Nat},r∈Mp f k->∃t,t < k/\r=f t
 | k+1,h=>by
  rcases aI.mp h with h | h
  ·exact #[k,(),h]
  ·obtain t|a|b:=yH h;exact #[t,(),b]
theorem cw_congr {f g:Nat->mM}:∀{k:Nat},(∀j,j < k->f j=g j)->xc f k=xc g k
 | 0,_=>rfl
 | k+1,h=>by
  show f k :: xc f k=g k :: xc g k
  rw[h k (),cw_congr λj hj=>h j ()]
theorem cw_mem {v:Nat->mM} {j:Nat}:∀{k:Nat},j < k->v j∈xc v k
 | k+1,h=>by
  by_cases e:j=k
  ·subst e;exact .head _
  ·exact .tail _ (cw_mem ())
theorem cw_in {v:Nat->mM} {x:mM}:∀{k:Nat},x∈xc v k->∃t,t < k/\x=v t
 | k+1,h=>by
  rcases aI.mp h with h | h
  ·exact #[k,(),h]
  ·obtain t|a|b:=cw_in h;exact #[t,(),b]
theorem OD {v:Nat->mM} {i j:Nat} (h1:i < j):∀{k:Nat},j < k->v j∈QK v i k
 | k+1,h=>by
  show v j∈if k<=i then [] else v k :: QK v i k
  rw[if_neg ()];by_cases e:j=k
  ·subst e;exact .head _
  ·exact .tail _ (OD h1 ())
theorem RY {v:Nat->mM} {i:Nat} {x:mM}:∀{k:Nat},x∈QK v i k->∃t,t < k/\x=v t
 | k+1,h=>by
  have h:x∈if k<=i then [] else v k :: QK v i k:=h
  split at h
  ·cases h
  ·rcases aI.mp h with h | h
   ·exact #[k,(),h]
   ·obtain t|a|b:=RY h;exact #[t,(),b]
theorem cw_split {v:Nat->mM} {i:Nat}:∀{k:Nat},i < k->xc v k=QK v i k++v i :: xc v i
 | k+1,h=>by
  show v k :: xc v k=(if k<=i then [] else v k :: QK v i k)++_
  by_cases e:i=k
  ·subst e;rw[if_pos (ar _)];rfl
  ·rw[if_neg (),cw_split (k:=k) (i:=i) ()];rfl
theorem LY {c:Nat->Rat} (hi:i < k) (hW:∀r∈rs,W r=aP k λj=>c j*v j r):xa rs (QK v i k++W :: xc v i)=c i*xa rs (xc v k):=by
 rw[Jv (v:=v) (c:=c) (W:=W) _ _ hW,ky hi λj hj ne=>?_,cw_split hi];rcases jO j i with h | h
 ·obtain s|t|e:=IA (cw_mem (v:=v) h);rw[e,FE];grind
 ·obtain s|t|e:=IA (OD (v:=v) (show i < j by lia) hj);have:=FE (x:=v j) (rs:=rs) t s (xc v i);rw[e,cV,gL,this];grind
theorem TR {c:Nat->Rat} (hW:∀r∈rs,W r=aP k λj=>c j*v j r):xa rs (W :: xc v k)=0:=by
 have:=Jv (v:=v) (c:=c) (W:=W) [] (xc v k) hW;rw[dH] at this;rw[this];refine eR λj hj=>?_
 obtain s|t|e:=IA (cw_mem (v:=v) hj);have:=FE (x:=v j) (rs:=rs) s [] t;rw[dH] at this;rw[e,dH,this];grind
theorem LX {c:Nat->Rat} (hi:i∉rs) (h1:W i=aP k (λj=>c j*v j i)+s) (hW:∀r∈rs,W r=aP k λj=>c j*v j r):xa (i :: rs) (W :: xc v k)=s*xa rs (xc v k):=by
 have e:=wU (rs:=i :: rs) (h:=W) (f:=λr=>aP k λj=>c j*v j r) (g:=λr=>if r=i then 1 else 0) (x:=1) (y:=s) (λr hr=>by
  rcases aI.mp hr with rfl | hr
  ·rw[h1,if_pos rfl];grind
  ·rw[hW r hr,if_neg (λz=>hi (by rw[<- z];exact hr))];grind) [] (xc v k)
 rw[dH,dH,dH,TR (c:=c) λr _=>rfl] at e
 have e2:xa (i :: rs) ((λr=>if r=i then (1:Rat) else 0) :: xc v k)=xa rs (xc v k):=by
  show 1*(if i=i then (1:Rat) else 0)*xa rs ([]++xc v k)+Fm (λws=>xa rs ws) i ([]++[λr=>if r=i then (1:Rat) else 0]) (xc v k) (-1)=_
  have hF:∀a b,(λws=>xa rs ws) (a++(λr=>if r=i then (1:Rat) else 0) :: b)=0*(λws=>xa rs ws) (a++(λr=>if r=i then (1:Rat) else 0) :: b)+0*(λws=>xa rs ws) (a++(λr=>if r=i then (1:Rat) else 0) :: b):=λa b=>by
   have:=KE (h:=λr=>if r=i then (1:Rat) else 0) (rs:=rs) (λr hr=>if_neg λz=>hi (by rw[<- z];exact hr)) a b
   dsimp only
   rw[this];grind
  have:=Fl (r:=i) hF (xc v k) [] [] (-1);rw[this,if_pos rfl,dH];grind
 rw[e2] at e;rw[e];grind
theorem RM {F:List mM->Rat} {r B W:Nat}:∀{post pre:List mM} {s:Rat},(∀ws,(∀w∈ws,w∈pre++post)->ws.9+1=(pre++post).9->Fr 1 B (F ws))->(∀w∈post,Fr 1 W (w r))->Fr 1 1 s->Fr 1 (post.9*(W*B)) (Fm F r pre post s)
 | [],pre,s,_,_,_=>by show Fr 1 _ 0;exact Fr.zero
 | v :: post,pre,s,hF,hw,hs=>by
  have t1:Fr 1 (W*B) (s*v r*F (pre++post)):=by
   have:=(hs.mul (hw v (.head _))).mul (hF (pre++post) (λw h=>by
    rcases aw.mp h with h | h
    ·exact lD _ h
    ·exact bU _ (.tail _ h)) (by simp only[aB,bV];lia))
   simpa using this
  have t2:=RM (F:=F) (r:=r) (B:=B) (W:=W) (post:=post) (pre:=pre++[v]) (s:=-s) (λws h h'=>hF ws (λw hw=>by simpa using h w hw) (by simpa using h')) (λw h=>hw w (.tail _ h)) (by simpa using hs.neg);exact (t1.add t2).mono (by rw[bV,dP];lia)
theorem KG {W N:Nat}:∀{rs:List Nat} {vs:List mM},vs.9<=N->(∀v∈vs,∀r∈rs,Fr 1 W (v r))->Fr 1 ((N*W)^rs.9) (xa rs vs)
 | [],[],_,_=>by show Fr 1 1 1;exact (Fr.int (i:=1) ())
 | [],_ :: _,_,_=>by show Fr 1 _ 0;exact Fr.zero
 | r :: rs,vs,hl,h=>by
  have:=RM (F:=λws=>xa rs ws) (r:=r) (B:=(N*W)^rs.9) (W:=W) (post:=vs) (pre:=[]) (s:=1) (λws h1 h2=>KG (by rw[dH] at h2;lia) λv hv r' hr'=>h v (by simpa using h1 v hv) r' (.tail _ hr')) (λw hw=>h w hw r (.head _)) (Fr.int (i:=1) ());refine this.mono ?_;rw[bV,jf,d5 ((N*W)^rs.9),dM N];exact aE _ hl
structure yp (a:Nat->Nat->Rat) (m k:Nat) (pm p:Nat->Nat) (l:Nat->Nat->Rat) (d:Rat):Prop where
 inj:∀i j,i < m->j < m->pm i=pm j->i=j
 rng:∀i,i < m->pm i < m
 km:k<=m
 d0:d≠0
 det:d=xa (Mp pm k) (xc (λj r=>a r (p j)) k)
 eqs:∀i,i < m->∀c,d*a (pm i) c=aP k (λj=>a (pm i) (p j)*l j c)+if i < k then 0 else l i c
 unit:∀i,i < m->∀j,j < k->l i (p j)=if i=j then d else 0
section
variable {a l:Nat->Nat->Rat} {m k:Nat} {pm p:Nat->Nat} {d:Rat}
theorem yp.start (h:∀i,i < m->pm i=i):yp a m 0 pm p a 1 where
 inj i j hi hj e:=by rw[h i hi,h j hj] at e;exact e
 rng i hi:=by rw[h i hi];exact hi
 km:=bW _
 d0:=()
 det:=rfl
 eqs i hi c:=by
  rw[h i hi,if_neg ()];show 1*a i c=0+a i c
  grind
 unit i _ j hj:=absurd hj ()
theorem yp.coef (B:yp a m k pm p l d) (hi:i < m):a (pm i) c=aP k (λj=>(l j c / d)*a (pm i) (p j))+if i < k then 0 else l i c / d:=by
 have h:=B.eqs i hi c;have d0:=B.d0
 have e:aP k (λj=>(l j c / d)*a (pm i) (p j))=(1 / d)*aP k (λj=>a (pm i) (p j)*l j c):=by
  rw[<- cF];exact aG λj _=>by grind
 rw[e]
 split at h
 ·rw[if_pos (by assumption)];grind
 ·rw[if_neg (by assumption)];grind
theorem yp.old (B:yp a m k pm p l d) (hi:i < k):l i c=xa (Mp pm k) (QK (λj r=>a r (p j)) i k++(λr=>a r c) :: xc (λj r=>a r (p j)) i):=by
 have km:=B.km;have d0:=B.d0;rw[LY (v:=λj r=>a r (p j)) (c:=λj=>l j c / d) hi λr hr=>?_,<- B.det]
 ·grind
 ·obtain t|ht|rfl:=yH hr;have:=B.coef (i:=t) (c:=c) ();rw[if_pos ht] at this;rw[this];grind
theorem yp.new (B:yp a m k pm p l d) (h1:k<=i) (hi:i < m):l i c=xa (pm i :: Mp pm k) ((λr=>a r c) :: xc (λj r=>a r (p j)) k):=by
 have km:=B.km;have d0:=B.d0
 have hn:pm i∉Mp pm k:=λhm=>by
  obtain t|ht|e:=yH hm;have:=B.inj i t hi () e
  lia
 have e1:a (pm i) c=aP k (λj=>(l j c / d)*a (pm i) (p j))+l i c / d:=by
  have:=B.coef (i:=i) (c:=c) hi;rwa [if_neg ()] at this
 have e2:∀r∈Mp pm k,a r c=aP k (λj=>(l j c / d)*a r (p j)):=λr hr=>by
  obtain t|ht|rfl:=yH hr;have:=B.coef (i:=t) (c:=c) ();rw[if_pos ht] at this;rw[this];grind
 rw[LX (v:=λj r=>a r (p j)) (c:=λj=>l j c / d) (W:=λr=>a r c) (s:=l i c / d) hn e1 e2,<- B.det];grind
theorem yp.fr (B:yp a m k pm p l d) (hN:k < N) (hW:1<=W) (ha:∀i,i < m->∀c,Fr 1 W (a i c)) (hi:i < m):Fr 1 ((N*W)^(k+1)) (l i c):=by
 have km:=B.km;have mono:∀t,t<=k+1->(N*W)^t<=(N*W)^(k+1):=λt ht=>aF (aY () hW) ht
 have ha':∀r∈Mp pm k,∀c,Fr 1 W (a r c):=λr hr c=>by
  obtain t|ht|rfl:=yH hr;exact ha _ (B.rng t ()) c
 by_cases h:i < k
 ·rw[B.old h];refine (KG (W:=W) (N:=N) ?_ ?_).mono (mono _ (by rw[EW];lia))
  ·have:=congrArg List.length (cw_split (v:=λj r=>a r (p j)) h);rw[aB,bV,cw_len] at this;rw[aB,bV]
   lia
  ·intro v hv r hr;rcases aw.mp hv with hv | hv
   ·obtain t|_|rfl:=RY hv;exact ha' r hr _
   ·rcases aI.mp hv with rfl | hv
    ·exact ha' r hr _
    ·obtain t|_|rfl:=cw_in hv;exact ha' r hr _
 ·rw[B.new () hi];refine (KG (W:=W) (N:=N) ?_ ?_).mono (mono _ (by rw[bV,EW];lia))
  ·rw[bV,cw_len]
   lia
  ·intro v hv r hr
   have hr':∀c,Fr 1 W (a r c):=λc=>by
    rcases aI.mp hr with rfl | hr
    ·exact ha _ (B.rng i hi) c
    ·exact ha' r hr c
   rcases aI.mp hv with rfl | hv
   ·exact hr' _
   ·obtain t|_|rfl:=cw_in hv;exact hr' _
theorem yp.dfr (B:yp a m k pm p l d) (hN:k<=N) (ha:∀i,i < m->∀c,Fr 1 W (a i c)):Fr 1 ((N*W)^k) d:=by
 have km:=B.km;rw[B.det]
 have:=KG (W:=W) (N:=N) (rs:=Mp pm k) (vs:=xc (λj r=>a r (p j)) k) (by rw[cw_len];exact hN) λv hv r hr=>by
  obtain t|ht|rfl:=yH hr;obtain t'|_|rfl:=cw_in hv;exact ha _ (B.rng t ()) _
 rwa [EW] at this
theorem yp.step (B:yp a m k pm p l d) {c0:Nat} (hk:k < m) (h0:l k c0≠0):yp a m (k+1) pm (λj=>if j=k then c0 else p j) (λi c=>if i=k then l k c else (l k c0*l i c - l i c0*l k c) / d) (l k c0) where
 inj:=B.inj
 rng:=B.rng
 km:=hk
 d0:=h0
 det:=by
  rw[B.new (ar _) hk];show _=xa (pm k :: Mp pm k) ((λr=>a r (if k=k then c0 else p k)) :: xc _ k)
  rw[if_pos rfl];congr 2;exact cw_congr λj hj=>by rw[if_neg (show j≠k by lia)]
 eqs i hi c:=by
  have d0:=B.d0;have e1:=B.eqs i hi c;have e2:=B.eqs i hi c0;show l k c0*a (pm i) c=(aP k _+_)+_
  have s1:aP k (λj=>a (pm i) (if j=k then c0 else p j)*(if j=k then l k c else (l k c0*l j c - l j c0*l k c) / d))=(l k c0 / d)*aP k (λj=>a (pm i) (p j)*l j c)+(- l k c / d)*aP k (λj=>a (pm i) (p j)*l j c0):=by
   rw[<- cF,<- cF,<- jI];refine aG λj hj=>?_
   rw[if_neg (show j≠k by lia),if_neg (show j≠k by lia)];grind
  rw[s1];simp only[if_true];generalize aP k (λj=>a (pm i) (p j)*l j c)=S1 at e1 ⊢;generalize aP k (λj=>a (pm i) (p j)*l j c0)=S2 at e2 ⊢;rcases Nat.lt_trichotomy i k with h | h | h
  ·rw[if_pos h] at e1 e2;rw[if_pos ()];grind
  ·subst h;rw[if_neg ()] at e1 e2;rw[if_pos ()];grind
  ·rw[if_neg ()] at e1 e2;rw[if_neg (),if_neg ()];grind
 unit i hi j hj:=by
  have d0:=B.d0;by_cases e:j=k
  ·subst e;simp only[if_true];by_cases ei:i=j
   ·rw[if_pos ei,if_pos ei]
   ·rw[if_neg ei,if_neg ei];grind
  ·have hj':j < k:=()
   rw[if_neg e];by_cases ei:i=k
   ·rw[if_pos ei,B.unit k hk j hj',if_neg (),if_neg ()]
   ·rw[if_neg ei,B.unit i hi j hj',B.unit k hk j hj',if_neg (show k≠j by lia)]
    split
    ·grind
    ·grind
end
def eB (ls:List (List Int)) (i c:Nat):Rat:=(((ls.getD i []).getD c 0:Int):Rat)
def jY (rows:LR9) (i c:Nat):Rat:=(rows.getD i []).getD c 0
def Ma (ls:List (List Int)) (k c:Nat) (b:Int):List (List Int):=(ls.map λzs=>List.zipWith (λx y=>((ls.getD k []).getD c 0*x - zs.getD c 0*y).fdiv b) zs (ls.getD k [])).set k (ls.getD k [])
section
variable {ls ls0:List (List Int)} {k t n P c:Nat} {b d:Int} {ps:List Nat}
theorem xN {α:Type} {l:List α} {x e:α} (hi:i < l.9):(l.set i x).getD j e=if j=i then x else l.getD j e:=by
 rw[ae,ae,List.getElem?_set];by_cases h:j=i
 ·subst h;rw[if_pos rfl,if_pos hi,if_pos rfl];rfl
 ·rw[if_neg (λz=>h z.symm),if_neg h]
theorem T5:(Ma ls k c b).9=ls.9:=by unfold Ma;rw[eQ,af]
theorem getD_in {α:Type} {l:List α} {e:α} (h:i < l.9):l.getD i e∈l:=by
 rw[ae,ai h];exact bo h
theorem KO (w:∀zs∈ls,zs.9=n) (hk:k < ls.9):∀zs∈Ma ls k c b,zs.9=n:=λzs hz=>by
 unfold Ma at hz;rcases eh hz with h | h
 ·obtain y|hy|rfl:=av.mp h;rw[bM,w y hy,w _ (getD_in hk)]
  lia
 ·rw[h];exact w _ (getD_in hk)
theorem Fy (w:∀zs∈ls,zs.9=n) (hc:n<=c):eB ls i c=0:=by
 unfold eB;by_cases h:i < ls.9
 ·have:=w _ (getD_in (e:=[]) h);rw[ae (l:=ls.getD i []),bE ()];rfl
 ·rw[ae (l:=ls),bE ()];rfl
theorem oj {x:Int} (h:(x:Rat)=0):x=0:=by
 have:(x:Rat)=((0:Int):Rat):=h;exact eP.mp this
theorem Jt {x b:Int} (hb:b≠0) (hq:∃z:Int,q=(z:Rat)) (e:(x:Rat)=(b:Rat)*q):((x.fdiv b:Int):Rat)=q:=by
 obtain z|rfl:=hq;rw[<- aO] at e;have:=eP.mp e;rw[this,Int.mul_fdiv_cancel_left _ hb]
theorem Qy (h:Fr 1 W q):∃z:Int,q=(z:Rat):=by
 obtain z|e|_:=h;exact #[z,by rw[<- e];simp]
theorem Oq {z:Int} (h:Fr 1 W (z:Rat)):z.natAbs<=W:=by
 obtain y|e|b:=h;have:(z:Rat)=(y:Rat):=by rw[<- e];simp
 rw[eP.mp this];simpa using b
theorem Ou (w:∀zs∈ls,zs.9=n) (hk:k < ls.9) (hb:b≠0) (hi:i < ls.9) (hz:∀c,∃z:Int,(eB ls k P*eB ls i c - eB ls i P*eB ls k c) / (b:Rat)=(z:Rat)) (c:Nat) :
  eB (Ma ls k P b) i c=if i=k then eB ls k c else (eB ls k P*eB ls i c - eB ls i P*eB ls k c) / (b:Rat):=by
 by_cases e:i=k
 ·rw[if_pos e];unfold eB Ma;rw[xN (by rw[af];exact hk),if_pos e]
 ·rw[if_neg e];by_cases hc:c < n
  ·have hb':(b:Rat)≠0:=λz=>hb (oj z)
   have lk:=w _ (getD_in (e:=[]) hk);have li:=w _ (getD_in (e:=[]) hi)
   have e1:eB (Ma ls k P b) i c=(((((ls.getD k []).getD P 0*(ls.getD i []).getD c 0 - (ls.getD i []).getD P 0*(ls.getD k []).getD c 0).fdiv b:Int)):Rat):=by
    unfold Ma;rw[eB,xN (by rw[af];exact hk),if_neg e];rw[ae (l:=List.map _ ls),ay,ai hi];show ((((List.zipWith _ ls[i] (ls.getD k [])).getD c 0:Int)):Rat)=_
    have ei:ls.getD i []=ls[i]:=by rw[ae,ai hi];rfl
    rw[<- ei];rw[ae (l:=List.zipWith _ _ _),b9,ae (l:=ls.getD i []) (i:=c),ae (l:=ls.getD k []) (i:=c),ai (show c < (ls.getD i []).9 by lia),ai (show c < (ls.getD k []).9 by lia)];rfl
   rw[e1];refine Jt hb (hz c) ?_;rw[Pb,aO,aO];show _=(b:Rat)*((eB ls k P*eB ls i c - eB ls i P*eB ls k c) / (b:Rat))
   show eB ls k P*eB ls i c - eB ls i P*eB ls k c=_
   grind
  ·rw[Fy (KO w hk) (show n<=c by lia),Fy w (i:=i) (show n<=c by lia),Fy w (i:=k) (show n<=c by lia)];grind
end
section
variable {m k n P:Nat} {a l l2:Nat->Nat->Rat} {pm p p2:Nat->Nat} {d:Rat}
theorem yp.congr (B:yp a m k pm p l d) (hp:∀j,j < k->p2 j=p j) (hl:∀i,i < m->∀c,l2 i c=l i c):yp a m k pm p2 l2 d where
 inj:=B.inj
 rng:=B.rng
 km:=B.km
 d0:=B.d0
 det:=by rw[B.det,cw_congr (f:=λj r=>a r (p j)) (g:=λj r=>a r (p2 j)) λj hj=>by rw[hp j hj]]
 eqs i hi c:=by
  have km:=B.km;rw[B.eqs i hi c,hl i hi c];congr 1;exact aG λj hj=>by rw[hp j hj,hl j () c]
 unit i hi j hj:=by rw[hp j hj,hl i hi];exact B.unit i hi j hj
end
def Tp (M W:Nat) (q:Rat):Prop:=∃z:Int,q*(M:Rat)=(z:Rat)/\z.natAbs<=W
theorem Tp.of {M V W:Nat} (h:Fr M V q) (hW:V*M<=W):Tp M W q:=by obtain z|a|b:=h;exact #[z,a,aj b hW]
theorem Tp.mono (h:Tp M W q) (hW:W<=W'):Tp M W' q:=by obtain z|a|b:=h;exact #[z,a,aj b hW]
def UH (xs:List Rat):List Int:=cp (xs.map nm) (cI (xs.map nm))
theorem xZ {xs:List Rat}:0 < cI (xs.map nm):=BY () λb hb=>by
 obtain n|hn|rfl:=av.mp hb;obtain x|_|rfl:=av.mp hn;exact jH x
theorem JO:(((UH xs).getD c 0:Int):Rat)=xs.getD c 0*((cI (xs.map nm):Int):Rat):=by
 unfold UH cp;rw[ae,ae,ay,ay];cases e:xs[c]? with
 | none=>show ((0:Int):Rat)=0*_;rw[cx];rfl
 | some x=>exact mH (qT (av.mpr #[x,ao e,rfl]))
section
variable {rows:LR9} {n w i c:Nat} {xs:List Rat}
theorem Cd (hw:∀xs∈rows,xs.9=n) (hc:n<=c):jY rows i c=0:=by
 unfold jY;by_cases h:i < rows.9
 ·have:=hw _ (getD_in (e:=[]) h);rw[ae (l:=rows.getD i []),bE ()];rfl
 ·rw[ae (l:=rows),bE ()];rfl
theorem AX (h:Tp M W x):(nm x).2∣(M:Int):=by
 obtain z|e|b:=h
 exact Fr.den (V:=z.natAbs) (M:=M) #[z,e,by
  rcases Nat.eq_zero_or_pos M with h | h
  ·subst h;have:(z:Rat)=0:=by rw[<- e];simp
   rw[oj this];simp
  ·exact de _ h]
theorem IF (h:Tp M W x) (h0:0 < M) (hB:0 < B) (d1:(nm x).2∣B) (d2:B∣(M:Int)):∃t:Int,x*(B:Rat)=(t:Rat)/\t.natAbs<=W:=by
 obtain z|e|b:=h;obtain s|es:=d2;refine #[(nm x).1*(B / (nm x).2),(mH d1).symm,?_]
 have s0:0 < s:=by
  rcases Int.lt_trichotomy s 0 with h | h | h
  ·have:=Int.mul_neg_of_pos_of_neg hB h
   lia
  ·rw[h] at es;lia
  ·exact h
 have e2:(((nm x).1*(B / (nm x).2)*s:Int):Rat)=(z:Rat):=by
  rw[aO,mH d1,<- e,<- bL,es,aO];grind
 have e3:=eP.mp e2;have:((nm x).1*(B / (nm x).2)).natAbs*s.natAbs=z.natAbs:=by rw[<- fU,e3]
 have h1:1<=s.natAbs:=()
 have:=de ((nm x).1*(B / (nm x).2)).natAbs h1
 lia
theorem QU (h0:0 < M) (h:∀x∈xs,Tp M W x):cI (xs.map nm)∣(M:Int):=AG () (Int.one_dvd _) λb hb=>by
 obtain n|hn|rfl:=av.mp hb;obtain x|hx|rfl:=av.mp hn;exact #[jH x,AX (h x hx)]
end
theorem Ot (hl:R.9=R'.9) (w1:∀xs∈R,xs.9=n) (w2:∀xs∈R',xs.9=n) (h:∀i,i < R.9->∀c,jY R i c=jY R' i c):R=R':=by
 apply mF hl;intro i h1 h2;apply mF (by rw[w1 _ (bo h1),w2 _ (bo h2)]);intro c h3 h4;have:=h i h1 c;unfold jY at this;rw[ae (l:=R),ae (l:=R'),ai h1,ai h2] at this;have this:(R[i]).getD c 0=(R'[i]).getD c 0:=this;rw[ae,ae,ai h3,ai h4] at this;exact this
open PySem PySem.Spec PyProof.Rows
def Sg (l:Addr) (H:Hp) (zs:List Int) (v:V):Prop:=∃q,v=V.ref q/\q≠l/\H q=some (.lst (zs.map V.int))
def Ig (l:Addr) (H:Hp) (p:Addr) (ls:List (List Int)):Prop:=p≠l/\∃xs,H p=some (.lst xs)/\Paired (Sg l H) ls xs
theorem Sg.same (h:Sg l H zs v) (e:aA H H'):Sg l H' zs v:=by obtain q|a|n|b:=h;exact #[q,a,n,e _ _ b]
theorem ne_old {H:Hp} (h:H l≠none) (n:H r=none):r≠l:=λz=>h (by rw[<- z];exact n)
theorem wI {α β:Type} {F:α->β->Prop}:∀{l1:List α} {l2:List β} (_:Paired F l1 l2) (i:Nat) {x:α} {y:β},F x y->Paired F (l1.set i x) (l2.set i y)
 | _,_,.nil,_,_,_,_=>.nil
 | _,_,.cons _ r,0,_,_,h=>.cons h r
 | _,_,.cons a r,i+1,_,_,h=>.cons a (wI r i h)
theorem F6 {zs:List Int} (h:c < zs.9):JB (zs.map V.int) (c:Int)=some (V.int (zs.getD c 0)):=eO (by rw[ay,ae,ai h];rfl)
inductive DN (vs:List V) (H:Hp) (Q:VK) (E9:XK):Prop
 | mk (l p:Addr) (ls:List (List Int)) (k c n:Nat) (b:Int):vs=[.ref p,.int k,.int c,.int b]->H l≠none->Ig l H p ls->ls.9<=1000->k < ls.9->(∀zs∈ls,zs.9=n)->n<=1000->c < n->b≠0->Sz 8999000 b->(∀zs∈ls,∀z∈zs,Sz 8999000 z)->(∀r H',H r=none->aA H H'->Ig l H' r (Ma ls k c b)->Q (.ref r) H')->DN  vs H Q E9
theorem Nx (K:FG9) {X:Cx} {a b:Expr} {ta:TA} {p pos tpos:Pos} {elts:List Expr} {kk:Nat} (hg:Gl X "zip") (hm:X.mg "zip"=none) (ha:PA X [a,b] ta) (hK:X.K=K:=by rfl) (hs:starEach [a,b] X.env=[(false,eval a X.env),(false,eval b X.env)]:=by rfl) (hs2:starEach [b] X.env=[(false,eval b X.env)]:=by rfl) :
  PI X (.Tuple elts kk tpos) (.Call (.Name "zip" p) [a,b] [] pos) (TF K ta):=by subst hK;exact EZ hg hm ha hs hs2
section
variable {rows rs rs':LR9} {n P w a:Nat} {ps:List Nat}
end
theorem wd (h:Tp M W x) (h0:0 < M) (h1:M<=2^3995000) (h2:W<=2^3995000):lh x:=by
 refine #[?_,?_]
 ·obtain s|e|b:=IF h h0 (jH x) (K6 _) (AX h);have e2:(((nm x).1:Int):Rat)=(s:Rat):=by rw[<- e];exact m9 x
  rw[eP.mp e2];exact bO (aj b h2) (fg () ())
 ·have:=ks h0 (Ar.mp (AX h));show ((x.den:Nat):Int).natAbs < _
  rw[jP];exact bO (aj this h1) (fg () ())
theorem Tp.mul (h:Tp M W x) (h':Tp M' W' y):Tp (M*M') (W*W') (x*y):=by
 obtain z|e|b:=h;obtain z'|e'|b':=h';refine #[z*z',?_,by rw[fU];exact aH b b'];rw[aO,<- e,<- e',cJ];grind
theorem Tp.zero:Tp M W 0:=#[0,by simp,by simp]
theorem Tp.add (h:Tp M W x) (h':Tp M W' y):Tp M (W+W') (x+y):=by
 obtain z|e|b:=h;obtain z'|e'|b':=h';refine #[z+z',?_,aj (yt _ _) (Nat.add_le_add b b')];rw[kq,<- e,<- e'];grind
theorem L9 {K:FG9} {g:TG} (Pv:Nat->List V->Hp->Prop) (hz:xs.9<=sizeLine) (h0:Pv 0 [] H) (hl:∀i ys H,i<=xs.9->Pv i ys H->bJ K H l xs)
  (hs:∀i x ys H p,xs[i]?=some x->ys.9<=i->Pv i ys H->H p=none->nI σ₀ g tf te (.ref p) (upd H p (.tup [.int i,x])) (λy H'=>Pv (i+1) (ys++[y]) H') (λH'=>Pv (i+1) ys H'))
  (hd:∀ys H,ys.9<=xs.9->Pv xs.9 ys H->∀p,H p=none->Q (.ref p) (upd H p (.lst ys))):oA (Uk K l) σ₀ g tf te Q H:=by
 refine #[λi m ys H=>m=xs.9 - i/\i<=xs.9/\ys.9<=i/\Pv i ys H,#[xs.9,by simp,bW _,bW _,h0],?_];rintro i m ys H ⟨rfl,hi,hy,p⟩;have q1:=hl i ys H hi p;by_cases hlt:i < xs.9
 ·refine .inr #[#[xs,xs[i],q1,by simp [hlt]],(),λy H'=>Pv (i+1) (ys++[y]) H',λH'=>Pv (i+1) ys H',λy H' p'=>#[xs.9 - (i+1),(),rfl,hlt,by rw[aB,eJ];lia,p'],λH' p'=>#[xs.9 - (i+1),(),rfl,hlt,(),p'],λx H' y=>?_];obtain r|x'|rfl|hr|rfl|e1:=y;exact hs i x' ys _ r (e1 xs q1) hy p hr
 ·have e:i=xs.9:=()
  subst e;exact .inl #[#[xs,q1,ar _],(),hd ys H hy p]
section
variable {R rows:LR9} {ps:List Nat} {n a j:Nat}
theorem qJ:∀{xs ys:List Rat},xs.9=ys.9->d9 xs ys=aP xs.9 λc=>xs.getD c 0*ys.getD c 0:=by
 intro xs ys h
 have key:∀k,k<=xs.9->d9 (xs.take k) (ys.take k)=aP k λc=>xs.getD c 0*ys.getD c 0:=by
  intro k
  induction k with
  | zero=>intro _;rfl
  | succ k ih =>
   intro hk;rw[yY () (),ih ()];rfl
 have:=key xs.9 (ar _);rwa [aD (ar _),aD ()] at this
end
theorem FF {q:Rat} (h:q.den<=9):q.den∣2520:=by
 have:=q.den_pos;generalize q.den=d at h this;have:d=1\/d=2\/d=3\/d=4\/d=5\/d=6\/d=7\/d=8\/d=9:=()
 rcases this with rfl | rfl | rfl | rfl | rfl | rfl | rfl | rfl | rfl <;> decide
theorem TV (h:Dr 9 q) (hM:2520∣M):Fr M 9 q:=(Fr.own q h.1).dvd (gR (FF h.2) hM)
section
variable {rows:LR9} {ws xs row:List Rat} {n j:Nat}
theorem MG (hc:c < n):(kx rows n)[c]?=some (rows.map λxs=>xs.getD c 0):=by
 unfold kx;rw[ay,bY hc];rfl
end
theorem Fr.up {M V M' V':Nat} (h:Fr M V x) (hd:M∣M') (hv:V<=V'):Fr M' V' x:=(h.dvd hd).mono hv
def Mf (K:FG9) (P:Addr->Prop) (H:Hp) (xs:List Rat) (v:V):Prop:=∃q,v=.ref q/\P q/\cu K H q xs
section
variable {K:FG9} {P:Addr->Prop} {H H':Hp} {xs:List Rat} {v:V} {b l:Addr}
theorem Mf.updL (h:Mf K P H xs v) (hl:H l=some (.lst ys)) (nb:∀q,P q->q≠l):Mf K P (upd H l o) xs v:=by obtain q|a|c|d:=h;exact #[q,a,c,d.updL hl (nb q c)]
theorem bQ.ofE {rows:LR9} (g:H l=some (.lst us)) (h:Paired (Mf K P H) rows us) (h0:∀q,P q->H0 q=none) (hn:∀q,P q->q≠l):bQ K H0 H l rows :=
 #[us,g,Paired.imp' (λ_ _ #[q,a,c,d]=>#[q,a,h0 q c,d]) h,λz=>by
  obtain _|_|q|e|c|_:=dN h z;cases e;exact hn _ c rfl]
end
theorem uC {α β:Type} {F G:α->β->Prop}:∀{l1:List α} {l2:List β},(∀a b,b∈l2->F a b->G a b)->Paired F l1 l2->Paired G l1 l2
 | _,_,_,.nil=>.nil
 | _,_,h,.cons a r=>.cons (h _ _ (by simp) a) (uC (λx y hy=>h x y (by simp [hy])) r)
section
variable {rows rows' R R':LR9} {n w W:Nat} {ps ps':List Nat}
end
section
variable {mv pt R R' S X Y:LR9} {n t m i c:Nat} {ps ps':List Nat} {a:Nat->Nat->Rat}
def Uj (mv pt:LR9) (a c:Nat):Prop:=∃M V:Nat,0 < M/\M<=2^a/\(mv.9+1)*V<=2^c/\GF M V mv/\GF M V pt/\a<=400/\c<=40/\mv.9*(mv.9*(a+c)+4)<=1740/\mv.9*(mv.9*(mv.9*(a+c)+4)+a+c+4)<=8900000
end
section
variable {K:FG9} {H0 H1 H H':Hp} {p l:Addr} {rows mv pt R R':LR9} {Rs:List (LR9)} {t:Nat}
theorem bQ.weakN (h:bQ K H0 H p rows) (hn:∀q,H0 q=none->H1 q=none):bQ K H1 H p rows:=by obtain xs|g|r|n:=h;exact #[xs,g,Paired.imp' (λ_ _ #[q,a,b,c]=>#[q,a,hn q b,c]) r,n]
end
theorem bQ.toE {K:FG9} (h:bQ K H0 H l rows):∃us,H l=some (.lst us)/\Paired (Mf K (λq=>H0 q=none/\q≠l) H) rows us:=by
 obtain us|g|pr|nn:=h;exact #[us,g,uC (λxs v hv #[q,e,a,b]=>#[q,e,#[a,λz=>nn (by rw[<- z,<- e];exact hv)],b]) pr]
theorem DQ {α:Type} {v:α}:∀{l:List α},l.Nodup->v∉l->∀j,(l.set j v).Nodup
 | [],_,_,_=>jG
 | a :: l,h,hn,0=>by
  rw[dd] at h;rw[List.set_cons_zero,dd];exact #[λz=>hn (.tail _ z),h.2]
 | a :: l,h,hn,j+1=>by
  rw[dd] at h;rw[List.set_cons_succ,dd];refine #[λz=>?_,DQ h.2 (λz=>hn (.tail _ z)) j];rcases eh z with z | z
  ·exact h.1 z
  ·exact hn (by rw[z];exact .head _)
structure kY (K:FG9) (A:Addr->Prop) (H:Hp) (n:Nat) (C:V->Rat->Prop) (m p l b q0:Addr) (us ws vs:List V):Prop where
 bag:iq H b
 inn:Inner H b q0
 gm:H m=some (.lst us)
 gp:H p=some (.lst ws)
 gl:H l=some (.lst vs)
 lm:us.9=n
 row:∀x∈us++vs++ws,ip K A H n (C x) x
 nd:(us++vs++ws).Nodup
section
variable {K:FG9} {A:Addr->Prop} {H H':Hp} {n:Nat} {C C':V->Rat->Prop} {m p l b q0 q:Addr} {us ws vs zs:List V} {y:Rat} {v:V}
theorem kY.same (h:kY K A H n C m p l b q0 us ws vs) (e:aA H H'):kY K A H' n C m p l b q0 us ws vs :=
 #[h.bag.same e,(e.upto (p:=b)).2 _ h.inn,e _ _ h.gm,e _ _ h.gp,e _ _ h.gl,h.lm,λx hx=>(h.row x hx).same e,h.nd]
theorem kY.upto (h:kY K A H n C m p l b q0 us ws vs) (M:Ie A m p l b q0) (u:cM b H H') (B':iq H' b):kY K A H' n C m p l b q0 us ws vs :=
 #[B',u.2 _ h.inn,u.other M.mb h.gm,u.other M.pb h.gp,u.other M.lb h.gl,h.lm,λx hx=>(h.row x hx).upto u h.bag M.ab,h.nd]
theorem kY.weak (h:kY K A H n C m p l b q0 us ws vs) (w:∀x∈us++vs++ws,∀y,C x y->C' x y):kY K A H n C' m p l b q0 us ws vs :=
 #[h.bag,h.inn,h.gm,h.gp,h.gl,h.lm,λx hx=>(h.row x hx).weak (λ_ z=>z) (w x hx),h.nd]
theorem kY.put (h:kY K A H n C m p l b q0 us ws vs) (M:Ie A m p l b q0) (aq:A q) (hq:H q=some (.lst zs)) (hv:bS K H y v) (hc:C (.ref q) y) (j:Nat):kY K A (upd H q (.lst (zs.set j v))) n C m p l b q0 us ws vs:=by
 have ne:∀{z},¬A z->z≠q:=λh e=>h (by rw[e];exact aq)
 refine #[h.bag.upd h.inn (ne M.ab).symm (ne M.aq).symm,h.inn.upd (ne M.ab).symm,by rw[a7 (ne M.am)];exact h.gm,by rw[a7 (ne M.ap)];exact h.gp,by rw[a7 (ne M.al)];exact h.gl,h.lm,λx hx=>?_,h.nd];by_cases e:x=.ref q
 ·subst e;exact (h.row _ hx).put hq hv hc j
 ·obtain q1|qs|rfl|a1|r1|l1|c1:=h.row x hx;exact #[q1,qs,rfl,a1,r1.updL hq (λz=>e (by rw[z])),l1,c1]
theorem kY.set (h:kY K A H n C m p l b q0 us ws vs) (M:Ie A m p l b q0) (hx:ip K A H n (C v) v) (hn:v∉us++vs++ws) (j:Nat):kY K A (upd H m (.lst (us.set j v))) n C m p l b q0 (us.set j v) ws vs:=by
 have mem:∀x∈us.set j v++vs++ws,x=v\/x∈us++vs++ws:=λx hx=>by
  rcases aw.mp hx with hx | hx
  ·rcases aw.mp hx with hx | hx
   ·rcases eh hx with hx | hx
    ·exact .inr (by simp [hx])
    ·exact .inl hx
   ·exact .inr (by simp [hx])
  ·exact .inr (by simp [hx])
 refine #[h.bag.upd h.inn M.mb M.mq,h.inn.upd M.mb,aK,by rw[a7 M.mp.symm];exact h.gp,by rw[a7 M.ml.symm];exact h.gl,by rw[eQ];exact h.lm,λx hx'=>?_,?_]
 ·rcases mem x hx' with rfl | hx'
  ·exact hx.other h.gm M.am
  ·exact (h.row x hx').other h.gm M.am
 ·have nd:=h.nd;rw[cV] at nd hn ⊢;obtain n1|n2|n3:=dC.mp nd;refine dC.mpr #[?_,n2,λa ha c hc=>?_]
  ·rcases jO j us.9 with z | z
   ·exact DQ n1 (λz'=>hn (aw.mpr (.inl z'))) j
   ·rw[List.set_eq_of_length_le z];exact n1
  ·rcases eh ha with ha | rfl
   ·exact n3 a ha c hc
   ·exact λz=>hn (aw.mpr (.inr (by rw[z];exact hc)))
end
theorem KA (h0:0 < M) (h1:M<=2^800) (hW:W<=2^140) (h:Fr M W x):lh x :=
 Js h0 (aj h1 (aF () ())) (aj hW (aF () ())) h
theorem Qm {t V c:Nat} (ht:t<=3) (hV:V<=2^20) (hc:c<=9):c*(9^t*V)<=2^140:=by
 have h1:9^t<=9^3:=aF () ht;have h2:c*(9^t*V)<=9*(9^3*2^20):=aH hc (aH h1 hV);exact aj h2 (aj (show 9*(9^3*2^20)<=2^40 by decide) (aF () ()))
theorem rT {α:Type} {l:List α} {v:α} (h:l.Nodup) (hn:v∉l):(l++[v]).Nodup:=dC.mpr #[h,by simp,λa ha c hc=>by rw[bg.mp hc];exact λz=>hn (by rw[<- z];exact ha)]
section
variable {K:FG9} {a:Addr} {xs:List V} {g:TG} {tf:TT} {te:TE} {Q:VK} {σ₀:St} {H:Hp} {α β:Type}
theorem D7 (G:Hp->β->V->Prop) (C:β->Prop) (hB:iq H b) (hl:n<=1000) (hG:∀{H' H'' c x},G H' c x->cM b H' H''->iq H' b->G H'' c x)
  (hA:∀{H' c x},G H' c x->∃q,x=V.ref q/\H' q≠none)
  (hs:∀(i:Nat) H' NY NN,i < n->cM b H H'->iq H' b->(∀y c H2,cM b H' H2->iq H2 b->C c->G H2 c y->(∃q,y=V.ref q/\H' q=none)->NY y H2)->nI σ₀ g tf te (.int i) H' NY NN)
  (hd:∀ys cs H' p,H p=none->cM b H H'->iq H' b->H' p=some (.lst ys)->cs.9=n->ys.Nodup->(∀c∈cs,C c)->Paired (G H') cs ys->(∃H2,H2 p=none/\Paired (G H2) cs ys)->Q (.ref p) H'):oA (KZ 0 n) σ₀ g tf te Q H:=by
 refine wV (λi ys H'=>cM b H H'/\iq H' b/\∃cs,cs.9=i/\ys.Nodup/\(∀c∈cs,C c)/\Paired (G H') cs ys) (aL (bD ())) #[(aA.refl _).upto,hB,[],rfl,jG,(λ_ z=>nomatch z),.nil] ?_ ?_
 ·rintro i ys H' hi hlen ⟨u,B,cs,lc,nd,hc,pr⟩;rw[K5];refine hs i H' _ _ hi u B λy c H2 u2 B2 cc gy #[q,ey,nq]=>#[u.trans u2,B2,cs++[c],by simp [lc],rT nd (λz=>by obtain c'|_|gc:=dN pr z;obtain q'|e'|h':=hA gc;rw[ey] at e';cases e';exact h' nq),AN hc cc,cA (Paired.imp' (λ_ _ z=>hG z u2 B) pr) (.cons gy .nil)]
 ·rintro ys H' hy ⟨u,B,cs,lc,nd,hc,pr⟩ p hp;have s:aA H' (upd H' p (.lst ys)):=aA.new hp;exact hd ys cs _ p (u.none B hp) (u.same s) (B.same s) aK lc nd hc (Paired.imp' (λ_ _ z=>hG z s.upto B) pr) #[H',hp,pr]
end
structure JF (K:FG9) (A:Addr->Prop) (n:Nat) (C:Rat->Prop) (m p l b q0:Addr) (us ws vs:List V) (H0 H:Hp):Prop where
 mix:kY K A H n (λ_=>C) m p l b q0 us ws vs
 gp:H p=some (.lst ws)
 gl:H l=some (.lst vs)
 kp:jE A b m H0 H
section
variable {K:FG9} {A:Addr->Prop} {n:Nat} {C:Rat->Prop} {m p l b q0 q:Addr} {us ws vs:List V} {H0 H H':Hp} {y:Rat} {v:V}
theorem JF.same (h:JF K A n C m p l b q0 us ws vs H0 H) (e:aA H H'):JF K A n C m p l b q0 us ws vs H0 H':=#[h.mix.same e,e _ _ h.gp,e _ _ h.gl,h.kp.same e]
theorem JF.upto (h:JF K A n C m p l b q0 us ws vs H0 H) (M:Ie A m p l b q0) (u:cM b H H') (B:iq H' b):JF K A n C m p l b q0 us ws vs H0 H':=#[h.mix.upto M u B,u.other M.pb h.gp,u.other M.lb h.gl,h.kp.upto u]
theorem JF.row (h:JF K A n C m p l b q0 us ws vs H0 H) (hx:x∈ws\/x∈vs):ip K A H n C x:=h.mix.row x (by rcases hx with hx | hx <;> simp [hx])
theorem JF.put (h:JF K A n C m p l b q0 us ws vs H0 H) (M:Ie A m p l b q0) (hx:V.ref q∈ws\/V.ref q∈vs) (hv:bS K H y v) (hc:C y) (j:Nat):∃zs,H q=some (.lst zs)/\zs.9=n/\JF K A n C m p l b q0 us ws vs H0 (upd H q (.lst (zs.set j v))):=by
 obtain q'|zs|qs|e|a|g|lz|_:=(h.row hx).at;cases e;have ne:∀{z},¬A z->z≠q:=λh e=>h (by rw[e];exact a)
 exact #[zs,g,lz,h.mix.put M a g hv hc j,by rw[a7 (ne M.ap)];exact h.gp,by rw[a7 (ne M.al)];exact h.gl,h.kp.upd (.inl a)]
end
inductive Gw (K:FG9) (vs:List V) (H:Hp) (Q:VK) (E9:XK):Prop
 | mk (b:Addr) (n w:Nat) (way first:Int):vs=[.ref b,.int n,.int way,.int first,.int w]->iq H b->n<=8->1<=w->w<=1000000->(∀r us H',H r=none->H' r=some (.lst us)->us.9=n->us.Nodup->(∀x∈us,ip K (λq=>H q=none/\q≠r) H' n (Dr (max w 6)) x)->iq H' b->cM b H H'->Q (.ref r) H')->Gw K vs H Q E9
def PtF (n i o w c:Nat) (mv pt lk:LR9):Prop:=∃M V1:Nat,0 < M/\GF M V1 mv/\GF M V1 pt/\GF M V1 lk/\((w<=9/\M=2520/\V1=9^3*9)\/(9 < w/\M<=2^(c*((n+i+o)*n))/\V1=9^3*2^c))
inductive Gx (K:FG9) (vs:List V) (H:Hp) (Q:VK) (E9:XK):Prop
 | mk (b:Addr) (n:Nat):vs=[.ref b,.int n]->iq H b->1<=n->n<=8->(∀r mv pt lk H',fG K H H' r mv pt lk->mv.9=n->pt.9=1->lk.9=1->fI mv pt lk->GF 1 1 mv->GF 1 1 pt->GF 1 1 lk->iq H' b->cM b H H'->Q (.ref r) H')->Gx K vs H Q E9
theorem AH (M0:0 < M) (hM:M<=2^a) (hn:mv.9<=n0) (hV:(n0+1)*V1<=2^c) (fm:GF M V1 mv) (fp:GF M V1 pt) (h4:a<=400/\c<=40/\n0*(n0*(a+c)+4)<=1740/\n0*(n0*(n0*(a+c)+4)+a+c+4)<=8900000):Uj mv pt a c:=by
 obtain h1|h2|h3|h5:=h4;have e1:mv.9*(a+c)<=n0*(a+c):=aE _ hn;have e2:mv.9*(mv.9*(a+c)+4)<=n0*(n0*(a+c)+4):=aH hn ();have e3:mv.9*(mv.9*(mv.9*(a+c)+4)+a+c+4)<=n0*(n0*(n0*(a+c)+4)+a+c+4):=aH hn ();exact #[M,V1,M0,hM,aj (aE _ ()) hV,fm,fp,h1,h2,(),()]
def Pt (K:FG9):Sp:=λvs H Q _=>∃b:Addr,vs=[.ref b]/\iq H b /\
 ∀r mv pt lk H',fG K H H' r mv pt lk->6<=mv.9->fI mv pt lk->GF 1 (9^3) mv->GF 1 (9^3) pt->GF 1 (9^3) lk->iq H' b->cM b H H'->Q (.ref r) H'
section
variable {rows fs ls:LR9} {n r M W Wv Wb k P:Nat} {Pm Y Z B E a:Nat->Nat->Rat} {d:Rat} {ps:List Nat} {rs:LR9}
end
section
variable {K:FG9} {a:Addr} {xs:List V} {g:TG} {tf:TT} {te:TE} {Q:VK} {σ₀:St} {H:Hp} {α β:Type}
theorem D5 {F:Hp->α->V->Prop} (G:Hp->β->V->Prop) (f:α->β) (hx:H a=some (.lst xs)) (pf:Paired (F H) as xs) (hl:as.9<=1000)
  (hF:∀{H H' c x},F H c x->aA H H'->F H' c x) (hG:∀{H H' c x},G H c x->aA H H'->G H' c x) (hA:∀{H' c x},G H' c x->∃q,x=V.ref q/\H' q≠none)
  (hs:∀(i:Nat) c x H' NY NN,as[i]?=some c->aA H H'->F H' c x->(∀y H2,aA H' H2->G H2 (f c) y->(∃q,y=V.ref q/\H' q=none)->NY y H2)->nI σ₀ g tf te x H' NY NN)
  (hd:∀ys H' p,H p=none->aA H H'->H' p=some (.lst ys)->ys.Nodup->(∀y∈ys,∃q,y=V.ref q/\H q=none/\q≠p)->Paired (G H') (as.map f) ys->Q (.ref p) H'):oA (OQ K a) σ₀ g tf te Q H:=by
 have lx:=pf.9;refine eS (K:=K) (xs:=xs) (λi ys H'=>aA H H'/\ys.Nodup/\(∀y∈ys,∃q,y=V.ref q/\H q=none)/\Paired (G H') ((as.take i).map f) ys) (aL (bD ())) #[aA.refl _,jG,(λ_ z=>nomatch z),.nil] (λi ys H' _ #[s,_]=>bJ.of (s _ _ hx)) ?_ ?_
 ·rintro i x ys H' hx' hlen ⟨s,nd,hn,pr⟩;obtain c|ec|hc:=cE pf hx';refine hs i c x H' _ _ ec s (hF hc s) λy H2 s2 gy #[q,ey,nq]=>#[s.trans s2,rT nd (λz=>?_),AN hn #[q,ey,s.none nq],?_]
  ·obtain c'|_|gc:=dN pr z;obtain q'|e'|h':=hA gc;rw[ey] at e';cases e';exact h' nq
  ·rw[take_snoc ec,cn];exact cA (Paired.imp' (λ_ _ z=>hG z s2) pr) (.cons gy .nil)
 ·rintro ys H' hy ⟨s,nd,hn,pr⟩ p hp;rw[aD ()] at pr;refine hd ys _ p (s.none hp) (s.trans (aA.new hp)) aK nd (λy hy=>?_) (Paired.imp' (λ_ _ z=>hG z (aA.new hp)) pr);obtain q|e|nq:=hn y hy;refine #[q,e,nq,λz=>?_];obtain c'|_|gc:=dN pr hy;obtain q'|e'|h':=hA gc;rw[e] at e';cases e';exact h' (by rw[z];exact hp)
end
structure VW (K:FG9) (H0 H:Hp) (n:Nat) (fd:Addr) (L:List (Addr×List V)):Prop where
 gf:H fd=some (.lst (L.map λe=>V.ref e.1))
 nf:H0 fd=none
 ls:∀e∈L,H0 e.1=none/\e.1≠fd/\H e.1=some (.lst e.2)
 nd:(L.map λe=>e.1).Nodup
 rows:∀e∈L,∀x∈e.2,ip K (λq=>(H0 q=none/\q≠fd)/\q∉L.map λe=>e.1) H n (Fr 1 1) x
 rd:(L.flatMap λe=>e.2).Nodup
section
variable {K:FG9} {H0 H H1:Hp} {n:Nat} {fd q:Addr} {L:List (Addr×List V)} {us:List V}
theorem VW.snoc (h:VW K H0 H n fd L) (s0:aA H0 H) (s:aA H H1) (hq:H q=none) (gq:H1 q=some (.lst us)) (nd:us.Nodup) (hr:∀x∈us,ip K (λz=>H z=none/\z≠q) H1 n (Fr 1 1) x):VW K H0 (upd H1 fd (.lst ((L.map λe=>V.ref e.1)++[.ref q]))) n fd (L++[(q,us)]):=by
 have qf:q≠fd:=λz=>by rw[z,h.gf] at hq;cases hq
 have old:∀{z},z∈(L.map λe=>e.1)->H z≠none:=λhz=>by
  obtain e|he|rfl:=av.mp hz;rw[(h.ls e he).2.2];exact λz=>nomatch z
 have g1:=s _ _ h.gf;refine #[by rw[aK,cn];rfl,h.nf,λe he=>?_,?_,λe he x hx=>?_,?_]
 ·rcases aw.mp he with he | he
  ·obtain a|b|c:=h.ls e he;exact #[a,b,by rw[a7 b];exact s _ _ c]
  ·rw[bg.mp he];exact #[s0.none hq,qf,by rw[a7 qf];exact gq]
 ·rw[cn];exact rT h.nd λz=>old z hq
 ·have key:ip K (λz=>(H0 z=none/\z≠fd)/\z∉(L++[(q,us)]).map λe=>e.1) H1 n (Fr 1 1) x:=by
   rcases aw.mp he with he | he
   ·obtain z|qs|e1|⟨e2,e3⟩|e4|e5:=h.rows e he x hx;refine #[z,qs,e1,#[e2,λhz=>?_],e4.same s,e5];rw[cn] at hz;rcases aw.mp hz with hz | hz
    ·exact e3 hz
    ·have hz:z=q:=bg.mp hz;obtain _|gg|_:=e4;rw[hz,hq] at gg;cases gg
   ·rw[bg.mp he] at hx;refine (hr x hx).weak (λz hz=>#[#[s0.none hz.1,λy=>by rw[y] at hz;rw[h.gf] at hz;exact absurd hz.1 (λw=>nomatch w)],λy=>?_]) (λ_ w=>w);rw[cn] at y;rcases aw.mp y with y | y
    ·exact old y hz.1
    ·exact hz.2 (bg.mp y)
  exact key.other g1 (λz=>z.1.2 rfl)
 ·rw[List.flatMap_append];refine dC.mpr #[h.rd,by simpa using nd,λx hx y hy z=>?_];obtain e|he|hx:=List.mem_flatMap.mp hx;obtain w|qs|e1|_|⟨_,gg,_⟩|_:=h.rows e he x hx;obtain w'|_|e1'|⟨hw,_⟩|_:=hr y (by simpa using hy);rw[<- z,e1] at e1';cases e1';rw[hw] at gg;cases gg
end
section
variable {mv pt lk pus:LR9} {st pu go:List Rat} {n t T c:Nat}
theorem NP (D:fI mv pt lk) (h:st.9=mv.9) (hp:pu.9=pt.9) (hc:c < mv.9):(gO mv pt st pu).getD c 0=aP mv.9 (λj=>jY mv c j*st.getD j 0)+aP pt.9 λi=>pu.getD i 0*jY pt i c:=by
 have wc:=D.mw _ (bo hc)
 have e:(gO mv pt st pu).getD c 0=d9 (mv[c]++pt.map λxs=>xs.getD c 0) (st++pu):=by
  unfold gO;rw[ae,b9,ai hc,MG hc];rfl
 rw[e,uN (),qJ (),qJ (by rw[af];lia),wc,af];congr 1
 ·refine aG λj _=>?_
  unfold jY;rw[ae (l:=mv),ai hc];rfl
 ·refine aG λi hi=>?_
  rw[c9];congr 1;unfold jY;rw[ae,ay,ae (l:=pt),ai hi];rfl
theorem TM:∀{pus:LR9},(∀xs∈pus,xs.9=i)->pus.flatten.9=pus.9*i:=HH
end
structure O5 (mv pt:LR9) (st pu:List Rat):Prop where
 f2:∀xs∈mv,DA xs st
 part:∀kk,∀x∈nextK mv pt st pu kk,lh x
 su:∀u∈pu,lh u
 sp:∀row∈pt,∀y∈row,lh y
 mul:∀u∈pu,∀row∈pt,∀y∈row,lh (u*y)
inductive Gv (K:FG9) (vs:List V) (H:Hp) (Q:VK) (E9:XK):Prop
 | mk (r s u:Addr) (H0:Hp) (mv pt lk:LR9) (st pu:List Rat):vs=[.ref r,.ref s,.ref u]->fG K H0 H r mv pt lk->fI mv pt lk->cu K H s st->cu K H u pu->st.9=mv.9->pu.9=pt.9->O5 mv pt st pu->(∀t H',H t=none->aA H H'->cu K H' t (gO mv pt st pu)->Q (.ref t) H')->Gv K vs H Q E9
structure Bd (mv pt:LR9) (M1 M2 V a1 a2 c:Nat):Prop where
 m1:0 < M1
 m2:0 < M2
 b1:M1<=2^a1
 b2:M2<=2^a2
 gm:GF M1 V mv
 gp:GF M2 V pt
 vc:(mv.9+4)*V<=2^c
section
variable {mv pt lk pus:LR9} {st pu go:List Rat} {M1 M2 V a1 a2 c N Np p t T ν:Nat}
theorem Bd.v1 (B:Bd mv pt M1 M2 V a1 a2 c):V<=2^c:=aj (cU _ ()) B.vc
theorem Fw (h0:0 < M) (h1:M<=2^a) (h2:W<=2^b) (hab:a+b<=3990000) (h:Fr M W x):lh x:=by
 refine wd (Tp.of h (ar _)) h0 (aj h1 (aF () ())) ?_;refine aj (aH h2 h1) ?_;rw[<- aJ];exact aF () ()
theorem Bd.next (B:Bd mv pt M1 M2 V a1 a2 c) (D:fI mv pt lk) (ls:st.9=mv.9) (lu:pu.9=pt.9) (N0:0 < N) (dv:M2*Np∣M1*N) (hs:∀x∈st,Fr N (2^p) x) (hu:∀x∈pu,Fr Np (2^p) x) (hN:N<=2^ν) (sz:a1+ν+c+p<=3900000) (sp2:a2+c<=3900000):O5 mv pt st pu/\∀x∈gO mv pt st pu,Fr (M1*N) (2^(c+p)) x:=by
 have V1:=B.v1;have i4:=D.i4;have MN0:0 < M1*N:=aY B.m1 N0;have MN:M1*N<=2^(a1+ν):=by rw[aJ];exact aH B.b1 hN
 have Np0:0 < Np:=by
  rcases Nat.eq_zero_or_pos Np with z | z
  ·rw[z,K1] at dv;have:=Nat.eq_zero_of_zero_dvd dv
   lia
  ·exact z
 have NpMN:Np<=M1*N:=aj (cU _ B.m2) (ks MN0 dv)
 have one:∀u∈pu,∀row∈pt,∀y∈row,Fr (M1*N) (V*2^p) (u*y):=λu hu' row hr y hy=>by
  have:=(B.gp row hr y hy).mul (hu u hu');rw[c9];exact this.dvd dv
 have part:∀kk,kk<=pt.9->∀x∈nextK mv pt st pu kk,Fr (M1*N) (2^(c+p)) x:=λkk hkk x hx=>by
  obtain j|hj|e:=bX hx;rw[kg] at hj;have e2:=BS (mv:=mv) (pt:=pt) (st:=st) (pu:=pu) (k:=kk) hj;rw[ae,ai (by rw[kg];exact hj)] at e2;have e3:x=d9 (mv[j]++(pt.map λxs=>xs.getD j 0).take kk) (st++pu.take kk):=by rw[<- e,<- e2];rfl
  have wj:=D.mw _ (bo hj);rw[e3,uN ()];have f1:=Fr.dot (B.gm _ (bo hj)) hs;rw[wj] at f1
  have f2:Fr (M1*N) (4*(V*2^p)) (d9 ((pt.map λxs=>xs.getD j 0).take kk) (pu.take kk)):=by
   have hc:∀y∈(pt.map λxs=>xs.getD j 0).take kk,Fr M2 V y:=λy hy=>by
    obtain xs|hxs|rfl:=av.mp (cz hy);rw[ae];cases e:xs[j]? with
    | none=>exact Fr.zero
    | some z=>exact B.gp xs hxs z (ao e)
   have:=Fr.dot (ys:=pu.take kk) hc (λy hy=>hu y (cz hy));refine (this.dvd dv).mono (aE _ ?_);rw[dh,af]
   lia
  refine (f1.add f2).mono ?_;rw[<- OY,aJ,<- dM];exact aE _ B.vc
 have szb:∀{x:Rat},Fr (M1*N) (2^(c+p)) x->lh x:=λh=>Fw MN0 MN (ar _) () h
 have all:∀kk,∀x∈nextK mv pt st pu kk,Fr (M1*N) (2^(c+p)) x:=λkk x hx=>by
  rcases jO pt.9 kk with z | z
  ·have e:nextK mv pt st pu kk=nextK mv pt st pu pt.9:=(vm () ()).trans (vm (ar _) ()).symm;rw[e] at hx;exact part _ (ar _) x hx
  ·exact part kk z x hx
 refine #[#[λxs hx=>#[a1,c,ν,p,#[M1,V,B.m1,B.b1,V1,B.gm xs hx],#[N,2^p,N0,hN,ar _,hs],()],λkk x hx=>szb (all kk x hx),λu hu'=>?_,λrow hr y hy=>?_,λu hu' row hr y hy=>szb ((one u hu' row hr y hy).mono (by rw[aJ];exact aE _ V1))],λx hx=>?_]
 ·exact Fw Np0 (aj NpMN MN) (ar _) () (hu u hu')
 ·exact Fw B.m2 B.b2 V1 () (B.gp row hr y hy)
 ·rw[<- vm (k:=pt.9) (ar _) ()] at hx;exact all _ x hx
end
section
variable {mv pt lk pus:LR9} {st pu go:List Rat} {M1 M2 V a1 a2 c N Np p t T ν k:Nat}
theorem GX (h:M<=2^a) (hN:N<=2^ν):M^t*N<=2^(a*t+ν):=by
 rw[aJ,Nat.pow_mul];exact aH (Nat.pow_le_pow_left h t) hN
theorem Bd.states (B:Bd mv pt M1 M2 V a1 a2 c) (D:fI mv pt lk) (ls:st.9=mv.9) (wp:∀xs∈pus,xs.9=pt.9) (N0:0 < N) (hN:N<=2^ν) (dv:M2*Np∣N) (hs:∀x∈st,Fr N (2^p) x) (hu:∀xs∈pus,∀x∈xs,Fr Np (2^p) x) (sz:a1*(pus.9+1)+ν+c*(pus.9+1)+p<=3900000) (sp2:a2+c<=3900000):∀k,k<=pus.9->(∀x∈jS mv pt st pus k,Fr (M1^k*N) (2^(c*k+p)) x)/\∀pu,pus[k]?=some pu->O5 mv pt (jS mv pt st pus k) pu:=by
 have key:∀k,k<=pus.9->(∀x∈jS mv pt st pus k,Fr (M1^k*N) (2^(c*k+p)) x)->∀pu,pus[k]?=some pu->O5 mv pt (jS mv pt st pus k) pu/\∀x∈gO mv pt (jS mv pt st pus k) pu,Fr (M1*(M1^k*N)) (2^(c+(c*k+p))) x:=λk hk f pu hpu=>by
  have mp:=ao hpu;have kl:=(aR.mp hpu).1;have e1:a1*(k+1)<=a1*(pus.9+1):=cg _ ();have e2:c*(k+1)<=c*(pus.9+1):=cg _ ();rw[OX,Nat.mul_one] at e1 e2;refine B.next D (vd ls hk) (wp pu mp) (aY (Nat.pow_pos B.m1) N0) ?_ f (λx hx=>(hu pu mp x hx).mono (aF () (Nat.le_add_left _ _))) (GX B.b1 hN) () sp2;exact gR dv (gR (bZ _ _) (bZ _ _))
 have fr:∀k,k<=pus.9->∀x∈jS mv pt st pus k,Fr (M1^k*N) (2^(c*k+p)) x:=by
  intro k
  induction k with
  | zero =>
   intro _ x hx;rw[Nat.pow_zero,yr,K1,Nat.zero_add];exact hs x hx
  | succ k ih =>
   intro hk x hx;have e:=ai (show k < pus.9 by lia);rw[qC e] at hx;have:=(key k () (ih ()) _ e).2 x hx;rw[<- dM,d5 M1,<- jf,show c+(c*k+p)=c*(k+1)+p by rw[OX];lia] at this;exact this
 exact λk hk=>#[fr k hk,λpu hpu=>(key k hk (fr k hk) pu hpu).1]
end
section
variable {X:Cx}
theorem Mc (hc:X.calm=true):rn X (.builtin "max") (λxs H Q=>∃(p:Addr) (ns:List Int),xs=[.ref p]/\bJ X.K H p (ns.map V.int)/\0 < ns.9/\∀M,M∈ns->(∀a,a∈ns->a<=M)->Q (.int M) H):=by
 intro pins s σ H xs us Q I r h;obtain p|ns|rfl|hp|hne|q:=h;obtain u|rfl|ru:=vals1 r;cases ru;obtain its|r2|pl|_:=I.list hp;have hi:=intsAre_of r2;have hl:=pl.isList;obtain xs|e:=hi.allInts.items
 have hns:ns=xs.toList.map (·.1):=by
  rw[<- hi.numsOf,<- nums_intItems,<- e]
 have hsz:0 < xs.7:=by
  have h3:=hne;rw[hns,af,Array.length_toList] at h3;exact h3
 rw[e] at hl;refine max_intList (I.ok.hd hc) hl hsz λv h' tk hv hk=>?_
 obtain t|rfl:=intItems_at hv;obtain h1|h2:=argBest_gt (numAt xs) (xs.7 - 1);refine #[.int _,H,I.kept hk,#[_,rfl],q _ ?_ λa ha=>?_]
 ·rw[hns,numAt_eq];exact getD_in (by rw[af,Array.length_toList];lia)
 ·rw[hns] at ha;obtain j|hj|rfl:=mem_getD ha;rw[af,Array.length_toList] at hj;rw[<- numAt_eq];exact h2 j ()
end
theorem DP {α β:Type} {f:α->β}:∀{l1:List α} {l2:List β},Paired (λa b=>b=f a) l1 l2->l2=l1.map f
 | _,_,.nil=>rfl
 | _,_,.cons h r=>by rw[h,DP r];rfl
def VG (mv pt:LR9) (T:Nat):Prop:=T<=12/\(T<=3\/((∀xs∈mv++pt,∀x∈xs,x.den<=9/\x.num.natAbs < 1000)/\(5 < mv.9->T<=mv.9)/\(3<=mv.9->mv.9<=5->T<=mv.9+1)))
def Uu (x:Rat):Int:=(x.den:Int)+(x.num.natAbs:Int) / 1000*9
theorem QT (h:Uu x<=9):x.den<=9/\x.num.natAbs < 1000:=by
 unfold Uu at h;have:=x.den_pos
 lia
inductive DH (K:FG9) (vs:List V) (H:Hp) (Q:VK) (E9:XK):Prop
 | mk (b r:Addr) (H0:Hp) (mv pt lk:LR9):vs=[.ref b,.ref r]->iq H b->H0 b≠none->fG K H0 H r mv pt lk->fI mv pt lk->(∀xs∈mv++pt,∀x∈xs,lh x)->(∀(T:Nat) H',VG mv pt T->iq H' b->cM b H H'->Q (.int T) H')->DH K vs H Q E9
inductive Gs (K:FG9) (vs:List V) (H:Hp) (Q:VK) (E9:XK):Prop
 | mk (b r:Addr) (T w:Nat) (H0:Hp) (mv pt lk:LR9):vs=[.ref b,.ref r,.int T,.int w]->T<=100->1<=w->w<=1000->iq H b->H0 b≠none->fG K H0 H r mv pt lk->fI mv pt lk->(∀p pus H',H p=none->bQ K H H' p pus->pus.9=T->(∀xs∈pus,xs.9=pt.9/\∀x∈xs,Dr (max w 6) x)->iq H' b->cM b H H'->Q (.ref p) H')->Gs K vs H Q E9
def DrP (pt:LR9) (T w:Nat) (pus:LR9):Prop:=pus.9=T/\∀xs∈pus,xs.9=pt.9/\∀x∈xs,Dr (max w 6) x
theorem NO (ws vs:List V) (M1 M2 M3:Nat):∃μ:V->Nat,(∀x∈ws,μ x=M2)/\(∀x∈vs,x∉ws->μ x=M3)/\(∀x,x∉ws->x∉vs->μ x=M1)/\∀x,μ x=M1\/μ x=M2\/μ x=M3:=by
 classical
 refine #[λx=>if x∈ws then M2 else if x∈vs then M3 else M1,λx h=>if_pos h,λx h h'=>?_,λx h h'=>?_,λx=>?_]
 ·show (if x∈ws then M2 else if x∈vs then M3 else M1)=M3
  rw[if_neg h',if_pos h]
 ·show (if x∈ws then M2 else if x∈vs then M3 else M1)=M1
  rw[if_neg h,if_neg h']
 ·show (if x∈ws then M2 else if x∈vs then M3 else M1)=M1\/(if x∈ws then M2 else if x∈vs then M3 else M1)=M2\/(if x∈ws then M2 else if x∈vs then M3 else M1)=M3
  by_cases h:x∈ws
  ·rw[if_pos h];exact .inr (.inl rfl)
  ·rw[if_neg h];by_cases h':x∈vs
   ·rw[if_pos h'];exact .inr (.inr rfl)
   ·rw[if_neg h'];exact .inl rfl
theorem kY.apart {K:FG9} (h:kY K A H n C m p l b q0 us ws vs):(∀x∈us,x∉ws/\x∉vs)/\∀x∈vs,x∉ws:=by
 obtain n1|n2|n3:=dC.mp h.nd;obtain n4|n5|n6:=dC.mp n1;exact #[λx hx=>#[λz=>n3 x (aw.mpr (.inl hx)) x z rfl,λz=>n6 x hx x z rfl],λx hx z=>n3 x (aw.mpr (.inr hx)) x z rfl]
theorem kY.fr3 {K:FG9} (h:kY K A H n (λ_=>Dr (2^c)) m p l b q0 us ws vs):∃M1 M2 M3,0 < M1/\0 < M2/\0 < M3/\M1<=2^(c*(n*n))/\M2<=2^(c*(ws.9*n))/\M3<=2^(c*(vs.9*n))/\(∀x∈us,ip K A H n (Fr M1 (2^c)) x)/\(∀x∈ws,ip K A H n (Fr M2 (2^c)) x)/\∀x∈vs,ip K A H n (Fr M3 (2^c)) x:=by
 have one:∀l:List V,(∀x∈l,x∈us++vs++ws)->∃M,0 < M/\M<=2^(c*(l.9*n))/\∀x∈l,ip K A H n (Fr M (2^c)) x:=λl hl=>by
  obtain ra|pa|la|ha:=Bs λx hx=>h.row x (hl x hx)
  obtain M|m0|m1|m2:=Pz (c:=c) (n:=n) (rows:=ra) ha;exact #[M,m0,by rw[la] at m1;exact m1,IT pa λqs hq=>#[(ha qs hq).1,m2 qs hq]]
 obtain M1|a1|a2|a3:=one us λx hx=>by simp [hx]
 obtain M2|b1|b2|b3:=one ws λx hx=>by simp [hx]
 obtain M3|c1|c2|c3:=one vs λx hx=>by simp [hx]
 rw[h.lm] at a2;exact #[M1,M2,M3,a1,b1,c1,a2,b2,c2,a3,b3,c3]
inductive DL (K:FG9) (xs:List V) (H:Hp) (Q:VK) (E9:XK):Prop
 | mk (b m p l q0:Addr) (n V1:Nat) (μ:V->Nat) (A:Addr->Prop) (us ws vs:List V):xs=[.ref b,.ref m,.ref p,.ref l]->Ie A m p l b q0->kY K A H n (λx=>Fr (μ x) V1) m p l b q0 us ws vs->n<=8->ws.9<=4->vs.9<=4->(∀x,0 < μ x)->(∀x,μ x<=2^800)->(∃M,∀x,x∉ws->x∉vs->μ x=M)->V1<=2^20->(∀q,H q=none->A q)->(∀r us' H',H' r=some (.tup [.ref m,.ref p,.ref l])->kY K A H' n (λx=>Fr (μ x) (9^3*V1)) m p l b q0 us' ws vs->jE A b m H H'->Q (.ref r) H')->DL K xs H Q E9
def Wl (n i o w c:Nat) (mv pt lk:LR9):Prop:=∃M1 M2 M3 V1:Nat,0 < M1/\0 < M2/\0 < M3/\GF M1 V1 mv/\GF M2 V1 pt/\GF M3 V1 lk/\((w<=9/\M1=2520/\M2=2520/\M3=2520/\V1=9^3*9)\/(9 < w/\M1<=2^(c*(n*n))/\M2<=2^(c*(i*n))/\M3<=2^(c*(o*n))/\V1=9^3*2^c))
inductive DJ (K:FG9) (vs:List V) (H:Hp) (Q:VK) (E9:XK):Prop
 | mk (b:Addr) (n i o w c:Nat):vs=[.ref b,.int n,.int i,.int o,.int w]->iq H b->n<=8->i<=4->o<=4->1<=w->w<=1000000->max w 6<=2^c->c<=20->c*((n+i+o)*n)<=800->(∀r mv pt lk H',fG K H H' r mv pt lk->mv.9=n->pt.9=i->lk.9=o->fI mv pt lk->Wl n i o w c mv pt lk->iq H' b->cM b H H'->Q (.ref r) H')->DJ K vs H Q E9
def Rg (mv pt:LR9) (w:Nat):Prop:=(w<=9/\Bd mv pt 1 1 (9^3) 0 0 14)\/(w<=9/\mv.9<=5/\Bd mv pt 2520 2520 (9^3*9) 12 12 16)\/(w=1000/\mv.9<=2/\∃M1 M2,Bd mv pt M1 M2 (9^3*2^20) 80 160 33)
def Pw (K:FG9):Sp:=λvs H Q _=>∃b:Addr,vs=[.ref b]/\iq H b /\
 ∀t r (w a c:Nat) mv pt lk H',H' t=some (.tup [.ref r,.int w])->fG K H H' r mv pt lk->fI mv pt lk->Mu mv pt lk->Uj mv pt a c->Rg mv pt w->1<=w->w<=1000->iq H' b->cM b H H'->Q (.ref t) H'
theorem Jp {M V:Nat} (h:GF M V l) (k:Nat):GF (k*M) V l:=λxs hx x hx'=>(h xs hx x hx').scaleL k
theorem Wl.n {n i o w c:Nat} (h:Wl n i o w c mv pt lk):PtF n i o w c mv pt lk:=by
 obtain M1|M2|M3|V1|a1|a2|a3|f1|f2|f3|hc:=h;rcases hc with ⟨w9,rfl,rfl,rfl,e⟩ | ⟨w9,e1,e2,e3,e⟩
 ·exact #[2520,V1,(),f1,f2,f3,.inl #[w9,rfl,e]]
 ·refine #[M1*M2*M3,V1,aY (aY a1 a2) a3,?_,?_,?_,.inr #[w9,?_,e]]
  ·have:=Jp f1 (M2*M3);rwa [show M2*M3*M1=M1*M2*M3 by rw[d5 (M2*M3),dM]] at this
  ·have:=Jp f2 (M1*M3);rwa [show M1*M3*M2=M1*M2*M3 by rw[dM,d5 M3,dM]] at this
  ·exact Jp f3 (M1*M2)
  ·refine aj (aH (aH e1 e2) e3) ?_;rw[<- aJ,<- aJ,show c*((n+i+o)*n)=c*(n*n)+c*(i*n)+c*(o*n) by rw[OY,OY,OX,OX]];exact ar _
def Mm (ws:List Rat) (T:Nat):List Rat:=(List.replicate T ws).flatten
section
variable {rows more R:LR9} {ws wm x x1 x2 x' y g g1 g2:List Rat} {n:Nat} {ps:List Nat} {c:Rat}
theorem xj {f:Nat->Rat}:∀k,(∀j,j < k->0<=f j)->0<=aP k f
 | 0,_=>yq
 | k+1,h=>by
  have h1:=xj k λj hj=>h j ()
  have h2:=h k ();have e:aP (k+1) f=aP k f+f k:=rfl;rw[e];grind
theorem MT {a w:Rat} (h:0 < w):0<=a*a / w:=by
 have h1:0<=a*a:=by
  rcases Rat.le_total (a:=0) (b:=a) with z | z
  ·exact eK z z
  ·have:0<=-a:=by grind
   have:=eK this this;grind
 rw[br];exact eK h1 (cD (Rat.inv_pos.mpr h))
end
def VI (xs:List Rat):Prop:=∃M,tj M (xs.map nm)
theorem Na (h0:0 < M) (h1:M<=2^4300000) (h2:W<=2^4300000) (h:∀x∈xs,Tp M W x):VI xs:=by
 refine #[M,(),?_,λy hy=>?_]
 ·show ((M:Nat):Int).natAbs < 2^4400000
  rw[jP];exact bO h1 (fg () ())
 ·obtain x|hx'|rfl:=av.mp hy;have t:=h x hx';refine #[jH x,AX t,?_];obtain s|e|b:=IF t h0 (jH x) (K6 _) (AX t);have e2:(((nm x).1:Int):Rat)=(s:Rat):=by rw[<- e];exact m9 x
  rw[eP.mp e2];exact bO (aj b h2) (fg () ())
inductive J9 (K:FG9) (vs:List V) (H:Hp) (Q:VK) (E9:XK):Prop
 | mk (p q:Addr) (xs ys:List Rat):vs=[.ref p,.ref q]->cu K H p xs->cu K H q ys->ys.9=xs.9->xs.9<=1000->VI xs/\VI ys->(∀r H',aA H H'->bS K H' (d9 xs ys) (.ref r)->Q (.ref r) H')->J9 K vs H Q E9
inductive Gz (vs:List V) (H:Hp) (Q:VK) (E9:XK):Prop
 | mk (p:Addr) (us:List V) (zss:List (List V)):vs=[.ref p]->H p=some (.lst us)->Paired (λzs u=>∃q,u=V.ref q/\H q=some (.lst zs)) zss us->zss.flatten.9<=1000->(∀r H',H r=none->aA H H'->H' r=some (.lst zss.flatten)->Q (.ref r) H')->Gz vs H Q E9
theorem Eu (ws:List Rat) (T:Nat):(Mm ws T).9=T*ws.9:=by
 unfold Mm
 induction T with
 | zero=>simp
 | succ T ih=>rw[il,fR,aB,ih,dP];lia
theorem Ss (h:w∈Mm ws T):w∈ws:=by
 unfold Mm at h;obtain l|hl|hw:=cS.mp h;rw[yu hl] at hw;exact hw
theorem Bu {α β:Type} {F:α->V->Prop} {G:β->V->Prop} {b:β} (h:∀a y,F a y->G b y):∀{as:List α} {ys:List V},Paired F as ys->Paired G (List.replicate as.9 b) ys
 | _,_,.nil=>.nil
 | _,_,.cons x t=>.cons (h _ _ x) (Bu h t)
theorem Kg {α β:Type} {G:α->β->Prop} {a:α} {b:β} (h:G a b):∀n:Nat,Paired G (List.replicate n a) (List.replicate n b)
 | 0=>.nil
 | n+1=>.cons h (Kg h n)
theorem mY {α β:Type} {F:α->β->Prop}:∀{Rs:List (List α)} {zss:List (List β)},Paired (λR zs=>Paired F R zs) Rs zss->Paired F Rs.flatten zss.flatten
 | _,_,.nil=>.nil
 | _,_,.cons h t=>cA h (mY t)
section
variable {mv pt lk pus:LR9} {ws go g1 g2:List Rat} {M1 M2 V a1 a2 c T0 n0 b B u T E:Nat}
theorem p2 (h:a<=b):2^a<=2^b:=aF () h
end
theorem Nw {t b:Int} (h:z*(b:Rat)=(t:Rat)) (hb:0 < b) (ht:0 < t):0 < z:=by
 have h1:(0:Rat) < (b:Rat):=cR.mpr hb;have h2:(0:Rat) < (t:Rat):=cR.mpr ht;by_cases q:0 < z
 ·exact q
 ·have:=jF (Rat.not_lt.mp q) (cD h1);rw[h,cx] at this;exact absurd h2 (Rat.not_lt.mpr this)
def ir (N:Nat) (a:Nat->Nat->Rat) (z:Nat->Rat):Rat:=aP N λi=>z i*aP N λj=>a i j*z j
section
variable {a l:Nat->Nat->Rat} {N k n m:Nat} {d:Rat} {x z f g:Nat->Rat}
theorem tU:∀{k:Nat},aP k (λj=>f j - g j)=aP k f - aP k g
 | 0=>by show (0:Rat)=0 - 0;grind
 | k+1=>by
  show aP k (λj=>f j - g j)+_=(aP k f+f k) - (aP k g+g k)
  rw[tU];grind
theorem MP (h:k<=N):aP N (λj=>if j < k then f j else 0)=aP k f:=by
 induction N with
 | zero=>rw[show k=0 by lia];rfl
 | succ N ih =>
  show aP N _+(if N < k then f N else 0)=_
  by_cases e:k=N+1
  ·subst e;rw[if_pos ()];show _=aP N f+f N
   rw[aG λj hj=>if_pos ()]
  ·rw[if_neg (),ih ()];grind
theorem EC {i:Nat}:∀{k:Nat},i < k->(∀j,j < k->0<=f j)->f i<=aP k f
 | 0,hi,_=>absurd hi (tM _)
 | k+1,hi,h=>by
  show f i<=aP k f+f k
  by_cases e:i=k
  ·subst e;have:=xj (f:=f) i λj hj=>h j ()
   grind
  ·have h1:=EC (i:=i) (k:=k) () λj hj=>h j ()
   have h2:=h k ();grind
def FI (k:Nat) (l:Nat->Nat->Rat) (d:Rat) (N:Nat) (x:Nat->Rat) (i:Nat):Rat:=if i < k then - aP N (λc=>(l i c / d)*x c) else x i
theorem OK (B:yp a N k (λi=>i) (λj=>j) l d) (hx:∀i,i < k->x i=0) (hi:i < N):aP N (λj=>a i j*FI k l d N x j)=if i < k then 0 else aP N λc=>(l i c / d)*x c:=by
 have km:=B.km
 have e1:aP N (λj=>a i j*FI k l d N x j)=aP N (λj=>a i j*x j) - aP k (λj=>a i j*aP N λc=>(l j c / d)*x c):=by
  rw[<- MP km,<- tU];refine aG λj _=>?_
  unfold FI;by_cases e:j < k
  ·rw[if_pos e,if_pos e,hx j e];grind
  ·rw[if_neg e,if_neg e];grind
 have e2:aP N (λj=>a i j*x j)=aP k (λj=>a i j*aP N λc=>(l j c / d)*x c)+if i < k then 0 else aP N λc=>(l i c / d)*x c:=by
  have h:∀j,j < N->a i j*x j=(aP k λt=>a i t*((l t j / d)*x j))+if i < k then 0 else (l i j / d)*x j:=λj _=>by
   have e:(aP k λt=>a i t*((l t j / d)*x j))=x j*aP k λt=>(l t j / d)*a i t:=by
    rw[<- cF];exact aG λt _=>by grind
   have c:=B.coef (i:=i) (c:=j) hi;have c:a i j=aP k (λt=>(l t j / d)*a i t)+if i < k then 0 else l i j / d:=c
   rw[e]
   split
   ·rw[if_pos (by assumption)] at c;rw[c];grind
   ·rw[if_neg (by assumption)] at c;rw[c];grind
  rw[aG h,jI,jt (k:=N) (m:=k) (f:=λj t=>a i t*((l t j / d)*x j))];congr 1
  ·refine aG λt _=>?_
   rw[cF]
  ·split
   ·exact eR λ_ _=>rfl
   ·rfl
 rw[e1,e2];grind
theorem FN (B:yp a N k (λi=>i) (λj=>j) l d) (hx:∀i,i < k->x i=0):ir N a (FI k l d N x)=ir N (λi c=>l i c / d) x:=by
 unfold ir;refine aG λi hi=>?_
 rw[OK B hx hi];unfold FI;by_cases e:i < k
 ·rw[if_pos e,if_pos e,hx i e];grind
 ·rw[if_neg e,if_neg e]
theorem QZ (B:yp a N k (λi=>i) (λj=>j) l d) (hd:0 < d) (hk:k < N) (h:∀z,z k=1->0 < ir N a z):0 < l k k:=by
 obtain ⟨u,u1,u0⟩:∃u:Nat->Rat,u k=1/\∀i,i≠k->u i=0:=#[λi=>if i=k then 1 else 0,if_pos rfl,λi hi=>if_neg hi];have e:=FN B (x:=u) λi hi=>u0 i ()
 have h1:=h (FI k l d N u) (by unfold FI;rw[if_neg (),u1]);rw[e] at h1;unfold ir at h1;rw[ky hk λj _ ne=>by rw[u0 j ne,cx],ky hk λj _ ne=>by rw[u0 j ne,iw],u1,gU,fY] at h1;have h2:0 < l k k / d*d:=eX h1 hd;rwa [iL (λz=>by rw[z] at hd;exact absurd hd ())] at h2
theorem Ub (B:yp a N k (λi=>i) (λj=>j) l d) (sy:∀i j,i < N->j < N->a i j=a j i) (hx:∀i,i < k->x i=0) (hz:∀i,k<=i->z i=x i):ir N a z=ir N (λi c=>l i c / d) x+ir N a λi=>z i - FI k l d N x i:=by
 rw[<- FN B hx];have on:=λi hi=>OK B hx (i:=i) hi
 generalize hc:FI k l d N x=c at on ⊢
 have hzc:∀i,k<=i->z i - c i=0:=λi hi=>by
  rw[hz i hi,<- hc];unfold FI;rw[if_neg ()];grind
 have e1:∀i,aP N (λj=>a i j*z j)=aP N (λj=>a i j*c j)+aP N λj=>a i j*(z j - c j):=λi=>by
  rw[<- jI];exact aG λj _=>by grind
 have e2:aP N (λi=>(z i - c i)*aP N λj=>a i j*c j)=0:=eR λi hi=>by
  by_cases e:i < k
  ·rw[on i hi,if_pos e];grind
  ·rw[hzc i ()];grind
 have e3:aP N (λi=>c i*aP N λj=>a i j*(z j - c j))=aP N (λi=>(z i - c i)*aP N λj=>a i j*c j):=by
  rw[aG λi _=>(cF (c:=c i) (f:=λj=>a i j*(z j - c j))).symm,jt (f:=λi j=>c i*(a i j*(z j - c j)))];refine aG λj hj=>?_
  rw[<- cF];refine aG λi hi=>?_
  rw[sy i j hi hj];grind
 unfold ir;rw[aG (g:=λi=>(c i*aP N λj=>a i j*c j)+((c i*aP N λj=>a i j*(z j - c j))+((z i - c i)*aP N (λj=>a i j*c j)+(z i - c i)*aP N λj=>a i j*(z j - c j)))) λi _=>by rw[e1 i];grind,jI,jI,jI,e3,e2];grind
def stN (n:Nat) (sd W:Nat->Nat->Rat) (ow:Nat->Rat) (i j:Nat):Rat:=(aP n λc=>sd j c*aP n λe=>W c e*sd i e)+if i=j then ow i else 0
theorem JT:ir N (stN n sd W ow) z=ir n W (λe=>aP N λi=>z i*sd i e)+aP N λi=>ow i*(z i*z i):=by
 have e1:∀i,i < N->z i*aP N (λj=>stN n sd W ow i j*z j)=(aP n λc=>(aP N λj=>z j*sd j c)*(z i*aP n λe=>W c e*sd i e))+ow i*(z i*z i):=λi hi=>by
  have h:∀j,j < N->stN n sd W ow i j*z j=(aP n λc=>(z j*sd j c)*aP n λe=>W c e*sd i e)+if j=i then ow i*z i else 0:=λj _=>by
   unfold stN
   have q:(aP n λc=>(z j*sd j c)*aP n λe=>W c e*sd i e)=z j*aP n λc=>sd j c*aP n λe=>W c e*sd i e:=by
    rw[<- cF];exact aG λc _=>by grind
   rw[q];by_cases e:i=j
   ·subst e;rw[if_pos rfl,if_pos rfl];grind
   ·rw[if_neg e,if_neg (λq=>e q.symm)];grind
  rw[aG h,jI,ky (f:=λj=>if j=i then ow i*z i else 0) hi λj _ ne=>if_neg ne,if_pos rfl,jt (f:=λj c=>(z j*sd j c)*aP n λe=>W c e*sd i e)]
  have q:∀c,c < n->(aP N λj=>(z j*sd j c)*aP n λe=>W c e*sd i e)=(aP n λe=>W c e*sd i e)*aP N λj=>z j*sd j c:=λc _=>by
   rw[<- cF];exact aG λj _=>by grind
  rw[aG q]
  have q2:(aP n λc=>(aP N λj=>z j*sd j c)*(z i*aP n λe=>W c e*sd i e))=z i*aP n λc=>(aP n λe=>W c e*sd i e)*aP N λj=>z j*sd j c:=by
   rw[<- cF];exact aG λc _=>by grind
  rw[q2];grind
 unfold ir;rw[aG e1,jI,jt (f:=λi c=>(aP N λj=>z j*sd j c)*(z i*aP n λe=>W c e*sd i e))];congr 1;refine aG λc _=>?_
 rw[cF];congr 1
 have q:∀i,i < N->z i*(aP n λe=>W c e*sd i e)=aP n λe=>W c e*(z i*sd i e):=λi _=>by
  rw[<- cF];exact aG λe _=>by grind
 rw[aG q,jt (f:=λi e=>W c e*(z i*sd i e))];exact aG λe _=>by rw[cF]
theorem xu:ir N (λi j=>q*a i j) z=q*ir N a z:=by
 unfold ir;rw[<- cF];refine aG λi _=>?_
 rw[aG (g:=λj=>q*(a i j*z j)) λj _=>by grind,cF];grind
theorem MR (sy:∀i j,i < n->j < n->W i j=W j i):stN n sd W ow i j=stN n sd W ow j i:=by
 unfold stN;congr 1
 ·have q:∀i j,(aP n λc=>sd j c*aP n λe=>W c e*sd i e)=aP n λc=>aP n λe=>sd j c*(W c e*sd i e):=λi j=>aG λc _=>by rw[cF]
  rw[q i j,q j i,jt (f:=λc e=>sd j c*(W c e*sd i e))];exact aG λe he=>aG λc hc=>by rw[sy c e hc he];grind
 ·by_cases e:i=j
  ·rw[if_pos e,if_pos e.symm,e]
  ·rw[if_neg e,if_neg λz=>e z.symm]
end
def Dp (a b:List Int):Int:=(List.zipWith (λx y=>x*y) a b).sum
def uE (ls:List (List Int)) (v:List Int):List Int:=ls.map λl=>Dp l v
def RI (H:Hp) (zs:List Int) (x:V):Prop:=∃q,x=.ref q/\H q=some (.lst (zs.map V.int))
def GI (H:Hp) (p:Addr) (ls:List (List Int)):Prop:=∃xs,H p=some (.lst xs)/\Paired (RI H) ls xs
theorem RI.same (h:RI H zs x) (s:aA H H'):RI H' zs x:=by obtain q|e|g:=h;exact #[q,e,s _ _ g]
theorem GI.same (h:GI H p ls) (s:aA H H'):GI H' p ls:=by obtain xs|g|r:=h;exact #[xs,s _ _ g,Paired.imp' (λ_ _ z=>RI.same z s) r]
theorem Nz (K:FG9) {X:Cx} {a:Expr} {ta:TA} {p pos tpos:Pos} {elts:List Expr} {kk:Nat} (hg:Gl X "enumerate") (hm:X.mg "enumerate"=none) (ha:PA X [a] ta) (hK:X.K=K:=by rfl) (hs:starEach [a] X.env=[(false,eval a X.env)]:=by rfl) :
  PI X (.Tuple elts kk tpos) (.Call (.Name "enumerate" p) [a] [] pos) (Oc K ta):=by subst hK;exact E1 hg hm ha hs
def Dv (H0 H:Hp) (zs:List Int) (x:V):Prop:=∃q,x=V.ref q/\H0 q=none/\H q=some (.lst (zs.map V.int))
theorem Dv.same (h:Dv H0 H zs x) (s:aA H H'):Dv H0 H' zs x:=by obtain q|e|n|g:=h;exact #[q,e,n,s _ _ g]
theorem AJ {α:Type} {m:Nat}:∀{l:List (List α)},(∀xs∈l,xs.9<=m)->l.flatten.9<=l.9*m
 | [],_=>bW _
 | x :: r,h=>by
  have h1:=h x (.head _);have h2:=AJ (l:=r) λy hy=>h y (.tail _ hy)
  show (x++r.flatten).9<=(r.9+1)*m
  rw[aB,dP]
  lia
theorem rS:∀{bs:List Int} {ys:List V},Paired (λz y=>y=V.int z) bs ys->ys=bs.map V.int
 | _,_,.nil=>rfl
 | _,_,.cons h t=>by rw[h,rS t];rfl
inductive JW (K:FG9) (vs:List V) (H:Hp) (Q:VK) (E9:XK):Prop
 | mk (p q:Addr) (a b:List Int) (k j:Nat):vs=[.ref p,.ref q]->H p=some (.lst (a.map V.int))->H q=some (.lst (b.map V.int))->b.9=a.9->a.9<=100->(∀x∈a,Sz k x)->(∀x∈b,Sz j x)->k+j<=100000000->(∀H',aA H H'->Q (.int (Dp a b)) H')->JW K vs H Q E9
inductive MU (K:FG9) (vs:List V) (H:Hp) (Q:VK) (E9:XK):Prop
 | mk (p q:Addr) (ls:List (List Int)) (b:List Int) (k j:Nat):vs=[.ref p,.ref q]->GI H p ls->H q=some (.lst (b.map V.int))->(∀l∈ls,l.9=b.9)->ls.9<=100->b.9<=100->(∀l∈ls,∀x∈l,Sz k x)->(∀x∈b,Sz j x)->k+j<=100000000->(∀r H',H r=none->aA H H'->H' r=some (.lst ((uE ls b).map V.int))->Q (.ref r) H')->MU K vs H Q E9
def tL (mv:LR9):Int:=cI (mv.flatten.map nm)
def pC (mv:LR9):List (List Int):=mv.map λxs=>cp (xs.map nm) (tL mv)
inductive Gf (K:FG9) (vs:List V) (H:Hp) (Q:VK) (E9:XK):Prop
 | mk (p:Addr) (H0:Hp) (rows:LR9) (M:Int):vs=[.ref p]->bQ K H0 H p rows->rows.flatten.9<=1000->rows.9<=1000->(∀xs∈rows,xs.9<=1000)->tj M (rows.flatten.map nm)->(∀t r H',H' t=some (.tup [.ref r,.int (tL rows)])->aA H H'->GI H' r (pC rows)->Q (.ref t) H')->Gf K vs H Q E9
section
variable {n:Nat}
theorem yX (ha:a.9=n) (hb:b.9=n):((Dp a b:Int):Rat)=aP n λl=>((a.getD l 0:Int):Rat)*((b.getD l 0:Int):Rat):=by
 have key:∀{a b:List Int},a.9=b.9->((Dp a b:Int):Rat)=d9 (a.map λ(x:Int)=>(x:Rat)) (b.map λ(x:Int)=>(x:Rat)):=by
  intro a
  induction a with
  | nil=>intro b _;rfl
  | cons x a ih =>
   intro b h;cases b with
   | nil=>exact absurd h (by simp)
   | cons y b =>
    show ((x*y+Dp a b:Int):Rat)=(x:Rat)*(y:Rat)+d9 _ _
    rw[kq,aO,ih (by simpa using h)]
 rw[key (by rw[ha,hb]),qJ (by rw[af,af,ha,hb]),af,ha];refine aG λl _=>?_
 have g:∀c:List Int,(c.map λ(x:Int)=>(x:Rat)).getD l 0=((c.getD l 0:Int):Rat):=λc=>by
  rw[ae,ay,ae];cases c[l]? with
  | none=>rfl
  | some y=>rfl
 rw[g,g]
theorem xO (ha:∀x∈a,Sz k x) (hb:∀x∈b,Sz j x):Sz (k+j+min a.9 b.9) (Dp a b):=by
 have:=ML (l:=List.zipWith (λx y=>x*y) a b) (j:=k+j) λv hv=>by
  obtain i|hi|rfl:=bX hv;rw[gX];exact (ha _ (bo _)).mul (hb _ (bo _))
 rwa [bM] at this
theorem Lc {xs:List Rat} (h:∀x∈xs,(nm x).2∣B):(((cp (xs.map nm) B).getD i 0:Int):Rat)=xs.getD i 0*(B:Rat):=by
 unfold cp;rw[ae,ay,ay,ae];cases e:xs[i]? with
 | none=>show ((0:Int):Rat)=0*_;rw[cx];rfl
 | some x=>exact mH (h x (ao e))
end
theorem NV (hb:b≠0):(lo (if b < 0 then -t else t) (if b < 0 then -b else b),hi (if b < 0 then -t else t) (if b < 0 then -b else b))=nm ((t:Rat) / (b:Rat)):=by
 have b0:(b:Rat)≠0:=λz=>hb (oj z)
 by_cases h:b < 0
 ·rw[if_pos h,if_pos h];refine xK () ?_;rw[iZ,iZ,Rat.mul_neg,iL b0]
 ·rw[if_neg h,if_neg h];exact xK () (iL b0)
def vv (ls:List (List Int)) (b:Int):LR9:=ls.map λl=>l.map λ(z:Int)=>(z:Rat) / (b:Rat)
inductive Gj (K:FG9) (vs:List V) (H:Hp) (Q:VK) (E9:XK):Prop
 | mk (t p:Addr) (ls:List (List Int)) (b:Int):vs=[.ref t]->H t=some (.tup [.ref p,.int b])->GI H p ls->ls.9<=20->(∀l∈ls,l.9<=20)->b≠0->Sz 8999000 b->(∀r H',H r=none->aA H H'->bQ K H H' r (vv ls b)->Q (.ref r) H')->Gj K vs H Q E9
def C5 (ls:List (List Int)) (b:Int) (xs:List Rat):List Rat:=ls.map λl=>(aP xs.9 λj=>((l.getD j 0:Int):Rat)*xs.getD j 0) / (b:Rat)
inductive JY (K:FG9) (vs:List V) (H:Hp) (Q:VK) (E9:XK):Prop
 | mk (t p s:Addr) (ls:List (List Int)) (b M:Int) (xs:List Rat) (k j:Nat):vs=[.ref t,.ref s]->H t=some (.tup [.ref p,.int b])->GI H p ls->ls.9<=20->(∀l∈ls,l.9=xs.9)->cu K H s xs->xs.9<=20->tj M (xs.map nm)->(∀l∈ls,∀z∈l,Sz k z)->k+8800000<=100000000->b≠0->Sz j b->j+4400000<=8999000->(∀r H',H r=none->aA H H'->cu K H' r (C5 ls b xs)->Q (.ref r) H')->JY K vs H Q E9
def Iu (zs:List Int):List (List Int):=(List.range zs.9).map λi=>(List.range zs.9).map λj=>if j=i then zs.getD j 0 else 0
def Iw (H0 H:Hp) (p:Addr) (ls:List (List Int)):Prop:=H0 p=none/\∃xs,H p=some (.lst xs)/\Paired (Dv H0 H) ls xs
theorem Iw.gi (h:Iw H0 H p ls):GI H p ls:=by obtain _|xs|g|r:=h;exact #[xs,g,Paired.imp' (λ_ _ #[q,e,_,g]=>#[q,e,g]) r]
theorem Iw.same (h:Iw H0 H p ls) (s:aA H H'):Iw H0 H' p ls:=by obtain n|xs|g|r:=h;exact #[n,xs,s _ _ g,Paired.imp' (λ_ _ z=>Dv.same z s) r]
theorem Iw.weak (h:Iw H0 H p ls) (s:aA H1 H0):Iw H1 H p ls:=by obtain n|xs|g|r:=h;exact #[s.none n,xs,g,Paired.imp' (λ_ _ #[q,e,n,g]=>#[q,e,s.none n,g]) r]
inductive MW (K:FG9) (vs:List V) (H:Hp) (Q:VK) (E9:XK):Prop
 | mk (p:Addr) (xs:List Rat) (M:Int):vs=[.ref p]->cu K H p xs->xs.9<=20->tj M (xs.map nm)->(∀t r H',H' t=some (.tup [.ref r,.int (cI (xs.map nm))])->aA H H'->Iw H H' r (Iu (cp (xs.map nm) (cI (xs.map nm))))->Q (.ref t) H')->MW K vs H Q E9
def C6 (b:Int) (zs:List Int):Int:=zs.foldl (λd z=>g z d) b
theorem Qw:C6 b (zs++[z])=g z (C6 b zs):=by unfold C6;rw[List.foldl_append];rfl
theorem yW:∀{zs:List Int} {b:Int},0 < b->0 < C6 b zs/\C6 b zs∣b/\∀z∈zs,C6 b zs∣z
 | [],b,hb=>#[hb,K6 _,λ_ h=>nomatch h]
 | z :: zs,b,hb=>by
  have p:0 < g z b:=by
   have:0 < Int.gcd z b:=tP _ ();show (0:Int) < ((Int.gcd z b:Nat):Int)
   lia
  obtain h1|h2|h3:=yW (zs:=zs) p;refine #[h1,Ir h2 (fV ..),λy hy=>?_];rcases aI.mp hy with rfl | hy
  ·exact Ir h2 (fk ..)
  ·exact h3 y hy
theorem Hv {e D:Int}:∀{zs:List Int} {b:Int},e∣b*D->(∀z∈zs,e∣z*D)->e∣C6 b zs*D
 | [],_,hb,_=>hb
 | z :: zs,b,hb,h=>by
  refine Hv (zs:=zs) (b:=g z b) ?_ λy hy=>h y (bR _ hy)
  have h2:=Int.dvd_coe_gcd (h z (dE ..)) hb;rw[Int.gcd_mul_right,Int.natCast_mul] at h2;rcases Int.natAbs_eq D with q | q
  ·rw[q];exact h2
  ·rw[q,Int.mul_neg];exact Int.dvd_neg.mpr h2
def wQ (b:Int) (ls:List (List Int)):List (List Int):=ls.map λl=>l.map λz=>z / C6 b ls.flatten
def w5 (b:Int) (ls:List (List Int)):Int:=b / C6 b ls.flatten
inductive JZ (vs:List V) (H:Hp) (Q:VK) (E9:XK):Prop
 | mk (p:Addr) (ls:List (List Int)) (b:Int):vs=[.ref p,.int b]->GI H p ls->ls.9<=20->(∀l∈ls,l.9<=20)->0 < b->Sz 8999000 b->(∀t r H',H' t=some (.tup [.ref r,.int (w5 b ls)])->aA H H'->Iw H H' r (wQ b ls)->Q (.ref t) H')->JZ vs H Q E9
theorem Br {K:FG9} {H0 H:Hp}:∀{Rs:LR9} {us:List V},Paired (dF K H0 H) Rs us->∃zss:List (List V),Paired (λzs u=>∃q,u=V.ref q/\H q=some (.lst zs)) zss us/\Paired (λR zs=>Paired (bS K H) R zs) Rs zss
 | _,_,.nil=>#[[],.nil,.nil]
 | _,_,.cons h t=>by
  obtain zss|a|b:=Br t;obtain q|e|_|zs|g|r:=h;exact #[zs :: zss,.cons #[q,e,g] a,.cons r b]
theorem Kf {H:Hp}:∀{ls:List (List Int)} {us:List V},Paired (RI H) ls us->Paired (λzs u=>∃q,u=V.ref q/\H q=some (.lst zs)) (ls.map λl=>l.map V.int) us
 | _,_,.nil=>.nil
 | _,_,.cons h t=>.cons h (Kf t)
theorem oa:∀{zs:List Int},Paired (λz x=>x=V.int z) zs (zs.map V.int)
 | []=>.nil
 | _ :: _=>.cons rfl oa
section
variable {H0 H:Hp}
theorem Ke {q:Addr} {o:HO}:∀{rows:List (List Int)} {ys:List V},Paired (Dv H0 H) rows ys->V.ref q∉ys->Paired (Dv H0 (upd H q o)) rows ys
 | _,_,.nil,_=>.nil
 | _,_,.cons h t,n=>by
  obtain r|e|a|b:=h;exact .cons #[r,e,a,by rw[a7 λz=>n (by rw[<- z,<- e];exact .head _)];exact b] (Ke t λz=>n (.tail _ z))
theorem GS {q:Addr} {zs:List Int} (hn:H0 q=none):∀{rows:List (List Int)} {ys:List V} {j:Nat},Paired (Dv H0 H) rows ys->ys.Nodup->ys[j]?=some (.ref q)->Paired (Dv H0 (upd H q (.lst (zs.map V.int)))) (rows.set j zs) ys
 | _,_,_,.nil,_,e=>by simp at e
 | _,_,0,.cons (l₂:=ys) h t,nd,e=>by
  have e:=cm e;obtain n1|n2:=dd.mp nd;rw[e] at n1 ⊢;exact .cons #[q,rfl,hn,aK] (Ke t n1)
 | _,_,j+1,.cons (l₂:=ys) h t,nd,e=>by
  obtain n1|n2:=dd.mp nd;have e:ys[j]?=some (.ref q):=e;obtain r|e'|a|b:=h;exact .cons #[r,e',a,by rw[a7 λz=>n1 (by rw[e',z];exact ao e)];exact b] (GS hn t n2 e)
end
section
variable {K:FG9} {H:Hp} {a:Addr} {xs:List V} {g:TG} {tf:TT} {te:TE} {Q:VK} {σ₀:St} {α:Type}
theorem Jy {F:Hp->α->V->Prop} (f:α->List Int) (hx:H a=some (.lst xs)) (pf:Paired (F H) as xs) (hl:as.9<=1000)
  (hF:∀{H H' c x},F H c x->aA H H'->F H' c x)
  (hs:∀(i:Nat) c x H' NY NN,as[i]?=some c->aA H H'->F H' c x->(∀q H2,aA H' H2->H' q=none->H2 q=some (.lst ((f c).map V.int))->NY (.ref q) H2)->nI σ₀ g tf te x H' NY NN)
  (hd:∀ys H' p,H p=none->aA H H'->H' p=some (.lst ys)->ys.Nodup->Paired (Dv H H') (as.map f) ys->V.ref p∉ys->Q (.ref p) H'):oA (OQ K a) σ₀ g tf te Q H:=by
 have lx:=pf.9;refine eS (K:=K) (xs:=xs) (λi ys H'=>aA H H'/\Paired (Dv H H') ((as.take i).map f) ys/\ys.Nodup/\∀y∈ys,∃q,y=V.ref q/\H' q≠none) (aL (bD ())) #[aA.refl _,.nil,jG,(λ_ h=>nomatch h)] (λi ys H' _ #[s,_]=>bJ.of (s _ _ hx)) ?_ ?_
 ·rintro i x ys H' hx' hlen ⟨s,pr,nd,ne⟩;obtain c|ec|fc:=cE pf hx';refine hs i c x H' _ _ ec s (hF fc s) λq H2 s2 nq R=>#[s.trans s2,?_,?_,λy hy=>?_]
  ·rw[take_snoc ec,cn];exact cA (Paired.imp' (λ_ _ z=>Dv.same z s2) pr) (.cons #[q,rfl,s.none nq,R] .nil)
  ·refine dC.mpr #[nd,by simp,λa ha b hb z=>?_];rw[bg.mp hb] at z;obtain q'|e|h:=ne a ha;rw[z] at e;cases e;exact h nq
  ·rcases aw.mp hy with hy | hy
   ·obtain q'|e|h:=ne y hy;refine #[q',e,λz=>?_];cases h':H' q' with
    | none=>exact h h'
    | some o=>rw[s2 _ _ h'] at z;cases z
   ·exact #[q,bg.mp hy,by rw[R];exact λz=>nomatch z]
 ·rintro ys H' hy ⟨s,pr,nd,ne⟩ p hp;rw[aD ()] at pr;have s1:aA H' (upd H' p (.lst ys)):=aA.new hp
  exact hd ys _ p (s.none hp) (s.trans s1) aK nd (Paired.imp' (λ_ _ z=>Dv.same z s1) pr) λz=>by
   obtain q|e|h:=ne _ z;cases e;exact h hp
end
def Ef (L:List (List Int)) (f:Nat->Int):Nat->List (List Int)
 | 0=>L
 | i+1=>(Ef L f i).set i (((Ef L f i).getD i []).set i (((Ef L f i).getD i []).getD i 0+f i))
theorem wX {L:List (List Int)} {f:Nat->Int}:∀i,(Ef L f i).9=L.9
 | 0=>rfl
 | i+1=>by show ((Ef L f i).set i _).9=_;rw[eQ,wX i]
theorem vp {L:List (List Int)} {f:Nat->Int} {n:Nat} (h:∀l∈L,l.9=n):∀i,i<=L.9->∀l∈Ef L f i,l.9=n
 | 0,_,l,hl=>h l hl
 | i+1,hi,l,hl=>by
  have hl:l∈(Ef L f i).set i _:=hl;rcases eh hl with z | z
  ·exact vp h i () l z
  ·rw[z,eQ];exact vp h i () _ (getD_in (by rw[wX];lia))
theorem OL {L:List (List Int)} {f:Nat->Int} {n:Nat} (hL:L.9=n) (h:∀l∈L,l.9=n) {r c:Nat} (hr:r < n) (hc:c < n):∀i,i<=n->((Ef L f i).getD r []).getD c 0=(L.getD r []).getD c 0+if r=c/\r < i then f r else 0
 | 0,_=>by rw[if_neg ()];show _=_+(0:Int);rw[Int.add_zero];rfl
 | i+1,hi=>by
  have ih:=OL (f:=f) hL h hr hc i ();have lw:((Ef L f i).getD i []).9=n:=vp (f:=f) h i () _ (getD_in (by rw[wX];lia));show (((Ef L f i).set i _).getD r []).getD c 0=_
  rw[xN (by rw[wX];lia)];by_cases e:r=i
  ·subst e;rw[if_pos rfl,xN ()];by_cases e2:c=r
   ·subst e2;rw[if_pos rfl,ih,if_neg (),if_pos ()]
    lia
   ·rw[if_neg e2,ih,if_neg (),if_neg ()]
  ·rw[if_neg e,ih];by_cases e2:r=c/\r < i
   ·rw[if_pos e2,if_pos ()]
   ·rw[if_neg e2,if_neg ()]
def Hs (sl wl:List (List Int)) (ob:Int):List (List Int):=sl.map λs=>(uE sl (uE wl s)).map λz=>z*ob
def V5 (sl wl:List (List Int)) (sb wb:Int) (ot:List Int) (ob:Int):List (List Int):=Ef (Hs sl wl ob) (λi=>ot.getD i 0*(sb*sb*wb)) sl.9
def p5 (sy a1 a2 a3 kn:Addr):List (Str×V):=bf "known" (.ref kn) (bf "last_weights" (.ref a3) (bf "put_weights" (.ref a2) (bf "state_weights" (.ref a1) (bf "system" (.ref sy) []))))
section
variable {sy a1 a2 a3 kn:Addr}
theorem Qr:(bf k v fs).lookup k=some v:=by rw[aQ,if_pos rfl]
theorem xX:(p5 sy a1 a2 a3 kn).lookup ("known":Str)=some (.ref kn):=by
 unfold p5;rw[aQ,if_pos rfl]
theorem Sb:(p5 sy a1 a2 a3 kn).lookup ("put_weights":Str)=some (.ref a2):=by
 unfold p5;rw[aQ,if_neg (by decide +kernel),aQ,if_neg (by decide +kernel),aQ,if_pos rfl]
theorem R0:(p5 sy a1 a2 a3 kn).lookup ("state_weights":Str)=some (.ref a1):=by
 unfold p5;rw[aQ,if_neg (by decide +kernel),aQ,if_neg (by decide +kernel),aQ,if_neg (by decide +kernel),aQ,if_pos rfl]
theorem vo:(p5 sy a1 a2 a3 kn).lookup ("system":Str)=some (.ref sy):=by
 unfold p5;rw[aQ,if_neg (by decide +kernel),aQ,if_neg (by decide +kernel),aQ,if_neg (by decide +kernel),aQ,if_neg (by decide +kernel),aQ,if_pos rfl]
theorem qQ {k:Str} (h1:k≠"known") (h2:k≠"last_weights") (h3:k≠"put_weights") (h4:k≠"state_weights") (h5:k≠"system"):(p5 sy a1 a2 a3 kn).lookup k=none:=by
 unfold p5;rw[aQ,if_neg h1,aQ,if_neg h2,aQ,if_neg h3,aQ,if_neg h4,aQ,if_neg h5];rfl
end
def O7 (K:FG9) (H0 H:Hp) (C Cc x kn:Addr) (mv pt lk:LR9) (qs rs:List Rat):Prop:=∃dx sy a1 a2 a3,H x=some (.ins Cc dx (p5 sy a1 a2 a3 kn))/\ou K H0 H C sy mv pt lk/\cu K H a1 qs/\cu K H a2 rs
theorem O7.same {K:FG9} (h:O7 K H0 H C Cc x kn mv pt lk qs rs) (s:aA H H'):O7 K H0 H' C Cc x kn mv pt lk qs rs:=by
 obtain dx|sy|a1|a2|a3|g|S|R1|R2:=h;exact #[dx,sy,a1,a2,a3,s _ _ g,S.same s,R1.same s,R2.same s]
def iM (mv pt:LR9):LR9:=pt++kx mv mv.9
def iQ (qs rs:List Rat):List Rat:=rs++qs
structure Ek (mv pt:LR9) (qs rs:List Rat) (σ ω:Nat):Prop where
 lq:qs.9=mv.9
 lr:rs.9=pt.9
 ms:∃M,tj M ((iM mv pt).flatten.map nm)
 mo:∃M,tj M ((iQ qs rs).map nm)
 ss:∀l∈pC (iM mv pt),∀z∈l,Sz σ z
 sb:Sz σ (tL (iM mv pt))
 os:∀z∈cp ((iQ qs rs).map nm) (cI ((iQ qs rs).map nm)),Sz ω z
 ob:Sz ω (cI ((iQ qs rs).map nm))
abbrev cw (mv pt:LR9) (qs rs:List Rat) (wl:List (List Int)) (wb:Int):List (List Int):=V5 (pC (iM mv pt)) wl (tL (iM mv pt)) wb (cp ((iQ qs rs).map nm) (cI ((iQ qs rs).map nm))) (cI ((iQ qs rs).map nm))
abbrev iI (mv pt:LR9) (qs rs:List Rat) (wb:Int):Int:=tL (iM mv pt)*tL (iM mv pt)*wb*cI ((iQ qs rs).map nm)
inductive Gn (K:FG9) (C Cc:Addr) (vs:List V) (H:Hp) (Q:VK) (E9:XK):Prop
 | mk (x kn t p:Addr) (H0:Hp) (mv pt lk:LR9) (qs rs:List Rat) (wl:List (List Int)) (wb:Int) (σ ω b:Nat):vs=[.ref x,.ref t]->O7 K H0 H C Cc x kn mv pt lk qs rs->fI mv pt lk->Ek mv pt qs rs σ ω->H t=some (.tup [.ref p,.int wb])->GI H p wl->wl.9=mv.9->(∀l∈wl,l.9=mv.9)->(∀l∈wl,∀z∈l,Sz b z)->Sz b wb->b+2*σ+ω+40<=8000000->(∀t' r ys H',H' t'=some (.tup [.ref r,.int (iI mv pt qs rs wb)])->aA H H'->H r=none->H' r=some (.lst ys)->Paired (Dv H H') (cw mv pt qs rs wl wb) ys->Q (.ref t') H')->Gn K C Cc vs H Q E9
def dS (A:Addr->Bool) (H:Hp):Hp:=λa=>if A a=true then none else H a
def mV (A:Addr->Bool) (H:Hp):Prop:=∀a,A a=true->∃vs,H a=some (.lst vs)
def p6 (A:Addr->Bool) (k:Addr):Addr->Bool:=λa=>A a || a == k
def uW (k:Addr) (H H':Hp):Prop:=∀a o,a≠k->H a=some o->H' a=some o
section
variable {A:Addr->Bool} {kn:Addr} {H H' H'':Hp} {o:HO} {a:Addr}
theorem a9:aA (dS A H) H:=λa o h=>by
 unfold dS at h
 split at h
 ·cases h
 ·exact h
theorem sQ (k:A kn=true) (s:uW kn H H'):aA (dS A H) (dS A H'):=λa o h=>by
 unfold dS at h ⊢
 split at h
 ·cases h
 ·rename_i n
  rw[if_neg n];exact s _ _ (λz=>n (by rw[z];exact k)) h
theorem cG (s:aA H H'):aA (dS A H) (dS A H'):=λa o h=>by
 unfold dS at h ⊢
 split at h
 ·cases h
 ·rename_i n
  rw[if_neg n];exact s _ _ h
theorem Ft (k:A kn=true):dS A (upd H kn o)=dS A H:=by
 funext a;unfold dS;by_cases e:A a=true
 ·rw[if_pos e,if_pos e]
 ·rw[if_neg e,if_neg e,a7 λz=>e (by rw[z];exact k)]
theorem gY (h:H a=some o) (n:A a=false):dS A H a=some o:=by
 unfold dS;rw[n];exact h
theorem aA.smx (s:aA H H'):uW kn H H':=λa o _ h=>s a o h
theorem uW.trans (s:uW kn H H') (s':uW kn H' H''):uW kn H H'':=λa o n h=>s' _ _ n (s _ _ n h)
theorem uW.put (s:uW kn H H'):uW kn H (upd H' kn o):=λa o' n h=>by rw[a7 n];exact s _ _ n h
theorem uW.after (s:uW kn H H') (n:H a=none):uW kn H (upd H' a o):=λb o' nb h=>by rw[a7 λz=>by rw[z,n] at h;cases h];exact s _ _ nb h
theorem mV.same (h:mV A H) (s:aA H H'):mV A H':=λa ha=>by obtain vs|g:=h a ha;exact #[vs,s _ _ g]
theorem mV.smx (h:mV A H) (s:uW kn H H') (g:H' kn=some (.lst vs)):mV A H':=λa ha=>by
 by_cases e:a=kn
 ·exact #[vs,by rw[e];exact g]
 ·obtain vs|g:=h a ha;exact #[vs,s _ _ e g]
theorem mV.new (h:mV A H) (n:H a=none):A a=false:=by
 cases e:A a with
 | false=>rfl
 | true=>obtain vs|g:=h a e;rw[n] at g;cases g
theorem mV.tup {us:List V} (h:mV A H) (g:H a=some (.tup us)):A a=false:=by
 cases e:A a with
 | false=>rfl
 | true=>obtain vs|g':=h a e;rw[g] at g';cases g'
theorem JD (h:A a=false) (n:a≠k):p6 A k a=false:=by
 unfold p6;rw[h];simpa using n
theorem qW:p6 A k k=true:=by unfold p6;simp
theorem y9 (h:A a=true):p6 A k a=true:=by unfold p6;rw[h];rfl
theorem mV.ad (h:mV A H) (g:H k=some (.lst vs)):mV (p6 A k) H:=λa ha=>by
 unfold p6 at ha;rcases vb.mp ha with z | z
 ·exact h a z
 ·rw[show a=k by simpa using z];exact #[vs,g]
theorem yV (n:H k=none) (s:aA (dS A H) (dS A H')):aA (dS A H) (dS (p6 A k) H'):=λa o h=>by
 have h':=s _ _ h;unfold dS at h h' ⊢
 split at h
 ·cases h
 ·rename_i na
  rw[if_neg na] at h';rw[if_neg]
  ·exact h'
  ·rw[JD (by simpa using na) λz=>by rw[z,n] at h;cases h];exact bF
end
def Mh (H:Hp) (wl:List (List Int)) (wb:Int) (sl:List (List Int)) (sb:Int) (v:V):Prop:=∃t tw ts pw ps,v=.ref t/\H t=some (.tup [.ref tw,.ref ts])/\H tw=some (.tup [.ref pw,.int wb])/\GI H pw wl/\H ts=some (.tup [.ref ps,.int sb])/\GI H ps sl
theorem Mh.same (h:Mh H wl wb sl sb v) (s:aA H H'):Mh H' wl wb sl sb v:=by
 obtain t|tw|ts|pw|ps|e|g1|g2|G1|g3|G2:=h;exact #[t,tw,ts,pw,ps,e,s _ _ g1,s _ _ g2,G1.same s,s _ _ g3,G2.same s]
section
variable {mv pt lk:LR9}
theorem xg:(pC rows).9=rows.9:=af ..
theorem yx (h:∀xs∈rows,xs.9=n):∀l∈pC rows,l.9=n:=λl hl=>by
 unfold pC at hl;obtain xs|hx|rfl:=av.mp hl;unfold cp;rw[af,af];exact h xs hx
theorem Bf:(iM mv pt).9=pt.9+mv.9:=by unfold iM;rw[aB,j5]
theorem AA (D:fI mv pt lk):∀xs∈iM mv pt,xs.9=mv.9:=λxs hx=>by
 unfold iM at hx;rcases aw.mp hx with hx | hx
 ·exact D.pw xs hx
 ·exact qA xs hx
end
theorem Vn (hi:i < zs.9):(Iu zs)[i]?=some ((List.range zs.9).map λj=>if j=i then zs.getD j 0 else 0):=by
 unfold Iu;rw[ay,bY hi];rfl
theorem AE:∀l∈Hs sl wl ob,l.9=sl.9:=λl hl=>by
 unfold Hs at hl;obtain s|hs|rfl:=av.mp hl;unfold uE;rw[af,af]
theorem yR:(Hs sl wl ob).9=sl.9:=af ..
def dU (ls:List (List Int)):Nat->List (List Int)×Int
 | 0=>(ls,1)
 | k+1=>(Ma (dU ls k).1 k k (dU ls k).2,((Ma (dU ls k).1 k k (dU ls k).2).getD k []).getD k 0)
structure Wo (ls:List (List Int)) (m N j:Nat):Prop where
 len:∀k,k<=m->(dU ls k).1.length=N
 wide:∀k,k<=m->∀l∈(dU ls k).1,l.9=N
 pos:∀k,k<=m->0 < (dU ls k).2
 sb:∀k,k<=m->Sz j (dU ls k).2
 sz:∀k,k<=m->∀l∈(dU ls k).1,∀z∈l,Sz j z
abbrev QN (ls:List (List Int)) (m:Nat):List (List Int):=(dU ls m).1.map λl=>l.drop m
abbrev yQ (ls:List (List Int)) (m:Nat):List (List Int):=(QN ls m).drop m
abbrev Sv (ls:List (List Int)) (m:Nat):List (List Int):=(QN ls m).take m
inductive GC (K:FG9) (C Cc:Addr) (vs:List V) (H:Hp) (Q:VK) (E9:XK):Prop
 | mk (x kn t p:Addr) (H0:Hp) (mv pt lk:LR9) (qs rs:List Rat) (wl:List (List Int)) (wb:Int) (σ ω b j:Nat):vs=[.ref x,.ref t]->O7 K H0 H C Cc x kn mv pt lk qs rs->fI mv pt lk->Ek mv pt qs rs σ ω->H t=some (.tup [.ref p,.int wb])->GI H p wl->wl.9=mv.9->(∀l∈wl,l.9=mv.9)->(∀l∈wl,∀z∈l,Sz b z)->Sz b wb->b+2*σ+ω+40<=8000000->0 < iI mv pt qs rs wb->Wo (cw mv pt qs rs wl wb) pt.9 (pt.9+mv.9) j->j+(b+2*σ+ω+40)<=8800000->(∀v t tw ts pw ps H',v=.ref t->aA H H'->H' t=some (.tup [.ref tw,.ref ts])->H' tw=some (.tup [.ref pw,.int (w5 ((dU (cw mv pt qs rs wl wb) pt.9).2*iI mv pt qs rs wb) (yQ (cw mv pt qs rs wl wb) pt.9))])->Iw H H' pw (wQ ((dU (cw mv pt qs rs wl wb) pt.9).2*iI mv pt qs rs wb) (yQ (cw mv pt qs rs wl wb) pt.9))->H' ts=some (.tup [.ref ps,.int (-(dU (cw mv pt qs rs wl wb) pt.9).2)])->Iw H H' ps (Sv (cw mv pt qs rs wl wb) pt.9)->Q v H')->GC K C Cc vs H Q E9
abbrev OP:Type:=(List (List Int)×Int)×(List (List Int)×Int)
def knN (mv pt:LR9) (qs rs:List Rat) (w:List (List Int)×Int):OP:=((wQ ((dU (cw mv pt qs rs w.1 w.2) pt.9).2*iI mv pt qs rs w.2) (yQ (cw mv pt qs rs w.1 w.2) pt.9),w5 ((dU (cw mv pt qs rs w.1 w.2) pt.9).2*iI mv pt qs rs w.2) (yQ (cw mv pt qs rs w.1 w.2) pt.9)),(Sv (cw mv pt qs rs w.1 w.2) pt.9,-(dU (cw mv pt qs rs w.1 w.2) pt.9).2))
def bT (mv pt:LR9) (qs rs fs:List Rat):Nat->OP
 | 0=>((Iu (cp (fs.map nm) (cI (fs.map nm))),cI (fs.map nm)),([],1))
 | t+1=>knN mv pt qs rs (bT mv pt qs rs fs t).1
structure O6 (mv pt:LR9) (qs rs fs:List Rat) (T σ ω b j:Nat):Prop where
 st:Ek mv pt qs rs σ ω
 t8:T<=8
 l1:b+2*σ+ω+40<=8000000
 l2:j+(b+2*σ+ω+40)<=8800000
 l3:b<=4000000/\j<=4400000
 lw:∀t,t<=T->(bT mv pt qs rs fs t).1.1.length=mv.9
 ww:∀t,t<=T->∀l∈(bT mv pt qs rs fs t).1.1,l.9=mv.9
 sw:∀t,t<=T->∀l∈(bT mv pt qs rs fs t).1.1,∀z∈l,Sz b z
 wb:∀t,t<=T->0 < (bT mv pt qs rs fs t).1.2/\Sz b (bT mv pt qs rs fs t).1.2
 kp:∀t,t < T->0 < iI mv pt qs rs (bT mv pt qs rs fs t).1.2
 ah:∀t,t < T->Wo (cw mv pt qs rs (bT mv pt qs rs fs t).1.1 (bT mv pt qs rs fs t).1.2) pt.9 (pt.9+mv.9) j
abbrev Wm (H:Hp) (d:OP) (v:V):Prop:=Mh H d.1.1 d.1.2 d.2.1 d.2.2 v
def vq (A:Addr->Bool) (S:Nat->OP) (kn:Addr) (H:Hp) (vs:List V):Prop:=H kn=some (.lst vs)/\1<=vs.9/\vs.9<=9/\Paired (Wm (dS A H)) ((List.range vs.9).map S) vs
section
variable {K:FG9} {A:Addr->Bool} {S:Nat->OP} {kn r p a:Addr} {H H0 H1 H2:Hp} {us:List V}
theorem Iw.hid (h:Iw H0 H p ls) (n:mV A H0):GI (dS A H) p ls:=by
 obtain np|xs|g|r:=h;exact #[xs,gY g (n.new np),Paired.imp' (λ_ _ #[q,e,nq,g]=>#[q,e,gY g (n.new nq)]) r]
theorem vq.same (h:vq A S kn H us) (s:aA H H1):vq A S kn H1 us:=by
 obtain g|a|b|pr:=h;exact #[s _ _ g,a,b,Paired.imp' (λ_ _ z=>Mh.same z (cG s)) pr]
theorem Az (h:nG K H a xs) (hl:mV A H):nG K (dS A H) a xs:=by
 rcases h with (h | ⟨o,h⟩) | h
 ·exact .inl (.inl (gY h (hl.tup h)))
 ·refine .inl (.inr #[o,gY h ?_]);cases e:A a with
  | false=>rfl
  | true=>obtain vs|g':=hl a e;rw[h] at g';cases g'
 ·exact .inr h
theorem cu.hid (h:cu K H p xs) (hl:mV A H) (n:A p=false):cu K (dS A H) p xs:=by
 obtain zs|g|r:=h;exact #[zs,gY g n,Paired.imp' (λ_ _ #[q,e,s]=>#[q,e,Az s hl]) r]
theorem Oe (s:aA (dS A H) (dS A H1)) (n:H1 r=none):dS A H r=none:=s.none (by
 unfold dS
 split
 ·rfl
 ·exact n)
theorem bQ.hid (h:bQ K H1 H2 p rows) (h2:mV A H2) (h1:mV A H1) (s:aA (dS A H) (dS A H1)) (n:A p=false):bQ K (dS A H) (dS A H2) p rows:=by
 obtain zs|gz|r|nn:=h;exact #[zs,gY gz n,Paired.imp' (λ_ _ #[q,e,nq,R]=>#[q,e,Oe s nq,R.hid h2 (h1.new nq)]) r,nn]
end
inductive J0 (K:FG9) (C Cc:Addr) (vs:List V) (H:Hp) (Q:VK) (E9:XK):Prop
 | mk (A:Addr->Bool) (x kn:Addr) (H0:Hp) (mv pt lk:LR9) (qs rs fs:List Rat) (T σ ω b j l:Nat) (us:List V):vs=[.ref x,.int l]->mV A H->A kn=true->O7 K H0 (dS A H) C Cc x kn mv pt lk qs rs->fI mv pt lk->O6 mv pt qs rs fs T σ ω b j->l<=T->vq A (bT mv pt qs rs fs) kn H us->(∀v us' H',uW kn H H'->vq A (bT mv pt qs rs fs) kn H' us'->Wm (dS A H') (bT mv pt qs rs fs l) v->Q v H')->J0 K C Cc vs H Q E9
def k6 (mv pt:LR9) (qs rs fs:List Rat) (l:Nat) (st:List Rat):List Rat:=C5 (bT mv pt qs rs fs l).2.1 (bT mv pt qs rs fs l).2.2 st
inductive J8 (K:FG9) (C Cc:Addr) (vs:List V) (H:Hp) (Q:VK) (E9:XK):Prop
 | mk (A:Addr->Bool) (x kn s:Addr) (H0:Hp) (mv pt lk:LR9) (qs rs fs st:List Rat) (T σ ω b j l:Nat) (M:Int) (us:List V):vs=[.ref x,.ref s,.int l]->mV A H->A kn=true->O7 K H0 (dS A H) C Cc x kn mv pt lk qs rs->fI mv pt lk->O6 mv pt qs rs fs T σ ω b j->l<=T->vq A (bT mv pt qs rs fs) kn H us->1<=l->cu K (dS A H) s st->st.9=mv.9->tj M (st.map nm)->(∀r us' H',uW kn H H'->vq (p6 A r) (bT mv pt qs rs fs) kn H' us'->H r=none->A r=false->cu K (dS A H') r (k6 mv pt qs rs fs l st)->Q (.ref r) H')->J8 K C Cc vs H Q E9
def oG (mv pt:LR9) (qs rs fs st:List Rat) (T:Nat):Nat->List Rat
 | 0=>st
 | i+1=>gO mv pt (oG mv pt qs rs fs st T i) (k6 mv pt qs rs fs (T - i) (oG mv pt qs rs fs st T i))
def AM (mv pt:LR9) (qs rs fs st:List Rat) (T:Nat):LR9:=(List.range T).map λi=>k6 mv pt qs rs fs (T - i) (oG mv pt qs rs fs st T i)
structure VQ (mv pt:LR9) (qs rs fs st:List Rat) (T:Nat):Prop where
 ls:st.9=mv.9
 la:∀i,i<=T->(oG mv pt qs rs fs st T i).9=mv.9
 ld:∀i,i < T->(k6 mv pt qs rs fs (T - i) (oG mv pt qs rs fs st T i)).9=pt.9
 mm:∀i,i<=T->∃M,tj M ((oG mv pt qs rs fs st T i).map nm)
 fn:∀i,i < T->jZ 1800000 1800000 (oG mv pt qs rs fs st T i++k6 mv pt qs rs fs (T - i) (oG mv pt qs rs fs st T i))
 nx:∀i,i < T->O5 mv pt (oG mv pt qs rs fs st T i) (k6 mv pt qs rs fs (T - i) (oG mv pt qs rs fs st T i))
 sd:∀i,i < T->∀z∈k6 mv pt qs rs fs (T - i) (oG mv pt qs rs fs st T i),lh z
 dt:DA st (C5 (bT mv pt qs rs fs T).1.1 (bT mv pt qs rs fs T).1.2 st)
theorem vq.hide (h:vq A S kn H us) (s:aA H H') (n:H p=none):vq (p6 A p) S kn H' us:=by
 obtain g|a|b|pr:=h;exact #[s _ _ g,a,b,Paired.imp' (λ_ _ z=>Mh.same z (yV n (cG s))) pr]
def Q7 (K:FG9) (A:Addr->Bool) (H0 H:Hp) (xs:List Rat) (v:V):Prop:=∃q zs,v=.ref q/\A q=true/\H0 q=none/\H q=some (.lst zs)/\Paired (bS K (dS A H)) xs zs
theorem Q7.smx {K:FG9} (h:Q7 K A H0 H xs v) (s:uW kn H H') (n:H0 kn≠none) (up:∀a,A a=true->A' a=true) (m:aA (dS A H) (dS A' H')):Q7 K A' H0 H' xs v:=by
 obtain q|zs|e|a|nq|g|r:=h;exact #[q,zs,e,up q a,nq,s _ _ (λz=>n (by rw[<- z];exact nq)) g,Paired.imp' (λ_ _ z=>z.same m) r]
theorem cu.nums {K:FG9} (h:cu K (dS A H) p xs) (l:mV A' H):∃zs,H p=some (.lst zs)/\Paired (bS K (dS A' H)) xs zs:=by
 obtain zs|g|r:=h;exact #[zs,a9 _ _ g,Paired.imp' (λ_ _ z=>by obtain q|e|s:=z.same a9;exact #[q,e,Az s l]) r]
inductive Kc (K:FG9) (C Cc:Addr) (vs:List V) (H:Hp) (Q:VK) (E9:XK):Prop
 | mk (A:Addr->Bool) (x kn s:Addr) (H0:Hp) (mv pt lk:LR9) (qs rs fs st:List Rat) (T σ ω b j l:Nat) (us:List V):vs=[.ref x,.ref s,.int l]->mV A H->A kn=true->O7 K H0 (dS A H) C Cc x kn mv pt lk qs rs->fI mv pt lk->O6 mv pt qs rs fs T σ ω b j->l<=T->vq A (bT mv pt qs rs fs) kn H us->Mu mv pt lk->cu K (dS A H) s st->VQ mv pt qs rs fs st l->(∀A2 t e p us' ws H',H' t=some (.tup [.ref e,.ref p])->(∀a,A a=true->A2 a=true)->(∀a,A2 a=true->A a=true\/H a=none)->mV A2 H'->A2 p=true->H p=none->uW kn H H'->aA (dS A H) (dS A2 H')->vq A2 (bT mv pt qs rs fs) kn H' us'->bS K (dS A2 H') (d9 st (C5 (bT mv pt qs rs fs l).1.1 (bT mv pt qs rs fs l).1.2 st)) (.ref e)->H' p=some (.lst ws)->Paired (Q7 K A2 H H') (AM mv pt qs rs fs st l) ws->V.ref p∉ws->Q (.ref t) H')->Kc K C Cc vs H Q E9
inductive JV (K:FG9) (vs:List V) (H:Hp) (Q:VK) (E9:XK):Prop
 | mk (b:Addr) (m β:Nat):vs=[.ref b,.int m,.int β]->iq H b->m<=8->β<=1->(∀r ws H',H r=none->cu K H' r ws->ws.9=m->(∀w∈ws,(0<=w/\(0 < β->0 < w))/\Dr 1000 w)->iq H' b->cM b H H'->Q (.ref r) H')->JV K vs H Q E9
theorem Vk {t b:Int} (h:z*(b:Rat)=(t:Rat)) (hb:0 < b) (ht:0<=t):0<=z:=by
 rcases Int.lt_or_eq_of_le ht with q | q
 ·exact cD (Nw h hb q)
 ·have h1:(b:Rat)≠0:=λz=>by have:=oj z;lia
  rw[<- q] at h;rcases CY.mp (show z*(b:Rat)=0 from h) with y | y
  ·rw[y];exact yq
  ·exact absurd y h1
structure p9 (mv pt:LR9) (qs rs fs:List Rat):Prop where
 lq:qs.9=mv.9
 lr:rs.9=pt.9
 lf:fs.9=mv.9
 q0:∀w∈qs,0<=w/\Dr 1000 w
 r0:∀w∈rs,0 < w/\Dr 1000 w
 f0:∀w∈fs,0<=w/\Dr 1000 w
inductive Gq (K:FG9) (vs:List V) (H:Hp) (Q:VK) (E9:XK):Prop
 | mk (b r:Addr) (H0:Hp) (mv pt lk:LR9):vs=[.ref b,.ref r]->iq H b->H0 b≠none->fG K H0 H r mv pt lk->fI mv pt lk->(∀l a1 a2 a3 qs rs fs H',H l=none->H a1=none->H a2=none->H a3=none->H' l=some (.lst [.ref a1,.ref a2,.ref a3])->cu K H' a1 qs->cu K H' a2 rs->cu K H' a3 fs->p9 mv pt qs rs fs->iq H' b->cM b H H'->Q (.ref l) H')->Gq K vs H Q E9
def Rf (mv pt:LR9) (T:Nat):Prop:=VG mv pt T/\T<=8/\(3<=mv.9->T<=4)/\(5<=mv.9->T<=3)/\(6<=mv.9->T<=2)
theorem VG.less (h:VG mv pt T) (l:T'<=T):VG mv pt T':=by
 obtain a|b:=h;refine #[(),?_];rcases b with b | ⟨b,c,d⟩
 ·exact .inl ()
 ·exact .inr #[b,λz=>by have:=c z;lia,λz y=>by have:=d z y;lia]
theorem TN:∀n,n<=8->∃v:Nat,([V.int 8,V.int 8,V.int 8,V.int 5,V.int 4,V.int 3,V.int 2,V.int 2,V.int 2]:List V)[n]?=some (.int (v:Int))/\v<=8/\(4<=n->v<=4)/\(5<=n->v<=3)/\(6<=n->v<=2)
 | 0,_=>#[8,rfl,(),(),(),()]
 | 1,_=>#[8,rfl,(),(),(),()]
 | 2,_=>#[8,rfl,(),(),(),()]
 | 3,_=>#[5,rfl,(),(),(),()]
 | 4,_=>#[4,rfl,(),(),(),()]
 | 5,_=>#[3,rfl,(),(),(),()]
 | 6,_=>#[2,rfl,(),(),(),()]
 | 7,_=>#[2,rfl,(),(),(),()]
 | 8,_=>#[2,rfl,(),(),(),()]
 | n+9,h=>absurd h ()
inductive MX (K:FG9) (vs:List V) (H:Hp) (Q:VK) (E9:XK):Prop
 | mk (b r:Addr) (H0:Hp) (mv pt lk:LR9):vs=[.ref b,.ref r]->iq H b->H0 b≠none->fG K H0 H r mv pt lk->fI mv pt lk->(∀xs∈mv++pt,∀x∈xs,lh x)->(∀(T:Nat) H',Rf mv pt T->iq H' b->cM b H H'->Q (.int T) H')->MX K vs H Q E9
section
variable {K:FG9} {A:Addr->Bool} {S:Nat->OP} {b q kn:Addr} {H H':Hp} {us:List V}
theorem iq.smx (B:iq H b) (I:Inner H b q) (s:uW kn H H') (nb:b≠kn) (nq:q≠kn):iq H' b/\Inner H' b q:=by
 obtain q'|x|y|z|cs|h1|h2|r:=B;have e:=I.inj #[x,y,z,h1];subst e;exact #[#[q,x,y,z,cs,s _ _ nb h1,s _ _ nq h2,r],#[x,y,z,s _ _ nb h1]]
theorem cM.smx (u:cM b H H'):uW b H H':=λa o n h=>u.other n h
end
section
variable {K:FG9} {A:Addr->Bool} {H0 H:Hp} {C p:Addr} {mv pt lk rows:LR9}
theorem bQ.hid0 (h:bQ K H0 H p rows) (L:mV A H) (n:∀a,A a=true->H0 a≠none) (np:A p=false):bQ K H0 (dS A H) p rows:=by
 obtain zs|gz|r|nn:=h
 have ne:∀{q},H0 q=none->A q=false:=λ{q} h=>by
  cases e:A q with
  | false=>rfl
  | true=>exact absurd h (n q e)
 exact #[zs,gY gz np,Paired.imp' (λ_ _ #[q,e,nq,R]=>#[q,e,nq,R.hid L (ne nq)]) r,nn]
theorem ou.hid0 (h:ou K H0 H C p mv pt lk) (L:mV A H) (n:∀a,A a=true->H0 a≠none):ou K H0 (dS A H) C p mv pt lk:=by
 obtain dx|a|b|c|g|n1|n2|n3|g1|g2|g3:=h
 have ne:∀{q},H0 q=none->A q=false:=λ{q} h=>by
  cases e:A q with
  | false=>rfl
  | true=>exact absurd h (n q e)
 refine #[dx,a,b,c,gY g ?_,n1,n2,n3,g1.hid0 L n (ne n1),g2.hid0 L n (ne n2),g3.hid0 L n (ne n3)];cases e:A p with
 | false=>rfl
 | true=>obtain vs|g':=L p e;rw[g] at g';cases g'
theorem fG.hid0 (h:fG K H0 H p mv pt lk) (L:mV A H) (n:∀a,A a=true->H0 a≠none):fG K H0 (dS A H) p mv pt lk:=by
 obtain a|b|c|g|n1|n2|n3|g1|g2|g3:=h
 have ne:∀{q},H0 q=none->A q=false:=λ{q} h=>by
  cases e:A q with
  | false=>rfl
  | true=>exact absurd h (n q e)
 exact #[a,b,c,gY g (L.tup g),n1,n2,n3,g1.hid0 L n (ne n1),g2.hid0 L n (ne n2),g3.hid0 L n (ne n3)]
end
section
variable {b q0 kn1 kn2:Addr} {S:Nat->OP} {A A':Addr->Bool} {H H':Hp}
theorem vq.other (h:vq A S kn H us) (s:uW k H H') (n:kn≠k) (m:aA (dS A H) (dS A' H')):vq A' S kn H' us:=by
 obtain g|x|y|pr:=h;exact #[s _ _ n g,x,y,Paired.imp' (λ_ _ z=>Mh.same z m) pr]
end
def xt (n:Nat) (W:Nat->Nat->Rat) (p:Nat->Rat) (r:Rat) (c e:Nat):Rat:=W c e - ((aP n λf=>W c f*p f) / (r+aP n λg=>p g*aP n λf=>W g f*p f))*(aP n λg=>p g*W g e)
section
variable {n:Nat} {sd W:Nat->Nat->Rat} {ow:Nat->Rat} {i j k:Nat}
theorem Rx (hi:i≠k) (hj:j≠k):stN n sd W ow i j - stN n sd W ow k j / stN n sd W ow k k*stN n sd W ow i k=stN n sd (xt n W (sd k) (ow k)) ow i j:=by
 have e0:stN n sd W ow k k=ow k+aP n λg=>sd k g*aP n λf=>W g f*sd k f:=by
  unfold stN;rw[if_pos rfl,AS]
 have e1:stN n sd W ow k j=aP n λc=>sd j c*aP n λf=>W c f*sd k f:=by
  unfold stN;rw[if_neg (Ne.symm hj),dc]
 have e2:stN n sd W ow i k=aP n λe=>(aP n λg=>sd k g*W g e)*sd i e:=by
  unfold stN;rw[if_neg hi,dc]
  rw[aG (g:=λc=>aP n λe=>sd k c*W c e*sd i e) λc _=>by
   rw[<- cF];exact aG λe _=>by grind]
  rw[jt];refine aG λe _=>?_
  rw[c9,<- cF];exact aG λg _=>by grind
 rw[e0,e1,e2];unfold xt;generalize hd:(ow k+aP n λg=>sd k g*aP n λf=>W g f*sd k f)=d;unfold stN
 have e3:(aP n λc=>sd j c*aP n λe=>(W c e - (aP n λf=>W c f*sd k f) / d*(aP n λg=>sd k g*W g e))*sd i e)=(aP n λc=>sd j c*aP n λe=>W c e*sd i e) - (aP n λc=>sd j c*aP n λf=>W c f*sd k f) / d*aP n λe=>(aP n λg=>sd k g*W g e)*sd i e:=by
  rw[br,dX,c9 (aP n λc=>sd j c*aP n λf=>W c f*sd k f),<- cF,<- tU];refine aG λc _=>?_
  have e4:(aP n λe=>(W c e - (aP n λf=>W c f*sd k f) / d*(aP n λg=>sd k g*W g e))*sd i e)=(aP n λe=>W c e*sd i e) - ((aP n λf=>W c f*sd k f) / d)*aP n λe=>(aP n λg=>sd k g*W g e)*sd i e:=by
   rw[<- cF,<- tU];exact aG λe _=>by grind
  rw[e4,br];grind
 rw[e3];grind
end
def Iv (W:Nat->Nat->Rat):Rat:=W 0 0*W 1 1 - W 0 1*W 1 0
theorem xI {d x t y z:Rat} (h:d*t=z):d*(x - t*y)=d*x - z*y:=by
 rw[<- h];grind
theorem Qf {a b c p q r t u:Rat} (ht:(r+(p*(a*p+b*q)+q*(b*p+c*q)))*t=a*p+b*q) (hu:(r+(p*(a*p+b*q)+q*(b*p+c*q)))*u=b*p+c*q) :
  (r+(p*(a*p+b*q)+q*(b*p+c*q)))*(a - t*(p*a+q*b))=r*a+(a*c - b*b)*(q*q) /\
  (r+(p*(a*p+b*q)+q*(b*p+c*q)))*(b - t*(p*b+q*c))=r*b - (a*c - b*b)*(p*q) /\
  (r+(p*(a*p+b*q)+q*(b*p+c*q)))*(b - u*(p*a+q*b))=r*b - (a*c - b*b)*(p*q) /\
  (r+(p*(a*p+b*q)+q*(b*p+c*q)))*(c - u*(p*b+q*c))=r*c+(a*c - b*b)*(p*p):=by
 refine #[?_,?_,?_,?_]
 ·rw[xI ht];grind
 ·rw[xI ht];grind
 ·rw[xI hu];grind
 ·rw[xI hu];grind
theorem Qg {d r D A B B' C a b c p q:Rat} (hd:d≠0) (ed:d=r+(p*(a*p+b*q)+q*(b*p+c*q))) (eD:D=a*c - b*b) (hA:d*A=r*a+D*(q*q)) (hB:d*B=r*b - D*(p*q)) (hB':d*B'=r*b - D*(p*q)) (hC:d*C=r*c+D*(p*p)):d*(A*C - B*B')=r*D:=by
 have h:d*(d*(A*C - B*B'))=d*(r*D):=by
  have e:d*(d*(A*C - B*B'))=d*A*(d*C) - d*B*(d*B'):=by grind
  rw[e,hA,hB,hB',hC];grind
 have h2:=congrArg (λx=>d⁻¹*x) h;simp only[<- dX,iK d hd,gU] at h2;grind
section
variable {W:Nat->Nat->Rat} {p:Nat->Rat} {r:Rat}
def qE (n:Nat) (W:Nat->Nat->Rat) (p:Nat->Rat) (r:Rat):Rat:=r+aP n λg=>p g*aP n λf=>W g f*p f
theorem mI:aP 2 f=f 0+f 1:=by
 show (aP 0 f+f 0)+f 1=_
 show ((0:Rat)+f 0)+f 1=_
 rw[AR]
theorem rd2 (sy:W 1 0=W 0 1) (hd:qE 2 W p r≠0) :
  qE 2 W p r*xt 2 W p r 0 0=r*W 0 0+Iv W*(p 1*p 1) /\
  qE 2 W p r*xt 2 W p r 0 1=r*W 0 1 - Iv W*(p 0*p 1) /\
  qE 2 W p r*xt 2 W p r 1 0=r*W 0 1 - Iv W*(p 0*p 1) /\
  qE 2 W p r*xt 2 W p r 1 1=r*W 1 1+Iv W*(p 0*p 0) /\
  qE 2 W p r*Iv (xt 2 W p r)=r*Iv W:=by
 have ep:qE 2 W p r=r+(p 0*(W 0 0*p 0+W 0 1*p 1)+p 1*(W 0 1*p 0+W 1 1*p 1)):=by
  unfold qE;simp only[mI,sy]
 have er:∀c e,xt 2 W p r c e=W c e - ((W c 0*p 0+W c 1*p 1) / qE 2 W p r)*(p 0*W 0 e+p 1*W 1 e):=λc e=>by
  unfold xt qE;simp only[mI]
 have hq:∀x,qE 2 W p r*(x / qE 2 W p r)=x:=λx=>by
  rw[br,c9 x,<- dX,dD _ hd,gU]
 have eD:Iv W=W 0 0*W 1 1 - W 0 1*W 0 1:=by unfold Iv;rw[sy]
 have h0:=hq (W 0 0*p 0+W 0 1*p 1);have h1:=hq (W 0 1*p 0+W 1 1*p 1);have e00:=er 0 0;have e01:=er 0 1;have e10:=er 1 0;have e11:=er 1 1;rw[sy] at e00 e10 e11;generalize (W 0 0*p 0+W 0 1*p 1) / qE 2 W p r=t at h0 e00 e01;generalize (W 0 1*p 0+W 1 1*p 1) / qE 2 W p r=u at h1 e10 e11;rw[ep] at h0 h1;obtain k1|k2|k3|k4:=Qf h0 h1;rw[<- ep] at k1 k2 k3 k4;rw[<- eD] at k1 k2 k3 k4;rw[<- e00] at k1;rw[<- e01] at k2;rw[<- e10] at k3;rw[<- e11] at k4;refine #[k1,k2,k3,k4,?_];exact Qg hd ep eD k1 k2 k3 k4
end
section
variable {n:Nat} {W:Nat->Nat->Rat} {p z u v:Nat->Rat} {r s:Rat}
def ya (n:Nat) (W:Nat->Nat->Rat) (u v:Nat->Rat):Rat:=aP n λi=>u i*aP n λj=>W i j*v j
theorem FK (sy:∀i j,i < n->j < n->W i j=W j i):ya n W u v=ya n W v u:=by
 unfold ya
 rw[aG (g:=λi=>aP n λj=>v j*(W j i*u i)) λi hi=>by
  rw[<- cF];exact aG λj hj=>by rw[sy i j hi hj];grind]
 rw[jt];exact aG λj _=>by rw[cF]
theorem JA:ya n W (λi=>u i - s*u' i) v=ya n W u v - s*ya n W u' v:=by
 unfold ya;rw[<- cF,<- tU];exact aG λi _=>by grind
theorem U8:ir n (xt n W p r) z=ir n W z - ya n W z p / qE n W p r*ya n W p z:=by
 have h:=Rx (n:=n) (sd:=λk=>if k=0 then p else z) (W:=W) (ow:=λk=>if k=0 then r else 0) (i:=1) (j:=1) (k:=0) () ();unfold stN at h;simp only[if_pos,if_neg (show ¬(1:Nat)=0 by decide),if_neg (show ¬(0:Nat)=1 by decide),dc] at h;unfold ir ya qE;rw[<- h,AS r]
theorem IX (sy:∀i j,i < n->j < n->W i j=W j i):ir n W (λi=>z i - s*p i)=ir n W z - s*ya n W z p - s*ya n W p z+s*s*ya n W p p:=by
 show ya n W (λi=>z i - s*p i) (λi=>z i - s*p i)=ya n W z z - s*ya n W z p - s*ya n W p z+s*s*ya n W p p
 rw[JA,FK sy (u:=z),FK sy (u:=p) (v:=λi=>z i - s*p i),JA,JA,FK sy (u:=z) (v:=p)];grind
theorem Nh (sy:∀i j,i < n->j < n->W i j=W j i) (r0:0 < r) (ps:∀z,0<=ir n W z):0 < qE n W p r/\0<=ir n (xt n W p r) z/\ir n (xt n W p r) z<=ir n W z:=by
 have pp:qE n W p r=r+ir n W p:=rfl
 have d0:0 < qE n W p r:=by
  have:=ps p;rw[pp];grind
 have dn:qE n W p r≠0:=by grind
 have hq:qE n W p r*(ya n W z p / qE n W p r)=ya n W z p:=by
  rw[br,c9 (ya n W z p),<- dX,dD _ dn,gU]
 have hm:=IX (s:=ya n W z p / qE n W p r) (z:=z) (p:=p) sy;have hp:=ps λi=>z i - ya n W z p / qE n W p r*p i
 have e:=U8 (n:=n) (W:=W) (p:=p) (z:=z) (r:=r);have sb:=FK sy (u:=p) (v:=z);rw[sb] at e hm
 have pb:ya n W p p=qE n W p r - r:=by
  have:ya n W p p=ir n W p:=rfl;rw[this,pp];grind
 rw[pb] at hm;generalize ya n W z p / qE n W p r=t at hq hm hp e;generalize ya n W z p=y at hq hm e;generalize qE n W p r=d at hq hm d0 dn;rw[hm] at hp;rw[e];have t2:0<=t*t:=by have:=MT (a:=t) (w:=1) ();rwa [br,show (1:Rat)⁻¹=1 from by grind,fY] at this
 have e1:t*y=d*(t*t):=by rw[<- hq];grind
 have n1:0<=d*(t*t):=eK (cD d0) t2;have n2:0<=r*(t*t):=eK (cD r0) t2;refine #[d0,?_,?_]
 ·have e2:t*t*(d - r)=d*(t*t) - r*(t*t):=by grind
  rw[e2] at hp;grind
 ·grind
end
def dA (x:Rat):Prop:=∃z:Int,x=(z:Rat)
section
variable {x y:Rat}
theorem dA.add (h:dA x) (k:dA y):dA (x+y):=by
 obtain a|rfl:=h;obtain b|rfl:=k;exact #[a+b,by rw[kq]]
theorem dA.sub (h:dA x) (k:dA y):dA (x - y):=by
 obtain a|rfl:=h;obtain b|rfl:=k;exact #[a - b,by rw[Pb]]
theorem dA.mul (h:dA x) (k:dA y):dA (x*y):=by
 obtain a|rfl:=h;obtain b|rfl:=k;exact #[a*b,by rw[aO]]
theorem dA.of (h:dA x) (e:y=x):dA y:=by rw[e];exact h
end
section
variable {W:Nat->Nat->Rat} {p:Nat->Rat} {r β κ:Rat}
structure Sm (W:Nat->Nat->Rat) (β:Rat):Prop where
 b:dA β
 w0:dA (W 0 0*β)
 w1:dA (W 0 1*β)
 w2:dA (W 1 1*β)
 d:dA (Iv W*β)
theorem Sm.rd (h:Sm W β) (sy:W 1 0=W 0 1) (hd:qE 2 W p r≠0) (kr:dA (κ*r)) (k0:dA (κ*(p 0*p 0))) (k1:dA (κ*(p 0*p 1))) (k2:dA (κ*(p 1*p 1))):Sm (xt 2 W p r) (κ*β*qE 2 W p r)/\xt 2 W p r 1 0=xt 2 W p r 0 1:=by
 obtain e1|e2|e3|e4|e5:=rd2 sy hd
 have ep:qE 2 W p r=r+(p 0*(W 0 0*p 0+W 0 1*p 1)+p 1*(W 0 1*p 0+W 1 1*p 1)):=by
  unfold qE;simp only[mI,sy]
 have sc:xt 2 W p r 1 0=xt 2 W p r 0 1:=by
  have h:=e3.trans e2.symm;have h2:=congrArg (λx=>(qE 2 W p r)⁻¹*x) h;simp only[<- dX,iK _ hd,gU] at h2;exact h2
 refine #[#[?_,?_,?_,?_,?_],sc]
 ·exact dA.of (((kr.mul h.b).add ((k0.mul h.w0).add (k1.mul h.w1))).add ((k1.mul h.w1).add (k2.mul h.w2))) (by rw[ep];grind)
 ·exact dA.of ((kr.mul h.w0).add (h.d.mul k2)) (by rw[show xt 2 W p r 0 0*(κ*β*qE 2 W p r)=κ*β*(qE 2 W p r*xt 2 W p r 0 0) by grind,e1];grind)
 ·exact dA.of ((kr.mul h.w1).sub (h.d.mul k1)) (by rw[show xt 2 W p r 0 1*(κ*β*qE 2 W p r)=κ*β*(qE 2 W p r*xt 2 W p r 0 1) by grind,e2];grind)
 ·exact dA.of ((kr.mul h.w2).add (h.d.mul k0)) (by rw[show xt 2 W p r 1 1*(κ*β*qE 2 W p r)=κ*β*(qE 2 W p r*xt 2 W p r 1 1) by grind,e4];grind)
 ·exact dA.of (kr.mul h.d) (by rw[show Iv (xt 2 W p r)*(κ*β*qE 2 W p r)=κ*β*(qE 2 W p r*Iv (xt 2 W p r)) by grind,e5];grind)
end
section
variable {W sd:Nat->Nat->Rat} {ow:Nat->Rat} {β m o:Rat}
theorem QJ {a b c s t u v g h:Rat}:(s*(a*s+b*t)+t*(b*s+c*t)+g)*(u*(a*u+b*v)+v*(b*u+c*v)+h) - (u*(a*s+b*t)+v*(b*s+c*t))*(s*(a*u+b*v)+t*(b*u+c*v))=(s*v - t*u)*(s*v - t*u)*(a*c - b*b)+g*(u*(a*u+b*v)+v*(b*u+c*v))+h*(s*(a*s+b*t)+t*(b*s+c*t))+g*h:=by grind
theorem FL (ha:dA (a*β)) (hb:dA (b*β)) (hc:dA (c*β)) (hs:dA (m*s)) (ht:dA (m*t)) (hu:dA (m*u)) (hv:dA (m*v)):dA (m*m*β*(u*(a*s+b*t)+v*(b*s+c*t))) :=
 dA.of (((hu.mul hs).mul ha).add (((hu.mul ht).mul hb).add (((hv.mul hs).mul hb).add ((hv.mul ht).mul hc)))) (by grind)
theorem Sm.st (h:Sm W β) (sy:W 1 0=W 0 1) (im:dA m) (io:dA o) (s0:dA (m*sd 0 0)) (s1:dA (m*sd 0 1)) (s2:dA (m*sd 1 0)) (s3:dA (m*sd 1 1)) (o0:dA (o*ow 0)) (o1:dA (o*ow 1)):Sm (stN 2 sd W ow) (o*o*(m*m*(m*m))*β)/\stN 2 sd W ow 1 0=stN 2 sd W ow 0 1:=by
 have e00:stN 2 sd W ow 0 0=sd 0 0*(W 0 0*sd 0 0+W 0 1*sd 0 1)+sd 0 1*(W 0 1*sd 0 0+W 1 1*sd 0 1)+ow 0:=by
  unfold stN;simp only[mI,sy,if_pos]
 have e01:stN 2 sd W ow 0 1=sd 1 0*(W 0 0*sd 0 0+W 0 1*sd 0 1)+sd 1 1*(W 0 1*sd 0 0+W 1 1*sd 0 1):=by
  unfold stN;simp only[mI,sy,if_neg (show ¬(0:Nat)=1 by decide),dc]
 have e10:stN 2 sd W ow 1 0=sd 0 0*(W 0 0*sd 1 0+W 0 1*sd 1 1)+sd 0 1*(W 0 1*sd 1 0+W 1 1*sd 1 1):=by
  unfold stN;simp only[mI,sy,if_neg (show ¬(1:Nat)=0 by decide),dc]
 have e11:stN 2 sd W ow 1 1=sd 1 0*(W 0 0*sd 1 0+W 0 1*sd 1 1)+sd 1 1*(W 0 1*sd 1 0+W 1 1*sd 1 1)+ow 1:=by
  unfold stN;simp only[mI,sy,if_pos]
 have eD:Iv W=W 0 0*W 1 1 - W 0 1*W 0 1:=by unfold Iv;rw[sy]
 have b00:=FL h.w0 h.w1 h.w2 s0 s1 s0 s1;have b01:=FL h.w0 h.w1 h.w2 s0 s1 s2 s3;have b11:=FL h.w0 h.w1 h.w2 s2 s3 s2 s3;have mm:=im.mul im;have dt:=(s0.mul s3).sub (s1.mul s2);have hd:dA ((W 0 0*W 1 1 - W 0 1*W 0 1)*β):=by rw[<- eD];exact h.d
 have hb:=h.b;refine #[#[((io.mul io).mul (mm.mul mm)).mul hb,?_,?_,?_,?_],by rw[e10,e01];grind]
 ·rw[e00];generalize sd 0 0*(W 0 0*sd 0 0+W 0 1*sd 0 1)+sd 0 1*(W 0 1*sd 0 0+W 1 1*sd 0 1)=x at b00;exact dA.of (((io.mul io).mul (mm.mul b00)).add ((io.mul o0).mul ((mm.mul mm).mul hb))) (by grind)
 ·rw[e01];generalize sd 1 0*(W 0 0*sd 0 0+W 0 1*sd 0 1)+sd 1 1*(W 0 1*sd 0 0+W 1 1*sd 0 1)=x at b01;exact dA.of ((io.mul io).mul (mm.mul b01)) (by grind)
 ·rw[e11];generalize sd 1 0*(W 0 0*sd 1 0+W 0 1*sd 1 1)+sd 1 1*(W 0 1*sd 1 0+W 1 1*sd 1 1)=x at b11;exact dA.of (((io.mul io).mul (mm.mul b11)).add ((io.mul o1).mul ((mm.mul mm).mul hb))) (by grind)
 ·have ed:Iv (stN 2 sd W ow)=(sd 0 0*sd 1 1 - sd 0 1*sd 1 0)*(sd 0 0*sd 1 1 - sd 0 1*sd 1 0)*(W 0 0*W 1 1 - W 0 1*W 0 1)+ow 0*(sd 1 0*(W 0 0*sd 1 0+W 0 1*sd 1 1)+sd 1 1*(W 0 1*sd 1 0+W 1 1*sd 1 1))+ow 1*(sd 0 0*(W 0 0*sd 0 0+W 0 1*sd 0 1)+sd 0 1*(W 0 1*sd 0 0+W 1 1*sd 0 1))+ow 0*ow 1:=by
   unfold Iv;rw[e00,e01,e10,e11];exact QJ
  rw[ed];generalize sd 0 0*(W 0 0*sd 0 0+W 0 1*sd 0 1)+sd 0 1*(W 0 1*sd 0 0+W 1 1*sd 0 1)=x at b00;generalize sd 1 0*(W 0 0*sd 1 0+W 0 1*sd 1 1)+sd 1 1*(W 0 1*sd 1 0+W 1 1*sd 1 1)=y at b11;generalize W 0 0*W 1 1 - W 0 1*W 0 1=z at hd;refine dA.of ((((io.mul io).mul ((dt.mul dt).mul hd)).add ((io.mul o0).mul (mm.mul b11))).add (((io.mul o1).mul (mm.mul b00)).add ((o0.mul o1).mul ((mm.mul mm).mul hb)))) ?_;grind
end
section
variable {n:Nat} {W sd:Nat->Nat->Rat} {ow p z:Nat->Rat} {r:Rat}
theorem SQ (sy:∀i j,i < n->j < n->W i j=W j i):∀i j,i < n->j < n->xt n W p r i j=xt n W p r j i:=λi j hi hj=>by
 have x:∀c,c < n->(aP n λg=>p g*W g c)=aP n λf=>W c f*p f:=λc hc=>aG λg hg=>by rw[sy g c hg hc,c9]
 unfold xt;rw[x i hi,x j hj,sy i j hi hj,br,br];grind
def zy (n:Nat) (sd W:Nat->Nat->Rat) (ow:Nat->Rat):Nat->Nat->Nat->Rat
 | 0=>W
 | k+1=>xt n (zy n sd W ow k) (sd k) (ow k)
theorem IW (sy:∀i j,i < n->j < n->W i j=W j i) (ps:∀z,0<=ir n W z):∀k,(∀i,i < k->0 < ow i)->(∀i j,i < n->j < n->zy n sd W ow k i j=zy n sd W ow k j i)/\(∀z,0<=ir n (zy n sd W ow k) z)/\∀z,ir n (zy n sd W ow k) z<=ir n W z
 | 0,_=>#[sy,ps,λ_=>yq]
 | k+1,h=>by
  obtain a|b|c:=IW sy ps k λi hi=>h i ()
  have o:=h k ();exact #[SQ a,λz=>(Nh a o b).2.1,λz=>je (Nh a o b).2.2 (c z)]
theorem SG (hi:i≠k) (hj:j≠k):stN n sd (zy n sd W ow k) ow i j - stN n sd (zy n sd W ow k) ow k j / stN n sd (zy n sd W ow k) ow k k*stN n sd (zy n sd W ow k) ow i k=stN n sd (zy n sd W ow (k+1)) ow i j:=Rx hi hj
end
section
variable {n:Nat} {W:Nat->Nat->Rat}
def Ey (i k:Nat):Rat:=if k=i then 1 else 0
theorem sX (hi:i < n) (hj:j < n):ya n W (Ey i) (Ey j)=W i j:=by
 have e:∀c,(aP n λf=>W c f*Ey j f)=W c j:=λc=>by
  rw[ky (i:=j) hj λf _ nf=>by unfold Ey;rw[if_neg nf,iw]];unfold Ey;rw[if_pos rfl,fY]
 unfold ya
 rw[ky (i:=i) hi λc _ nc=>by
  show Ey i c*_=0
  unfold Ey;rw[if_neg nc,cx]]
 rw[e i];unfold Ey;rw[if_pos rfl,gU]
theorem EX (hi:i < n):ir n W (Ey i)=W i i:=sX hi hi
theorem Qk (sy:∀i j,i < n->j < n->W i j=W j i) (ps:∀z,0<=ir n W z) {V:Rat} (hi:i < n) (hj:j < n) (vi:W i i<=V) (vj:W j j<=V):- V<=W i j/\W i j<=V:=by
 have a:=IX (n:=n) (s:=1) (z:=Ey i) (p:=Ey j) sy;have b:=IX (n:=n) (s:=-1) (z:=Ey i) (p:=Ey j) sy;have a0:=ps λk=>Ey i k - 1*Ey j k
 have b0:=ps λk=>Ey i k - (-1)*Ey j k
 rw[a,EX hi,sX hi hj,sX hj hi,sX hj hj,sy j i hj hi] at a0;rw[b,EX hi,sX hi hj,sX hj hi,sX hj hj,sy j i hj hi] at b0;constructor <;> grind
end
section
variable {mv pt lk:LR9} {qs rs:List Rat} {wl sl ls:List (List Int)} {wb ob sb b:Int} {ot:List Int} {σ ω n m N W0:Nat}
theorem QD {l:LR9} (h:xs∈l) (hx:x∈xs):nm x∈l.flatten.map nm:=av.mpr #[x,cS.mpr #[_,h,hx],rfl]
theorem MH (hM:tj M (mv.flatten.map nm)):((((pC mv).getD i []).getD l 0:Int):Rat)=jY mv i l*(tL mv:Rat):=by
 unfold jY pC;rw[ae (l:=List.map _ mv),ay,ae (l:=mv)];cases e:mv[i]? with
 | none =>
  show (((([]:List Int).getD l 0:Int)):Rat)=([]:List Rat).getD l 0*_
  rw[ae,ae];show ((0:Int):Rat)=0*_
  rw[cx];rfl
 | some xs =>
  show (((cp (xs.map nm) (tL mv)).getD l 0:Int):Rat)=xs.getD l 0*_
  unfold cp;rw[ae,ay,ay,ae];cases e2:xs[l]? with
  | none =>
   show ((0:Int):Rat)=0*_
   rw[cx];rfl
  | some x=>exact mH (qT (QD (ao e) (ao e2)))
theorem Ju {a b:Int} (hb:b≠0) (h:dA ((a:Rat) / (b:Rat))):b∣a:=by
 obtain z|e:=h;have b0:(b:Rat)≠0:=λq=>hb (oj q)
 refine #[z,?_]
 have h1:(a:Rat)=(b:Rat)*(z:Rat):=by
  rw[<- e,br,c9 (a:Rat),<- dX,dD _ b0,gU]
 rw[<- aO] at h1;exact eP.mp h1
theorem NI (v:List Int) (hi:i < ls.9):(uE ls v).getD i 0=Dp (ls.getD i []) v:=by
 unfold uE;rw[ae,ay,ae,ai hi];rfl
theorem Kl:(uE ls v).9=ls.9:=af ..
def j4 (wl:List (List Int)) (wb:Int) (i j:Nat):Rat:=eB wl i j / (wb:Rat)
theorem Vp (hs:∀l∈sl,l.9=n) (lw:wl.9=n) (ww:∀l∈wl,l.9=n) (hi:i < sl.9) (hj:j < sl.9):eB (Hs sl wl ob) i j=(aP n λc=>eB sl j c*aP n λe=>eB wl c e*eB sl i e)*(ob:Rat):=by
 have e1:(Hs sl wl ob).getD i []=(uE sl (uE wl (sl.getD i []))).map λz=>z*ob:=by
  unfold Hs;rw[ae,ay,ae,ai hi];rfl
 have hl:∀v,(uE sl v).9=sl.9:=λv=>Kl
 have e2:((Hs sl wl ob).getD i []).getD j 0=Dp (sl.getD j []) (uE wl (sl.getD i []))*ob:=by
  rw[e1,<- NI _ hj];generalize uE wl (sl.getD i [])=v;rw[ae,ay,ae,ai (by rw[hl];exact hj)];rfl
 unfold eB;rw[e2,aO,yX (hs _ (getD_in hj)) (Kl.trans lw)];congr 1;refine aG λc hc=>?_
 rw[NI _ (),yX (ww _ (getD_in ())) (hs _ (getD_in hi))]
theorem yy (S:Ek mv pt qs rs σ ω) (D:fI mv pt lk) (lw:wl.9=mv.9) (ww:∀l∈wl,l.9=mv.9) (hb:0 < wb) (hi:i < pt.9+mv.9) (hj:j < pt.9+mv.9) :
  eB (cw mv pt qs rs wl wb) i j=(iI mv pt qs rs wb:Rat)*stN mv.9 (jY (iM mv pt)) (j4 wl wb) (λi=>(iQ qs rs).getD i 0) i j:=by
 obtain M|hM:=S.ms;have lsd:(pC (iM mv pt)).9=pt.9+mv.9:=by rw[xg,Bf]
 have wsd:∀l∈pC (iM mv pt),l.9=mv.9:=yx (AA D);have wb0:(wb:Rat)≠0:=λq=>by have:=oj q;lia
 have lo:(iQ qs rs).9=pt.9+mv.9:=by unfold iQ;rw[aB,S.lr,S.lq]
 have e1:eB (cw mv pt qs rs wl wb) i j=eB (Hs (pC (iM mv pt)) wl (cI ((iQ qs rs).map nm))) i j+if i=j then (((cp ((iQ qs rs).map nm) (cI ((iQ qs rs).map nm))).getD i 0:Int):Rat)*((tL (iM mv pt)*tL (iM mv pt)*wb:Int):Rat) else 0:=by
  unfold cw V5 eB;rw[OL (n:=pt.9+mv.9) (by rw[yR,lsd]) (λl hl=>by rw[AE l hl,lsd]) hi hj _ (),kq];congr 1;by_cases e:i=j
  ·rw[if_pos #[e,()],if_pos e,aO]
  ·rw[if_neg λz=>e z.1,if_neg e];rfl
 have tv:∀i c,eB (pC (iM mv pt)) i c=jY (iM mv pt) i c*(tL (iM mv pt):Rat):=λi c=>MH hM
 have wv:∀c e,eB wl c e=(wb:Rat)*j4 wl wb c e:=λc e=>by
  unfold j4;rw[br,c9 (eB wl c e),<- dX,dD _ wb0,gU]
 have ov:(((cp ((iQ qs rs).map nm) (cI ((iQ qs rs).map nm))).getD i 0:Int):Rat)=(iQ qs rs).getD i 0*((cI ((iQ qs rs).map nm):Int):Rat):=JO;rw[e1,Vp wsd lw ww () (),ov]
 have e2:(aP mv.9 λc=>eB (pC (iM mv pt)) j c*aP mv.9 λe=>eB wl c e*eB (pC (iM mv pt)) i e)=((tL (iM mv pt):Rat)*(tL (iM mv pt):Rat)*(wb:Rat))*aP mv.9 λc=>jY (iM mv pt) j c*aP mv.9 λe=>j4 wl wb c e*jY (iM mv pt) i e:=by
  rw[<- cF];refine aG λc _=>?_
  rw[tv,aG (g:=λe=>((wb:Rat)*(tL (iM mv pt):Rat))*(j4 wl wb c e*jY (iM mv pt) i e)) λe _=>by rw[wv,tv];grind,cF];grind
 rw[e2];unfold stN iI;simp only[aO];by_cases e:i=j
 ·rw[if_pos e,if_pos e];grind
 ·rw[if_neg e,if_neg e];grind
theorem FH (l1:(dU ls k).1.length=N) (w1:∀l∈(dU ls k).1,l.9=N) (d1:0 < (dU ls k).2) (B:yp (eB ls) N k (λi=>i) (λj=>j) (eB (dU ls k).1) ((dU ls k).2:Rat)) (kN:k < N) (hW:1<=W0) (ha:∀i,i < N->∀c,Fr 1 W0 (eB ls i c)) (ps:∀z:Nat->Rat,z k=1->0 < ir N (eB ls) z) :
  ((dU ls (k+1)).1.length=N/\(∀l∈(dU ls (k+1)).1,l.9=N)/\0 < (dU ls (k+1)).2/\yp (eB ls) N (k+1) (λi=>i) (λj=>j) (eB (dU ls (k+1)).1) ((dU ls (k+1)).2:Rat))/\((dU ls (k+1)).2:Rat)=eB (dU ls k).1 k k/\∀i c,i < N->i≠k->eB (dU ls (k+1)).1 i c=(eB (dU ls k).1 k k*eB (dU ls k).1 i c - eB (dU ls k).1 i k*eB (dU ls k).1 k c) / ((dU ls k).2:Rat):=by
 have dq:(0:Rat) < ((dU ls k).2:Rat):=cR.mpr d1;have p0:0 < eB (dU ls k).1 k k:=QZ B dq kN ps;have B2:=B.step kN (c0:=k) (by grind)
 have fc:=λi (hi:i < N)=>Ou (P:=k) (b:=(dU ls k).2) w1 (k:=k) () () (i:=i) () λc=>by
  by_cases e:i=k
  ·subst e;refine #[0,?_];rw[show eB (dU ls i).1 i i*eB (dU ls i).1 i c - eB (dU ls i).1 i i*eB (dU ls i).1 i c=0 by grind,br,cx];rfl
  ·have:=Qy (B2.fr (N:=k+2) () hW ha hi (c:=c));simp only[if_neg e] at this;exact this
 have ek:∀c,eB (dU ls (k+1)).1 k c=eB (dU ls k).1 k c:=λc=>by
  have:=fc k kN c;rwa [if_pos rfl] at this
 have e2:((dU ls (k+1)).2:Rat)=eB (dU ls k).1 k k:=ek k;refine #[#[by show (Ma ..).9=N;rw[T5,l1],KO w1 (),?_,?_],e2,λi c hi ne=>?_]
 ·have:(0:Rat) < ((dU ls (k+1)).2:Rat):=by rw[e2];exact p0
  exact cR.mp this
 ·rw[e2];refine B2.congr (λj hj=>?_) λi hi c=>?_
  ·by_cases e:j=k
   ·rw[if_pos e,e]
   ·rw[if_neg e]
  ·exact fc i hi c
 ·have:=fc i hi c;rwa [if_neg ne] at this
theorem OH (len:ls.9=N) (wide:∀l∈ls,l.9=N) (mN:m<=N) (hW:1<=W0) (ha:∀i,i < N->∀c,Fr 1 W0 (eB ls i c)) (ps:∀k,k < m->∀z:Nat->Rat,z k=1->0 < ir N (eB ls) z):∀k,k<=m->(dU ls k).1.length=N/\(∀l∈(dU ls k).1,l.9=N)/\0 < (dU ls k).2/\yp (eB ls) N k (λi=>i) (λj=>j) (eB (dU ls k).1) ((dU ls k).2:Rat)
 | 0,_=>#[len,wide,(show (0:Int) < 1 by decide),yp.start λ_ _=>rfl]
 | k+1,hk=>by
  obtain l1|w1|d1|B:=OH len wide mN hW ha ps k ();exact (FH l1 w1 d1 B () hW ha (ps k hk)).1
end
section
variable {a l W sd:Nat->Nat->Rat} {ow f z:Nat->Rat} {m n k N:Nat} {d:Rat}
theorem nJ:aP (m+n) f=aP m f+aP n λi=>f (m+i):=by
 induction n with
 | zero=>show aP m f=_+(0:Rat);rw[dc]
 | succ n ih =>
  show aP (m+n) f+f (m+n)=aP m f+(aP n (λi=>f (m+i))+f (m+n))
  rw[ih];grind
theorem Ks (B:yp a (m+n) m (λi=>i) (λj=>j) l d):ir n (λi j=>l (m+i) (m+j) / d) z=ir (m+n) a (FI m l d (m+n) λi=>if i < m then 0 else z (i - m)):=by
 rw[FN B λi hi=>if_pos hi]
 have h0:∀g:Nat->Rat,aP (m+n) (λi=>g i*if i < m then 0 else z (i - m))=aP n λi=>g (m+i)*z i:=λg=>by
  rw[nJ,eR (k:=m) λi hi=>by rw[if_pos hi,iw],AR];refine aG λi _=>?_
  rw[if_neg (),show m+i - m=i by lia]
 unfold ir;rw[aG (k:=m+n) (g:=λi=>(aP (m+n) λj=>l i j / d*if j < m then 0 else z (j - m))*if i < m then 0 else z (i - m)) λi _=>c9 _ _,h0];refine aG λi _=>?_
 rw[h0 λj=>l (m+i) j / d,c9]
theorem Ut {x:Rat}:0<=x*x:=by have:=MT (a:=x) (w:=1) ();rwa [br,show (1:Rat)⁻¹=1 from by grind,fY] at this
theorem UW (ps:∀z,0<=ir n W z) (o0:∀i,i < N->0<=ow i):0<=ir N (stN n sd W ow) z:=by
 rw[JT];have h1:=ps λe=>aP N λi=>z i*sd i e
 have h2:=xj (f:=λi=>ow i*(z i*z i)) N λi hi=>eK (o0 i hi) Ut
 grind
theorem SH (ps:∀z,0<=ir n W z) (o0:∀i,i < N->0<=ow i) (hk:k < N) (ok:0 < ow k) (zk:z k=1):0 < ir N (stN n sd W ow) z:=by
 rw[JT];have h1:=ps λe=>aP N λi=>z i*sd i e
 have h2:=EC (f:=λi=>ow i*(z i*z i)) hk λi hi=>eK (o0 i hi) Ut
 rw[zk] at h2;grind
end
structure vt (n:Nat) (wl:List (List Int)) (wb:Int) (b:Nat):Prop where
 len:wl.9=n
 wide:∀l∈wl,l.9=n
 pos:0 < wb
 ps:∀z,0<=ir n (j4 wl wb) z
 sl:∀l∈wl,∀z∈l,Sz b z
 sb:Sz b wb
theorem vt.mono (h:vt n wl wb b) (l:b<=b'):vt n wl wb b':=#[h.len,h.wide,h.pos,h.ps,λl' hl z hz=>(h.sl l' hl z hz).mono l,h.sb.mono l]
theorem Pn (h1:Sz k x) (h2:Sz k y):Sz (k+1) (x+y):=by
 unfold Sz at *
 have:=yt x y;have e:2^(k+1)=2^k*2:=jf ..;generalize 2^k=p at *
 lia
theorem xh:Sz k 0:=dG k
theorem TL {z:Int} (h:z.natAbs<=W):Fr 1 W (z:Rat):=#[z,by rw[show ((1:Nat):Rat)=1 from rfl,fY],by rw[Nat.mul_one];exact h]
theorem KC (h:∀l∈ls,∀z∈l,Sz k z) (i c:Nat):Fr 1 (2^k) (eB ls i c):=by
 refine TL (aL ?_);show Sz k _
 rw[ae (l:=ls)];cases e:ls[i]? with
 | none=>exact xh
 | some l =>
  show Sz k (l.getD c 0)
  rw[ae];cases e2:l[c]? with
  | none=>exact xh
  | some z=>exact h l (ao e) z (ao e2)
section
variable {mv pt lk:LR9} {qs rs:List Rat} {wl ls:List (List Int)} {wb:Int} {σ ω b n m:Nat}
theorem VE (hL:L.9=n) (w:∀l∈L,l.9=n) (h:∀l∈L,∀z∈l,Sz k z) (hf:∀i,Sz k (f i)):∀l∈Ef L f n,∀z∈l,Sz (k+1) z:=λl hl z hz=>by
 obtain i|hi|rfl:=bX hl;obtain c|hc|rfl:=bX hz;have hi':i < n:=by rw[wX] at hi;lia
 have hc':c < n:=by rw[vp w n () _ (bo _)] at hc;lia
 have e:=OL (f:=f) hL w hi' hc' n (ar _);rw[ae (l:=Ef L f n),ai hi,eY,ae,ai hc,eY] at e;rw[e];refine Pn (h _ (getD_in (show i < L.9 by lia)) _ (getD_in (by rw[w _ (getD_in ())];exact hc'))) ?_
 split
 ·exact hf i
 ·exact xh
theorem ED (S:Ek mv pt qs rs σ ω) (D:fI mv pt lk) (lw:wl.9=mv.9) (ww:∀l∈wl,l.9=mv.9) (sw:∀l∈wl,∀z∈l,Sz b z) (sb:Sz b wb):(∀l∈cw mv pt qs rs wl wb,∀z∈l,Sz (b+(2*σ+ω+17)) z)/\Sz (b+(2*σ+ω)) (iI mv pt qs rs wb):=by
 have lsd:(pC (iM mv pt)).9=pt.9+mv.9:=by rw[xg,Bf]
 have wsd:∀l∈pC (iM mv pt),l.9=mv.9:=yx (AA D);have n8:=D.n8;constructor
 ·refine VE (k:=b+(2*σ+ω+16)) (yR) (λl hl=>AE l hl) (λl hl z hz=>?_) λi=>?_
  ·unfold Hs at hl;obtain s|hs|rfl:=av.mp hl;obtain y|hy|rfl:=av.mp hz;unfold uE at hy;obtain r|hr|rfl:=av.mp hy;refine ((xO (k:=σ) (j:=b+σ+8) (S.ss r hr) λx hx=>?_).mul S.ob).mono (by rw[wsd r hr];lia);obtain l|hl'|rfl:=av.mp hx;exact (xO (sw l hl') (S.ss s hs)).mono (by rw[ww l hl'];lia)
  ·have:Sz ω ((cp ((iQ qs rs).map nm) (cI ((iQ qs rs).map nm))).getD i 0):=by
    rw[ae];cases e:(cp ((iQ qs rs).map nm) (cI ((iQ qs rs).map nm)))[i]? with
    | none=>exact xh
    | some z=>exact S.os z (ao e)
   exact (this.mul ((S.sb.mul S.sb).mul sb)).mono ()
 ·exact (((S.sb.mul S.sb).mul sb).mul S.ob).mono ()
theorem JS (S:Ek mv pt qs rs σ ω) (D:fI mv pt lk):(cw mv pt qs rs wl wb).9=pt.9+mv.9/\∀l∈cw mv pt qs rs wl wb,l.9=pt.9+mv.9:=by
 have lsd:(pC (iM mv pt)).9=pt.9+mv.9:=by rw[xg,Bf]
 constructor
 ·show (Ef _ _ _).9=_
  rw[wX,yR,lsd]
 ·intro l hl;rw[vp (n:=(pC (iM mv pt)).9) (λl hl=>AE l hl) _ (by rw[yR];exact ar _) l hl,lsd]
theorem pw5 (hk:k<=5):(5*2^w)^k<=2^(k*(w+3)):=by
 rw[d5 k,Nat.pow_mul];refine Nat.pow_le_pow_left ?_ k;rw[pe w,aJ 2 3];exact aE _ ()
theorem QY (B:yp (eB ls) n k (λi=>i) (λj=>j) (eB (dU ls k).1) ((dU ls k).2:Rat)) (k4:k<=4) (ha:∀i,i < n->∀c,Fr 1 (2^w) (eB ls i c)) (ll:(dU ls k).1.length=n):Sz (4*(w+3)+1) (dU ls k).2/\∀l∈(dU ls k).1,∀z∈l,Sz (5*(w+3)+1) z:=by
 have lt:∀{e a:Nat},a<=2^e->a < 2^(e+1):=λ{e a} h=>bO h (fg () ())
 have up:∀{e e':Nat},e<=e'->2^e<=2^e':=λh=>aF () h
 constructor
 ·refine lt (aj (Oq (B.dfr (N:=5) () ha)) (aj (pw5 ()) (up (aE _ k4))))
 ·intro l hl z hz;obtain i|hi|rfl:=bX hl;obtain c|hc|rfl:=bX hz;have:=B.fr (N:=5) () (dG w) ha (i:=i) () (c:=c);unfold eB at this;rw[ae (l:=(dU ls k).1),ai hi,eY,ae,ai hc,eY] at this;exact lt (aj (Oq this) (aj (pw5 ()) (up (aE _ ()))))
end
section
variable {mv pt lk:LR9} {qs rs:List Rat} {wl ls:List (List Int)} {wb:Int} {σ ω b n m:Nat}
theorem xv (h:∀i j,i < n->j < n->a i j=a' i j):ir n a z=ir n a' z:=by
 unfold ir;exact aG λi hi=>by rw[aG λj hj=>by rw[h i j hi hj]]
theorem HK {z g:Int} (hg:0 < g) (d:g∣z):((z / g:Int):Rat)=(z:Rat) / (g:Rat):=by
 obtain y|rfl:=d;have g0:(g:Rat)≠0:=λq=>by have:=oj q;lia
 rw[yv _ (),aO,br,c9 (g:Rat),dX,dD _ g0,fY]
theorem Kr:eB (yQ ls m) i j=eB (dU ls m).1 (m+i) (m+j):=by
 unfold eB;congr 1;rw[ae (l:=yQ ls m),Iz,ay,ae (l:=(dU ls m).1)];cases e:(dU ls m).1[m+i]? with
 | none=>rfl
 | some l =>
  show (l.drop m).getD j 0=l.getD (m+j) 0
  rw[ae,Iz,ae]
theorem Vo {b:Int} (hb:0 < b):eB (wQ b ls) i j=eB ls i j / ((C6 b ls.flatten:Int):Rat):=by
 obtain p|_|h:=yW (zs:=ls.flatten) hb;unfold eB wQ;rw[ae (l:=List.map _ ls),ay,ae (l:=ls)];have zz:((0:Int):Rat)=((0:Int):Rat) / ((C6 b ls.flatten:Int):Rat):=by rw[br];show (0:Rat)=0*_;rw[cx]
 cases e:ls[i]? with
 | none=>exact zz
 | some l =>
  show (((l.map λz=>z / C6 b ls.flatten).getD j 0:Int):Rat)=((l.getD j 0:Int):Rat) / _
  rw[ae,ay,ae];cases e2:l[j]? with
  | none=>exact zz
  | some z=>exact HK p (h z (cS.mpr #[l,ao e,ao e2]))
theorem tR {b:Int} (hb:0 < b):j4 (wQ b ls) (w5 b ls) i j=eB ls i j / (b:Rat):=by
 obtain p|d|_:=yW (zs:=ls.flatten) hb;have g0:((C6 b ls.flatten:Int):Rat)≠0:=λq=>by have:=oj q;lia
 have b0:(b:Rat)≠0:=λq=>by have:=oj q;lia
 unfold j4;rw[Vo hb];unfold w5;rw[HK p d];generalize ((C6 b ls.flatten:Int):Rat)=g at g0;generalize eB ls i j=x;generalize (b:Rat)=y at b0;rw[br,br,br,br,Pa,Rat.inv_inv];rw[show x*g⁻¹*(g*y⁻¹)=x*(g⁻¹*g)*y⁻¹ by grind,iK _ g0,fY]
theorem Qs {b:Int} (hb:0 < b) (h:∀l∈ls,∀z∈l,Sz k z):(∀l∈wQ b ls,∀z∈l,Sz k z)/\(w5 b ls).natAbs<=b.natAbs/\0 < w5 b ls:=by
 obtain p|d|dz:=yW (zs:=ls.flatten) hb
 have le:∀{z:Int},C6 b ls.flatten∣z->(z / C6 b ls.flatten).natAbs<=z.natAbs:=λ{z} h=>by
  obtain y|rfl:=h;rw[yv _ (),fU];exact cU _ ()
 refine #[λl hl z hz=>?_,le d,Sq hb (Int.le_of_lt p) d];unfold wQ at hl;obtain l'|hl'|rfl:=av.mp hl;obtain y|hy|rfl:=av.mp hz;exact (h l' hl' y hy).le (le (dz y (cS.mpr #[l',hl',hy])))
structure Uh (mv pt:LR9) (qs rs:List Rat):Prop where
 r0:∀i,i < pt.9->0 < (iQ qs rs).getD i 0
 q0:∀i,i < pt.9+mv.9->0<=(iQ qs rs).getD i 0
theorem qB (hb:0 < wb):0 < iI mv pt qs rs wb:=by
 have h1:0 < tL (iM mv pt):=xZ;have h2:0 < cI ((iQ qs rs).map nm):=xZ;exact fj (fj (fj h1 h1) hb) h2
section
variable (S:Ek mv pt qs rs σ ω) (D:fI mv pt lk) (W:vt mv.9 wl wb b) (O:Uh mv pt qs rs)
include S D W O
theorem EE:0<=ir (pt.9+mv.9) (eB (cw mv pt qs rs wl wb)) z/\∀k,k < pt.9->z k=1->0 < ir (pt.9+mv.9) (eB (cw mv pt qs rs wl wb)) z:=by
 have B0:(0:Rat) < ((iI mv pt qs rs wb:Int):Rat):=cR.mpr (qB W.pos)
 have e:ir (pt.9+mv.9) (eB (cw mv pt qs rs wl wb)) z=((iI mv pt qs rs wb:Int):Rat)*ir (pt.9+mv.9) (stN mv.9 (jY (iM mv pt)) (j4 wl wb) (λi=>(iQ qs rs).getD i 0)) z:=by
  rw[<- xu];exact xv λi j hi hj=>yy S D W.len W.wide W.pos hi hj
 rw[e];refine #[eK (cD B0) (UW W.ps O.q0),λk hk zk=>eX B0 (SH W.ps O.q0 () (O.r0 k hk) zk)]
theorem xk:∀k,k<=pt.9->(dU (cw mv pt qs rs wl wb) k).1.length=pt.9+mv.9/\(∀l∈(dU (cw mv pt qs rs wl wb) k).1,l.9=pt.9+mv.9)/\0 < (dU (cw mv pt qs rs wl wb) k).2/\yp (eB (cw mv pt qs rs wl wb)) (pt.9+mv.9) k (λi=>i) (λj=>j) (eB (dU (cw mv pt qs rs wl wb) k).1) ((dU (cw mv pt qs rs wl wb) k).2:Rat) :=
 OH (JS S D).1 (JS S D).2 () (dG _) (λi _ c=>KC (ED S D W.len W.wide W.sl W.sb).1 i c) λk hk z zk=>(EE S D W O).2 k hk zk
theorem vt.next:Wo (cw mv pt qs rs wl wb) pt.9 (pt.9+mv.9) (5*(b+(2*σ+ω+20))+1)/\Sz (4*(b+(2*σ+ω+20))+1) (dU (cw mv pt qs rs wl wb) pt.9).2 /\
  vt mv.9 (wQ ((dU (cw mv pt qs rs wl wb) pt.9).2*iI mv pt qs rs wb) (yQ (cw mv pt qs rs wl wb) pt.9)) (w5 ((dU (cw mv pt qs rs wl wb) pt.9).2*iI mv pt qs rs wb) (yQ (cw mv pt qs rs wl wb) pt.9)) (5*(b+(2*σ+ω+20))+1) /\
  0 < (dU (cw mv pt qs rs wl wb) pt.9).2*iI mv pt qs rs wb:=by
 have i4:=D.i4;have sz:=ED S D W.len W.wide W.sl W.sb;have bar:=xk S D W O;have szs:=λk (hk:k<=pt.9)=>QY (w:=b+(2*σ+ω+17)) (bar k hk).2.2.2 () (λi _ c=>KC sz.1 i c) (bar k hk).1
 obtain l1|w1|d1|B1:=bar pt.9 (ar _);obtain z1|z2:=szs pt.9 (ar _);have Bp:=qB (mv:=mv) (pt:=pt) (qs:=qs) (rs:=rs) W.pos;have dB:=fj d1 Bp
 have lz:∀l∈yQ (cw mv pt qs rs wl wb) pt.9,l.9=mv.9/\∀z∈l,Sz (5*(b+(2*σ+ω+20))+1) z:=λl hl=>by
  obtain l'|hl'|rfl:=av.mp (gW hl);exact #[by rw[fh,w1 l' hl'];lia,λz hz=>(z2 l' hl' z (gW hz)).mono ()]
 obtain q1|q2|q3:=Qs dB λl hl=>(lz l hl).2
 refine #[#[λk hk=>(bar k hk).1,λk hk=>(bar k hk).2.1,λk hk=>(bar k hk).2.2.1,λk hk=>(szs k hk).1.mono (),λk hk l hl z hz=>((szs k hk).2 l hl z hz).mono ()],z1.mono (),#[?_,?_,q3,λz=>?_,q1,?_],dB]
 ·unfold wQ;rw[af,fh,af,l1]
  lia
 ·intro l hl;unfold wQ at hl;obtain l'|hl'|rfl:=av.mp hl;rw[af];exact (lz l' hl').1
 ·have Bq:(0:Rat) < ((iI mv pt qs rs wb:Int):Rat):=cR.mpr Bp
  have e:ir mv.9 (j4 (wQ ((dU (cw mv pt qs rs wl wb) pt.9).2*iI mv pt qs rs wb) (yQ (cw mv pt qs rs wl wb) pt.9)) (w5 ((dU (cw mv pt qs rs wl wb) pt.9).2*iI mv pt qs rs wb) (yQ (cw mv pt qs rs wl wb) pt.9))) z=(1 / ((iI mv pt qs rs wb:Int):Rat))*ir mv.9 (λi j=>eB (dU (cw mv pt qs rs wl wb) pt.9).1 (pt.9+i) (pt.9+j) / ((dU (cw mv pt qs rs wl wb) pt.9).2:Rat)) z:=by
   rw[<- xu];refine xv λi j hi hj=>?_
   rw[tR dB,Kr,aO,br,br,br,gU,Pa];grind
  rw[e,Ks B1];refine eK ?_ (EE S D W O).1;rw[br,gU];exact cD (Rat.inv_pos.mpr Bq)
 ·refine Sz.le ((z1.mul sz.2).mono (k:=5*(b+(2*σ+ω+20))+1) ()) q2
end
end
section
variable {mv pt lk:LR9} {qs rs fs st:List Rat} {σ ω b b1 n m T:Nat}
theorem NS:(Iu zs).9=zs.9/\∀l∈Iu zs,l.9=zs.9:=by
 unfold Iu;refine #[by rw[af,bu],λl hl=>?_];obtain i|_|rfl:=av.mp hl;rw[af,bu]
theorem Vm:eB (Iu zs) i j=if i=j then ((zs.getD i 0:Int):Rat) else 0:=by
 unfold eB Iu;rw[ae (l:=List.map _ _),ay];by_cases hi:i < zs.9
 ·rw[bY hi];show ((((List.range zs.9).map λj=>if j=i then zs.getD j 0 else 0).getD j 0:Int):Rat)=_
  rw[ae,ay];by_cases hj:j < zs.9
  ·rw[bY hj];show (((if j=i then zs.getD j 0 else 0:Int)):Rat)=_
   by_cases e:i=j
   ·rw[if_pos e.symm,if_pos e,e]
   ·rw[if_neg λz=>e z.symm,if_neg e];rfl
  ·rw[bE (by rw[bu];lia),if_neg ()];rfl
 ·rw[bE (by rw[bu];lia)];show ((([]:List Int).getD j 0:Int):Rat)=_
  by_cases e:i=j
  ·rw[if_pos e,ae (l:=zs),bE ()];rfl
  ·rw[if_neg e];rfl
theorem MD (lf:fs.9=mv.9) (f0:∀w∈fs,0<=w) (ft:∀z∈cp (fs.map nm) (cI (fs.map nm)),Sz k z) (fb:Sz k (cI (fs.map nm))):vt mv.9 (bT mv pt qs rs fs 0).1.1 (bT mv pt qs rs fs 0).1.2 k/\∀i j,j4 (bT mv pt qs rs fs 0).1.1 (bT mv pt qs rs fs 0).1.2 i j=if i=j then fs.getD i 0 else 0:=by
 have lt:(cp (fs.map nm) (cI (fs.map nm))).9=mv.9:=by unfold cp;rw[af,af,lf]
 have bp:0 < cI (fs.map nm):=xZ;have b0:((cI (fs.map nm):Int):Rat)≠0:=λq=>by have:=oj q;lia
 have ev:∀i j,j4 (bT mv pt qs rs fs 0).1.1 (bT mv pt qs rs fs 0).1.2 i j=if i=j then fs.getD i 0 else 0:=λi j=>by
  show eB (Iu (cp (fs.map nm) (cI (fs.map nm)))) i j / ((cI (fs.map nm):Int):Rat)=_
  rw[Vm];by_cases e:i=j
  ·rw[if_pos e,if_pos e];have h:(((cp (fs.map nm) (cI (fs.map nm))).getD i 0:Int):Rat)=fs.getD i 0*((cI (fs.map nm):Int):Rat):=JO;rw[h,br,dX,dD _ b0,fY]
  ·rw[if_neg e,if_neg e,br,cx]
 have fn:∀i,0<=fs.getD i 0:=λi=>by
  rw[ae];cases e:fs[i]? with
  | none=>exact yq
  | some w=>exact f0 w (ao e)
 refine #[#[NS.1.trans lt,λl hl=>(NS.2 l hl).trans lt,bp,λz=>?_,λl hl z hz=>?_,fb],ev]
 ·unfold ir;refine xj _ λi hi=>?_
  rw[ky hi λj _ ne=>by rw[ev,if_neg (Ne.symm ne),cx],ev,if_pos rfl,show z i*(fs.getD i 0*z i)=fs.getD i 0*(z i*z i) by grind];exact eK (fn i) Ut
 ·have hl:l∈Iu (cp (fs.map nm) (cI (fs.map nm))):=hl;unfold Iu at hl;obtain i|_|rfl:=av.mp hl;obtain j|hj|rfl:=av.mp hz
  split
  ·rename_i e
   exact ft _ (getD_in (gV.mp hj))
  ·exact xh
theorem Tt (S:Ek mv pt qs rs σ ω) (D:fI mv pt lk) (O:Uh mv pt qs rs) (T8:T<=8) (hW:∀t,t<=T->vt mv.9 (bT mv pt qs rs fs t).1.1 (bT mv pt qs rs fs t).1.2 b) (hV:∀t,t < T->vt mv.9 (bT mv pt qs rs fs t).1.1 (bT mv pt qs rs fs t).1.2 b1) (hb:b<=1000*999) (h1:b1<=1000*300) (hs:2*σ+ω<=1000):O6 mv pt qs rs fs T σ ω b (5*(b1+(2*σ+ω+20))+1) where
 st:=S
 t8:=T8
 l1:=()
 l2:=()
 l3:=#[(),()]
 lw t ht:=(hW t ht).len
 ww t ht:=(hW t ht).wide
 sw t ht:=(hW t ht).sl
 wb t ht:=#[(hW t ht).pos,(hW t ht).sb]
 kp t ht:=qB (hV t ht).pos
 ah t ht:=(vt.next S D (hV t ht) O).1
structure Ux (mv pt:LR9) (qs rs fs:List Rat) (l e:Nat):Prop where
 len:(bT mv pt qs rs fs l).2.1.length=pt.9
 wide:∀z∈(bT mv pt qs rs fs l).2.1,z.9=mv.9
 sz:∀z∈(bT mv pt qs rs fs l).2.1,∀y∈z,Sz e y
 pos:0 < -(bT mv pt qs rs fs l).2.2
 sb:Sz e (-(bT mv pt qs rs fs l).2.2)
theorem wR (S:Ek mv pt qs rs σ ω) (D:fI mv pt lk) (O:Uh mv pt qs rs) (W:vt mv.9 (bT mv pt qs rs fs t).1.1 (bT mv pt qs rs fs t).1.2 b):Ux mv pt qs rs fs (t+1) (5*(b+(2*σ+ω+20))+1):=by
 obtain A|_:=vt.next S D W O;have e2:∀x:Int,- -x=x:=λx=>OZ x
 have hu:(bT mv pt qs rs fs (t+1)).2.1=Sv (cw mv pt qs rs (bT mv pt qs rs fs t).1.1 (bT mv pt qs rs fs t).1.2) pt.9:=rfl;have hd:(bT mv pt qs rs fs (t+1)).2.2=-(dU (cw mv pt qs rs (bT mv pt qs rs fs t).1.1 (bT mv pt qs rs fs t).1.2) pt.9).2:=rfl;have l1:=A.len pt.9 (ar _);have w1:=A.wide pt.9 (ar _);refine #[?_,λz hz=>?_,λz hz y hy=>?_,?_,?_]
 ·rw[hu,dh,af,l1]
  lia
 ·rw[hu] at hz;obtain l'|hl'|rfl:=av.mp (cz hz);rw[fh,w1 l' hl']
  lia
 ·rw[hu] at hz;obtain l'|hl'|rfl:=av.mp (cz hz);exact A.sz pt.9 (ar _) l' hl' y (gW hy)
 ·rw[hd,e2];exact A.pos pt.9 (ar _)
 ·rw[hd,e2];exact A.sb pt.9 (ar _)
theorem yM (hs:∀l∈ls,∀z∈l,Sz e z) (d0:d≠0) (hx:∀x∈xs,Fr N (2^p) x) (n8:xs.9<=8):∀u∈C5 ls d xs,Fr (d.natAbs*N) (2^(e+3+p)) u:=λu hu=>by
 unfold C5 at hu;obtain l|hl|rfl:=av.mp hu
 have hf:∀k,k<=xs.9->Fr N (k*(2^e*2^p)) (aP k λj=>((l.getD j 0:Int):Rat)*xs.getD j 0):=λk=>by
  induction k with
  | zero=>intro _;exact Fr.zero
  | succ k ih =>
   intro hk
   have z:(l.getD k 0).natAbs<=2^e:=by
    rw[ae];cases q:l[k]? with
    | none=>exact bW _
    | some y=>exact aL (hs l hl y (ao q))
   have h1:=(Fr.int (M:=1) z).mul (hx _ (getD_in (show k < xs.9 by lia) (e:=0)));rw[yr] at h1;exact ((ih ()).add h1).mono (Nat.le_of_eq (dP ..).symm)
 obtain t|et|bt:=hf xs.9 (ar _);have dq:(d:Rat)≠0:=λq=>d0 (oj q)
 have db:1<=d.natAbs:=()
 have bt:t.natAbs<=2^(e+3+p)*N:=by
  refine aj bt (aE _ ?_);rw[show e+3+p=3+(e+p) by lia,aJ 2 3,aJ 2 e];exact aE _ (show xs.9<=2^3 from n8)
 have bt:t.natAbs<=2^(e+3+p)*(d.natAbs*N):=aj bt (cg _ (cU _ db));generalize (aP xs.9 λj=>((l.getD j 0:Int):Rat)*xs.getD j 0)=s at et;rcases Int.natAbs_eq d with q | q
 ·refine #[t,?_,bt];rw[cJ,show ((d.natAbs:Nat):Rat)=(d:Rat) by rw[<- bL,<- q],<- et,br];rw[show s*(d:Rat)⁻¹*((d:Rat)*(N:Rat))=s*((d:Rat)⁻¹*(d:Rat))*(N:Rat) by grind,iK _ dq,fY]
 ·refine #[-t,?_,by rw[pj];exact bt];rw[cJ,show ((d.natAbs:Nat):Rat)=-(d:Rat) by rw[<- bL,<- iZ];congr 1;lia,iZ,<- et,br];rw[show s*(d:Rat)⁻¹*(-(d:Rat)*(N:Rat))=-(s*((d:Rat)⁻¹*(d:Rat))*(N:Rat)) by grind,iK _ dq,fY]
def oF (e:Nat->Nat) (T:Nat):Nat->Nat
 | 0=>0
 | i+1=>oF e T i+e (T - i)
theorem GD {e:Nat->Nat}:∀{i k:Nat},i<=k->oF e T i<=oF e T k
 | i,0,h=>by rw[show i=0 by lia];exact ar _
 | i,k+1,h=>by
  by_cases q:i=k+1
  ·rw[q];exact ar _
  ·exact aj (GD (show i<=k by lia)) (Mw ..)
theorem Se {M1 M2 V B:Nat} (X:Bd mv pt M1 M2 V 80 160 33) (D:fI mv pt lk) (hd:∀l,1<=l->l<=T->Ux mv pt qs rs fs l (e l)) (T8:T<=8) (hE:oF e T T<=1000*890) (ls:st.9=mv.9) (B0:0 < B) (Bb:B<=2^600) (hs:∀x∈st,Fr B (2^30) x):∀i,i<=T->(oG mv pt qs rs fs st T i).9=mv.9/\∃N,0 < N/\N<=2^(600+oF e T i+240*i)/\(∀x∈oG mv pt qs rs fs st T i,Fr N (2^(30+oF e T i+40*i)) x)/\(i < T->(k6 mv pt qs rs fs (T - i) (oG mv pt qs rs fs st T i)).9=pt.9/\O5 mv pt (oG mv pt qs rs fs st T i) (k6 mv pt qs rs fs (T - i) (oG mv pt qs rs fs st T i))/\∃N',0 < N'/\N'<=2^(600+oF e T (i+1)+240*(i+1))/\(∀x∈oG mv pt qs rs fs st T i++k6 mv pt qs rs fs (T - i) (oG mv pt qs rs fs st T i),Fr N' (2^(30+oF e T (i+1)+40*(i+1))) x)/\∀x∈oG mv pt qs rs fs st T (i+1),Fr (M1*N') (2^(30+oF e T (i+1)+40*(i+1))) x/\M1*N'<=2^(600+oF e T (i+1)+240*(i+1))):=by
 have n8:=D.n8;have dz:∀{a:Int},0 < -a->a≠0:=λh=>()
 have step:∀i,i < T->(oG mv pt qs rs fs st T i).9=mv.9->∀N,0 < N->N<=2^(600+oF e T i+240*i)->(∀x∈oG mv pt qs rs fs st T i,Fr N (2^(30+oF e T i+40*i)) x)->(k6 mv pt qs rs fs (T - i) (oG mv pt qs rs fs st T i)).9=pt.9/\O5 mv pt (oG mv pt qs rs fs st T i) (k6 mv pt qs rs fs (T - i) (oG mv pt qs rs fs st T i))/\∃N',0 < N'/\N'<=2^(600+oF e T (i+1)+240*(i+1))/\(∀x∈oG mv pt qs rs fs st T i++k6 mv pt qs rs fs (T - i) (oG mv pt qs rs fs st T i),Fr N' (2^(30+oF e T (i+1)+40*(i+1))) x)/\(M1*N'<=2^(600+oF e T (i+1)+240*(i+1)))/\∀x∈oG mv pt qs rs fs st T (i+1),Fr (M1*N') (2^(30+oF e T (i+1)+40*(i+1))) x:=λi hi la N N0 Nb hx=>by
  have U:=hd (T - i) () ();have es:oF e T (i+1)=oF e T i+e (T - i):=rfl;have eT:=GD (e:=e) (T:=T) (show i+1<=T by lia);generalize hdd:(bT mv pt qs rs fs (T - i)).2.2=d at U;have Up:=U.pos;have Us:=U.sb;rw[hdd] at Up Us
  have hu:∀u∈k6 mv pt qs rs fs (T - i) (oG mv pt qs rs fs st T i),Fr (d.natAbs*N) (2^(e (T - i)+3+(30+oF e T i+40*i))) u:=by
   unfold k6;rw[hdd];exact yM U.sz (dz Up) hx ()
  have lu:(k6 mv pt qs rs fs (T - i) (oG mv pt qs rs fs st T i)).9=pt.9:=by unfold k6 C5;rw[af,U.len]
  have dn:0 < d.natAbs:=()
  have db:d.natAbs<=2^e (T - i):=by
   have:=aL Us;rwa [pj] at this
  have N'0:0 < M2*(d.natAbs*N):=aY X.m2 (aY dn N0)
  have N'b:M2*(d.natAbs*N)<=2^(160+(e (T - i)+(600+oF e T i+240*i))):=by
   rw[aJ,aJ 2 (e (T - i))];exact aH X.b2 (aH db Nb)
  have hx':∀x∈oG mv pt qs rs fs st T i,Fr (M2*(d.natAbs*N)) (2^(e (T - i)+3+(30+oF e T i+40*i))) x:=λx h=>Fr.up (hx x h) (gR (bZ _ _) (bZ _ _)) (p2 ())
  obtain nx|mo:=X.next D la lu N'0 (bZ _ _) hx' hu N'b () ();refine #[lu,nx,_,N'0,aj N'b (p2 ()),λx h=>?_,?_,λx h=>(mo x h).mono (p2 ())]
  ·rcases aw.mp h with h | h
   ·exact (hx' x h).mono (p2 ())
   ·exact (Fr.up (hu x h) (bZ _ _) (p2 ()))
  ·refine aj (aH X.b1 N'b) ?_;rw[<- aJ];exact p2 ()
 have go:∀i,i<=T->(oG mv pt qs rs fs st T i).9=mv.9/\∃N,0 < N/\N<=2^(600+oF e T i+240*i)/\∀x∈oG mv pt qs rs fs st T i,Fr N (2^(30+oF e T i+40*i)) x:=λi=>by
  induction i with
  | zero=>exact λ_=>#[ls,B,B0,aj Bb (p2 ()),λx h=>(hs x h).mono (p2 ())]
  | succ i ih =>
   intro hi;obtain la|N|N0|Nb|hx:=ih ();obtain _|_|N'|N'0|_|_|q|r:=step i () la N N0 Nb hx;exact #[yN,_,aY X.m1 N'0,q,r]
 intro i hi;obtain la|N|N0|Nb|hx:=go i hi;refine #[la,N,N0,Nb,hx,λh=>?_];obtain a|b|N'|c|d|e|f|g:=step i h la N N0 Nb hx;exact #[a,b,N',c,d,e,λx hx=>#[g x hx,f]]
theorem Ov (h:jZ k j l) (hk:k+j<=1000*1900):∀x∈l,lh x:=λx hx=>h.szn hx ()
theorem Ua {M1 M2 V B:Nat} (X:Bd mv pt M1 M2 V 80 160 33) (D:fI mv pt lk) (hd:∀l,1<=l->l<=T->Ux mv pt qs rs fs l (e l)) (W:vt mv.9 (bT mv pt qs rs fs T).1.1 (bT mv pt qs rs fs T).1.2 b) (hb:b<=1000*900) (T8:T<=8) (hE:oF e T T<=1000*890) (ls:st.9=mv.9) (B0:0 < B) (Bb:B<=2^600) (hs:∀x∈st,Fr B (2^30) x):VQ mv pt qs rs fs st T:=by
 have n8:=D.n8;have A:=Se X D hd T8 hE ls B0 Bb hs;have le:∀i,i<=T->oF e T i<=1000*890:=λi hi=>aj (GD hi) hE
 have fb:∀i,i < T->jZ (1000*895) (1000*895) (oG mv pt qs rs fs st T i++k6 mv pt qs rs fs (T - i) (oG mv pt qs rs fs st T i)):=λi hi=>by
  obtain _|_|_|_|_|h:=A i ();obtain _|_|N'|a|b'|f|_:=h hi;have:=le (i+1) hi;exact #[N',_,a,aj b' (p2 ()),p2 (),f]
 refine #[ls,λi hi=>(A i hi).1,λi hi=>?_,λi hi=>?_,λi hi=>?_,λi hi=>?_,λi hi z hz=>?_,?_]
 ·obtain _|_|_|_|_|h:=A i ();exact (h hi).1
 ·obtain _|N|a|b'|f|_:=A i hi;have:=le i hi;exact jZ.rowM (k:=1000*895) (j:=1000*895) #[N,_,a,aj b' (p2 ()),p2 (),f] ()
 ·obtain M|V|a|b'|c|f:=fb i hi;exact #[M,V,a,aj b' (p2 ()),aj c (p2 ()),f]
 ·obtain _|_|_|_|_|h:=A i ();exact (h hi).2.1
 ·exact Ov (fb i hi) () z (aw.mpr (.inr hz))
 ·have wp:=W.pos;have h:=yM (d:=(bT mv pt qs rs fs T).1.2) W.sl () hs ();refine #[600,30,b+600,b+33,#[B,_,B0,Bb,ar _,hs],#[_,_,aY () B0,?_,ar _,h],()];rw[aJ];exact aH (aL W.sb) Bb
end
def P2 (k:Nat):Rat:=((2^k:Nat):Rat)
theorem qd:P2 (a+b)=P2 a*P2 b:=by unfold P2;rw[aJ,cJ]
theorem OO:0 < P2 a:=nB.mpr (dG a)
theorem KS (h:a<=b):P2 a<=P2 b:=fP.mpr (aF () h)
theorem rQ {a b A B:Rat} (h0:0<=a) (h1:a<=A) (h2:0<=b) (h3:b<=B):a*b<=A*B:=je (jF h1 h2) (tJ h3 (je h0 h1))
theorem Oo {M V:Nat} (h:Fr M V x) (hM:0 < M):-(V:Rat)<=x/\x<=(V:Rat):=by
 obtain z|e|b:=h;have m0:(0:Rat) < (M:Rat):=nB.mpr hM
 have h1:(z:Rat)<=(V:Rat)*(M:Rat):=by
  rw[<- cJ,<- bL];exact iB.mpr ()
 have h2:-((V:Rat)*(M:Rat))<=(z:Rat):=by
  rw[<- cJ,<- bL,<- iZ];exact iB.mpr ()
 rw[<- e] at h1 h2;exact #[So (by rw[OV];exact h2) m0,So h1 m0]
theorem Ue {x y:Rat} (h1:-y<=x) (h2:x<=y):x*x<=y*y:=by
 have a:0<=y - x:=by grind
 have b:0<=y+x:=by grind
 have:=eK a b;grind
theorem RS (h:Fr 2520 1000 x):x*x<=P2 20:=by
 obtain a|b:=Oo h ();refine je (Ue a b) ?_;show ((1000:Nat):Rat)*((1000:Nat):Rat)<=((2^20:Nat):Rat)
 rw[<- cJ];exact fP.mpr ()
theorem Om {M V:Nat} (h:Fr M V x):dA ((M:Rat)*x):=by
 obtain z|e|_:=h;exact #[z,by rw[c9];exact e]
theorem AL:dA ((x.den:Rat)*x):=#[x.num,by rw[c9];exact m9 x |>.symm]
theorem oP {n:Nat}:dA (n:Rat):=#[n,(bL n).symm]
section
variable {n q N m k:Nat} {W sd:Nat->Nat->Rat} {ow f p z:Nat->Rat} {ls:List (List Int)} {s r v:Rat}
theorem xi (h:n<=k) (h0:∀i,n<=i->f i=0):aP k f=aP n f:=by
 induction k with
 | zero=>rw[show n=0 by lia]
 | succ k ih =>
  by_cases e:n=k+1
  ·rw[e]
  ·show aP k f+f k=_
   rw[ih (),h0 k (),dc]
theorem Nr (h:n<=k) (h0:∀i j,n<=i\/n<=j->W i j=0):ir k W z=ir n W z:=by
 unfold ir;rw[xi h λi hi=>by rw[eR λj _=>by rw[h0 i j (.inl hi),cx],iw]];exact aG λi _=>by rw[xi h λj hj=>by rw[h0 i j (.inr hj),cx]]
theorem SI (h:n<=k) (h0:∀i c,n<=c->sd i c=0):stN n sd W ow i j=stN k sd W ow i j:=by
 unfold stN;congr 1;rw[xi h λc hc=>by rw[h0 j c hc,cx]];exact aG λc _=>by rw[xi h λe he=>by rw[h0 i e he,iw]]
theorem OG (s0:0 < s) (h0:∀i j,i < N->j < N->eB ls i j=s*stN q sd W ow i j) (mN:m<=N) (hp:∀k,k<=m->(0:Rat) < ((dU ls k).2:Rat)) (hs:∀k,k < m->((dU ls (k+1)).2:Rat)=eB (dU ls k).1 k k/\∀i c,i < N->i≠k->eB (dU ls (k+1)).1 i c=(eB (dU ls k).1 k k*eB (dU ls k).1 i c - eB (dU ls k).1 i k*eB (dU ls k).1 k c) / ((dU ls k).2:Rat)):∀k,k<=m->∀i j,k<=i->k<=j->i < N->j < N->eB (dU ls k).1 i j=((dU ls k).2:Rat)*s*stN q sd (zy q sd W ow k) ow i j
 | 0,_,i,j,_,_,hi,hj=>by
  show eB ls i j=((1:Int):Rat)*s*stN q sd W ow i j
  rw[h0 i j hi hj];show _=(1:Rat)*s*_
  rw[gU]
 | k+1,hk,i,j,ki,kj,hi,hj=>by
  have ih:=OG s0 h0 mN hp hs k ();obtain e1|e2:=hs k hk;have d0:=hp k ();have d1:=hp (k+1) hk;have kN:k < N:=()
  rw[<- SG (i:=i) (j:=j) () (),e2 i j hi (),e1];rw[e1] at d1;rw[ih k k () () kN kN] at d1 ⊢;rw[ih i j () () hi hj,ih i k () () hi kN,ih k j () () kN hj];generalize ((dU ls k).2:Rat)=d at d0 d1;generalize stN q sd (zy q sd W ow k) ow k k=a at d1;generalize stN q sd (zy q sd W ow k) ow i j=b;generalize stN q sd (zy q sd W ow k) ow i k=c;generalize stN q sd (zy q sd W ow k) ow k j=e;have dn:d≠0:=by grind
  have an:a≠0:=λz=>by rw[z,iw] at d1;exact absurd d1 ()
  have h1:(d*s*a*(d*s*b) - d*s*c*(d*s*e)) / d=s*(d*s*(a*b - c*e)):=by
   rw[br,show d*s*a*(d*s*b) - d*s*c*(d*s*e)=s*(d*s*(a*b - c*e))*d by grind,dX,dD _ dn,fY]
  rw[h1,br];have h2:d*s*a*s*(b - e*a⁻¹*c)=d*s*s*(a*b - e*c*(a*a⁻¹)):=by grind
  rw[h2,dD _ an];grind
theorem Tg (ps:∀z,0<=ir 2 W z) (v0:W 0 0<=v) (v1:W 1 1<=v) (h0:p 0*p 0<=u) (h1:p 1*p 1<=u):ir 2 W p<=4*(u*v):=by
 have e:∀z,ir 2 W z=z 0*(W 0 0*z 0+W 0 1*z 1)+z 1*(W 1 0*z 0+W 1 1*z 1):=λz=>by unfold ir;simp only[mI]
 have a:=ps λi=>if i=0 then p 0 else - p 1
 have b0:=ps (Ey 0);have b1:=ps (Ey 1);rw[EX ()] at b0 b1;rw[e] at a ⊢;rw[if_pos rfl,if_neg (show ¬(1:Nat)=0 by decide)] at a;have c0:p 0*p 0*W 0 0<=u*v:=rQ Ut h0 b0 v0;have c1:p 1*p 1*W 1 1<=u*v:=rQ Ut h1 b1 v1;grind
end
section
variable {mv pt lk:LR9} {qs rs fs:List Rat} {wl ls:List (List Int)} {wb b:Int} {σ ω n m t V B bb:Nat}
theorem Et (lw:wl.9=n) (ww:∀l∈wl,l.9=n) (h:n<=i\/n<=j):j4 wl wb i j=0:=by
 unfold j4
 have:eB wl i j=0:=by
  rcases h with h | h
  ·unfold eB;rw[ae (l:=wl),bE ()];rfl
  ·exact Fy ww h
 rw[this,br,cx]
theorem Jn (hb:0 < b) (ll:ls.9=n) (lw:∀l∈ls,l.9=n) (b0:0 < β) (bB:β<=P2 B) (bi:dA β) (h:∀i j,i < n->j < n->dA (j4 (wQ b ls) (w5 b ls) i j*β)/\-P2 V<=j4 (wQ b ls) (w5 b ls) i j/\j4 (wQ b ls) (w5 b ls) i j<=P2 V):(∀l∈wQ b ls,∀z∈l,Sz (V+B+1) z)/\Sz (V+B+1) (w5 b ls):=by
 obtain βz|rfl:=bi;have b1:0 < βz:=cR.mp b0
 have bN:βz.natAbs<=2^B:=by
  have:(βz:Rat)<=(((2^B:Nat):Int):Rat):=by rw[bL];exact bB
  have:=iB.mp this
  lia
 obtain p|d|_:=yW (zs:=ls.flatten) hb;have q0:(b:Rat)≠0:=λq=>by have:=oj q;lia
 have dv:b∣C6 b ls.flatten*βz:=Hv (Int.dvd_mul_right ..) λz hz=>by
  obtain l|hl|hz:=cS.mp hz;obtain i|hi|rfl:=bX hl;obtain j|hj|rfl:=bX hz;have lj:=lw _ (bo hi);obtain x|_:=h i j () ();refine Ju () (dA.of x ?_);rw[tR hb];unfold eB;rw[ae (l:=ls),ai hi,eY,ae,ai hj,eY,aO,br,br];grind
 have eb:b=C6 b ls.flatten*w5 b ls:=(Int.mul_ediv_cancel' d).symm
 have dl:w5 b ls∣βz:=by
  obtain y|e:=dv;refine #[y,Int.eq_of_mul_eq_mul_left (a:=C6 b ls.flatten) () ?_];rw[e,<- dZ,<- eb]
 have l0:0 < w5 b ls:=Sq hb (Int.le_of_lt p) d;have lB:(w5 b ls).natAbs<=2^B:=aj (ks () (gI.mpr dl)) bN;have lt:∀{e a:Nat},a<=2^e->a < 2^(e+1):=λ{e a} h=>bO h (fg () ())
 refine #[λl hl z hz=>?_,lt (aj lB (aF () ()))];have ll':(wQ b ls).9=n:=by unfold wQ;rw[af,ll]
 have lw':l.9=n:=by
  unfold wQ at hl;obtain l'|hl'|rfl:=av.mp hl;rw[af,lw l' hl']
 obtain i|hi|rfl:=bX hl;obtain j|hj|rfl:=bX hz;obtain _|x1|x2:=h i j () ();have g0:(0:Rat) < ((w5 b ls:Int):Rat):=cR.mpr l0;have gn:((w5 b ls:Int):Rat)≠0:=by grind
 have ez:(((wQ b ls)[i][j]:Int):Rat)=j4 (wQ b ls) (w5 b ls) i j*((w5 b ls:Int):Rat):=by
  unfold j4 eB;rw[ae (l:=wQ b ls),ai hi,eY,ae,ai hj,eY,iL gn]
 generalize (wQ b ls)[i][j]=z at ez
 have gB:((w5 b ls:Int):Rat)<=P2 B:=by
  unfold P2;rw[<- bL];exact iB.mpr ()
 have u1:(z:Rat)<=P2 (V+B):=by
  rw[ez,qd];exact je (jF x2 (cD g0)) (tJ gB (cD OO))
 have u2:-(z:Rat)<=P2 (V+B):=by
  rw[ez,qd,<- OV];exact je (jF (show -j4 (wQ b ls) (w5 b ls) i j<=P2 V by grind) (cD g0)) (tJ gB (cD OO))
 unfold P2 at u1 u2;rw[<- bL] at u1 u2;rw[<- iZ] at u2;have u1:=iB.mp u1;have u2:=iB.mp u2;exact lt ()
def vB (t:Nat):Nat:=23*t+10
def bB:Nat->Nat
 | 0=>20
 | t+1=>bB t+4*vB t+310
structure W2 (W:Nat->Nat->Rat) (t:Nat):Prop where
 sy:W 1 0=W 0 1
 d0:W 0 0<=P2 (vB t)
 d1:W 1 1<=P2 (vB t)
 co:∃β,0 < β/\β<=P2 (bB t)/\Sm W β
theorem V4 {W:Nat->Nat->Rat} (h:W 1 0=W 0 1):∀i j,i < 2->j < 2->W i j=W j i
 | 0,0,_,_=>rfl
 | 0,1,_,_=>h.symm
 | 1,0,_,_=>h
 | 1,1,_,_=>rfl
 | i+2,_,h,_=>absurd h ()
 | _,j+2,_,h=>absurd h ()
theorem Vg:stN 2 sd W ow i i=ir 2 W (sd i)+ow i:=by
 unfold stN ir;rw[if_pos rfl]
theorem RB (h1:r<=P2 10) (h2:x<=4*(P2 20*P2 v)):r+x<=P2 (v+23):=by
 have e:4*(P2 20*P2 v)=P2 (v+22):=by
  rw[show v+22=2+(20+v) by lia,qd,qd];rfl
 have e2:P2 (v+23)=P2 (v+22)+P2 (v+22):=by
  rw[show v+23=1+(v+22) by lia,qd,show P2 1=2 from rfl];grind
 have e3:P2 10<=P2 (v+22):=KS ();grind
theorem W2.next (h:W2 W t) (ps:∀z,0<=ir 2 W z) (hs:∀i c,Fr 2520 1000 (sd i c)) (m4:m<=4) (o0:∀k,k < m->0 < ow k) (oD:∀k,ow k<=P2 10/\(ow k).den<=1000):W2 (λi j=>stN 2 sd (zy 2 sd W ow m) ow (m+i) (m+j)) (t+1):=by
 obtain β|β0|βb|C:=h.co;have rk:=λk hk=>IW (sd:=sd) (ow:=ow) (V4 h.sy) ps k hk
 have pvb:∀k,ir 2 W (sd k)<=4*(P2 20*P2 (vB t)):=λk=>Tg ps h.d0 h.d1 (RS (hs k 0)) (RS (hs k 1))
 have go:∀k,k<=m->∃β,0 < β/\β<=P2 (bB t+(vB t+56)*k)/\Sm (zy 2 sd W ow k) β/\zy 2 sd W ow k 1 0=zy 2 sd W ow k 0 1:=λk=>by
  induction k with
  | zero=>exact λ_=>#[β,β0,by rw[K1];exact βb,C,h.sy]
  | succ k ih =>
   intro hk;obtain γ|γ0|γb|G|sy:=ih ();obtain _|ps'|le':=rk k λi hi=>o0 i ()
   have r0:=o0 k hk;have pv0:=(Nh (z:=sd k) (p:=sd k) (V4 sy) r0 ps').1;have pvle:qE 2 (zy 2 sd W ow k) (sd k) (ow k)<=P2 (vB t+23):=RB (oD k).1 (je (le' (sd k)) (pvb k));have dI:∀c,dA (((2520:Nat):Rat)*sd k c):=λc=>Om (hs k c)
   have k0:(0:Rat) < (((ow k).den*(2520*2520):Nat):Rat):=nB.mpr (aY (ow k).den_pos ());have kb:(((ow k).den*(2520*2520):Nat):Rat)<=P2 33:=fP.mpr (aj (aE _ (oD k).2) ());have ke:(((ow k).den*(2520*2520):Nat):Rat)=((ow k).den:Rat)*(((2520:Nat):Rat)*((2520:Nat):Rat)):=by rw[cJ,cJ]
   have kk:∀a c,dA ((((ow k).den*(2520*2520):Nat):Rat)*(sd k a*sd k c)):=λa c=>by
    rw[ke];exact dA.of (oP.mul ((dI a).mul (dI c))) (show _=((ow k).den:Rat)*(((2520:Nat):Rat)*sd k a*(((2520:Nat):Rat)*sd k c)) by grind)
   have kr:dA ((((ow k).den*(2520*2520):Nat):Rat)*ow k):=by
    rw[ke];exact dA.of ((oP.mul oP).mul AL) (show _=((2520:Nat):Rat)*((2520:Nat):Rat)*(((ow k).den:Rat)*ow k) by grind)
   obtain G2|sy':=G.rd (p:=sd k) (r:=ow k) sy (by grind) kr (kk 0 0) (kk 0 1) (kk 1 1);refine #[_,eX (eX k0 γ0) pv0,?_,G2,sy'];rw[show bB t+(vB t+56)*(k+1)=33+(bB t+(vB t+56)*k)+(vB t+23) by rw[Nat.mul_succ];lia,qd,qd];exact rQ (cD (eX k0 γ0)) (rQ (cD k0) kb (cD γ0) γb) (cD pv0) pvle
 obtain γ|γ0|γb|G|sy:=go m (ar _);obtain _|ps'|le':=rk m o0
 have est:(λi j=>stN 2 sd (zy 2 sd W ow m) ow (m+i) (m+j))=stN 2 (λi=>sd (m+i)) (zy 2 sd W ow m) λi=>ow (m+i):=funext λi=>funext λj=>by
  unfold stN;congr 1;by_cases e:i=j
  ·rw[if_pos e,if_pos ()]
  ·rw[if_neg e,if_neg ()]
 have dg:∀i,stN 2 (λi=>sd (m+i)) (zy 2 sd W ow m) (λi=>ow (m+i)) i i<=P2 (vB (t+1)):=λi=>by
  rw[Vg,AS,show vB (t+1)=vB t+23 by unfold vB;lia];exact RB (oD _).1 (je (le' _) (pvb _))
 have dI:∀i c,dA (((2520:Nat):Rat)*sd (m+i) c):=λi c=>Om (hs _ c)
 have oI:∀i j,dA ((((ow (m+i)).den*(ow (m+j)).den:Nat):Rat)*ow (m+i)):=λi j=>by
  rw[cJ];exact dA.of (oP.mul AL) (show _=((ow (m+j)).den:Rat)*(((ow (m+i)).den:Rat)*ow (m+i)) by grind)
 have oI1:dA ((((ow (m+0)).den*(ow (m+1)).den:Nat):Rat)*ow (m+1)):=by rw[d5];exact oI 1 0
 obtain G2|sy':=G.st (sd:=λi=>sd (m+i)) (ow:=λi=>ow (m+i)) (m:=((2520:Nat):Rat)) (o:=(((ow (m+0)).den*(ow (m+1)).den:Nat):Rat)) sy oP oP (dI 0 0) (dI 0 1) (dI 1 0) (dI 1 1) (oI 0 1) oI1;rw[est];have ob0:(0:Rat) < (((ow (m+0)).den*(ow (m+1)).den:Nat):Rat):=nB.mpr (aY (OW _) (OW _));have ob1:(((ow (m+0)).den*(ow (m+1)).den:Nat):Rat)<=P2 20:=fP.mpr (aj (aH (oD _).2 (oD _).2) ());have m0:(0:Rat) < ((2520:Nat):Rat):=nB.mpr ()
 have m1:((2520:Nat):Rat)*((2520:Nat):Rat)*(((2520:Nat):Rat)*((2520:Nat):Rat))<=P2 46:=by
  rw[<- cJ,<- cJ];exact fP.mpr ()
 have m2:=eX (eX m0 m0) (eX m0 m0);refine #[sy',dg 0,dg 1,_,eX (eX (eX ob0 ob0) m2) γ0,?_,G2];have γb:γ<=P2 (bB t+(vB t+56)*4):=je γb (KS (Nat.add_le_add_left (cg _ m4) _));rw[show bB (t+1)=(20+20)+46+(bB t+(vB t+56)*4) by show bB t+4*vB t+310=_;lia,qd,qd,qd];exact rQ (cD (eX (eX ob0 ob0) m2)) (rQ (cD (eX ob0 ob0)) (rQ (cD ob0) ob1 (cD ob0) ob1) (cD m2) m1) (cD γ0) γb
end
section
variable {mv pt lk:LR9} {qs rs fs st xs:List Rat} {σ ω b b1 n m T t w k j:Nat}
theorem xf {M V:Nat} {ys:List Rat} (h0:0 < M) (h1:M<=2^k) (h2:V<=2^j) (hx:∀x∈ys,Fr M V x) (hs:∀x∈xs,x∈ys):(∀z∈cp (xs.map nm) (cI (ys.map nm)),Sz (j+k+1) z)/\Sz (k+1) (cI (ys.map nm)):=by
 have tp:∀x∈ys,Tp M (2^(j+k)) x:=λx h=>Tp.of (hx x h) (by rw[aJ];exact aH h2 h1)
 have dv:=QU h0 tp;have bp:0 < cI (ys.map nm):=xZ;have lt:∀{e a:Nat},a<=2^e->a < 2^(e+1):=λ{e a} h=>bO h (fg () ())
 constructor
 ·intro z hz;unfold cp at hz;obtain y|hy|rfl:=av.mp hz;obtain x|hx'|rfl:=av.mp hy;have dx:(nm x).2∣cI (ys.map nm):=qT (av.mpr #[x,hs x hx',rfl]);obtain s|e|b:=IF (tp x (hs x hx')) h0 bp dx dv;have e2:(((nm x).1*(cI (ys.map nm) / (nm x).2):Int):Rat)=(s:Rat):=by rw[mH dx,e]
  rw[eP.mp e2];exact lt b
 ·have:=Int.le_of_dvd () dv;exact lt (aj () h1)
theorem Oz (h:Dr 1000 x):x<=P2 10/\x.den<=1000:=by
 refine #[je (Oo (Fr.own x h.1) x.den_pos).2 ?_,h.2];exact fP.mpr ()
theorem QG:Dr 1000 0:=#[(),()]
theorem Kx {l:List Rat} (h:∀x∈l,Dr 1000 x):Dr 1000 (l.getD i 0):=by
 rw[ae];cases e:l[i]? with
 | none=>exact QG
 | some x=>exact h x (ao e)
theorem Kk (W:p9 mv pt qs rs fs):∀x∈iQ qs rs,Dr 1000 x:=λx hx=>(aw.mp hx).elim (λh=>(W.r0 x h).2) λh=>(W.q0 x h).2
theorem IZ (W:p9 mv pt qs rs fs):Uh mv pt qs rs where
 r0 i hi:=by
  unfold iQ;have:=W.lr;rw[ae,gG (),ai ()];exact (W.r0 _ (bo _)).1
 q0 i hi:=by
  rw[ae];cases e:(iQ qs rs)[i]? with
  | none=>exact yq
  | some x=>exact (aw.mp (ao e)).elim (λh=>cD (W.r0 x h).1) λh=>(W.q0 x h).1
theorem UG {l:List Rat} (h:∀x∈l,Dr 1000 x):∀x∈l,Dr (2^10) x:=λx hx=>#[aj (h x hx).1 (),aj (h x hx).2 ()]
theorem U0 {M1 M2 V:Nat} (g1:GF M1 V mv) (g2:GF M2 V pt):∀xs∈iM mv pt,∀x∈xs,Fr (M1*M2) V x:=λxs hx x h=>by
 rcases aw.mp hx with hx | hx
 ·exact (g2 xs hx x h).dvd (bZ _ _)
 ·exact (JN g1 xs hx x h).dvd (K3 _ _)
theorem MQ {M1 M2 V:Nat} (X:Bd mv pt M1 M2 V 80 160 33) (D:fI mv pt lk) (W:p9 mv pt qs rs fs):Ek mv pt qs rs 275 150:=by
 have n8:=D.n8;have i4:=D.i4;have M0:=aY X.m1 X.m2;have Mb:M1*M2<=2^240:=by rw[show 240=80+160 from rfl,aJ];exact aH X.b1 X.b2
 have f:=U0 X.gm X.gp;have ff:∀x∈(iM mv pt).flatten,Fr (M1*M2) V x:=λx h=>by obtain xs|hx|h:=cS.mp h;exact f xs hx x h
 obtain B|B0|Bb|fB:=nE (c:=10) (UG (Kk W)) ();have lo:(iQ qs rs).9<=12:=by unfold iQ;rw[aB,W.lr,W.lq];lia
 have Bb:B<=2^122:=aj Bb (p2 ());obtain o1|o2:=xf B0 Bb (ar _) fB (xs:=iQ qs rs) λx h=>h
 refine #[W.lq,W.lr,jZ.rowM (k:=240) (j:=33) #[_,_,M0,Mb,X.v1,ff] (),jZ.rowM (k:=122) (j:=22) #[_,_,B0,Bb,ar _,fB] (),λl hl z hz=>?_,(xf (xs:=[]) M0 Mb X.v1 ff (λ_ h=>nomatch h)).2.mono (),λz hz=>(o1 z hz).mono (),o2.mono ()];unfold pC at hl;obtain xs|hx|rfl:=av.mp hl;exact ((xf M0 Mb X.v1 ff (xs:=xs) λx h=>cS.mpr #[xs,hx,h]).1 z hz).mono ()
theorem AW (D:fI mv pt lk) (W:p9 mv pt qs rs fs):(∃M,tj M (fs.map nm))/\vt mv.9 (bT mv pt qs rs fs 0).1.1 (bT mv pt qs rs fs 0).1.2 105/\∀i j,j4 (bT mv pt qs rs fs 0).1.1 (bT mv pt qs rs fs 0).1.2 i j=if i=j then fs.getD i 0 else 0:=by
 have n8:=D.n8;have lf:=W.lf;obtain B|B0|Bb|fB:=nE (c:=10) (UG λx hx=>(W.f0 x hx).2) ();have Bb:B<=2^82:=aj Bb (p2 ());obtain o1|o2:=xf B0 Bb (ar _) fB (xs:=fs) λx h=>h
 exact #[jZ.rowM (k:=82) (j:=22) #[_,_,B0,Bb,ar _,fB] (),MD W.lf (λw h=>(W.f0 w h).1) (λz hz=>(o1 z hz).mono ()) (o2.mono ())]
def cB:Nat->Nat
 | 0=>105
 | t+1=>5*(cB t+(2*275+150+20))+1
theorem KQ:∀{s t:Nat},s<=t->cB s<=cB t
 | s,0,h=>by rw[show s=0 by lia];exact ar _
 | s,t+1,h=>by
  by_cases e:s=t+1
  ·rw[e];exact ar _
  ·exact aj (KQ (show s<=t by lia)) (by show cB t<=5*(cB t+_)+1;lia)
theorem sU (S:Ek mv pt qs rs 275 150) (D:fI mv pt lk) (W:p9 mv pt qs rs fs):∀t,vt mv.9 (bT mv pt qs rs fs t).1.1 (bT mv pt qs rs fs t).1.2 (cB t)
 | 0=>(AW D W).2.1
 | t+1=>(vt.next S D (sU S D W t) (IZ W)).2.2.1
theorem Oy {x y:Int} (h1:(0:Rat) < (x:Rat)) (h2:(0:Rat) < (y:Rat)):(x:Rat)*(y:Rat)*q / ((x*y:Int):Rat)=q:=by
 rw[aO];generalize (x:Rat)=d at h1;generalize (y:Rat)=s at h2;have q0:d*s≠0:=by have:=eX h1 h2;grind
 rw[c9 (d*s),br,dX,dD _ q0,fY]
section
variable (S:Ek mv pt qs rs 275 150) (D:fI mv pt lk) (W:p9 mv pt qs rs fs)
include S D W
theorem QP:vt mv.9 (bT mv pt qs rs fs 0).1.1 (bT mv pt qs rs fs 0).1.2 5700/\W2 (j4 (bT mv pt qs rs fs 0).1.1 (bT mv pt qs rs fs 0).1.2) 0:=by
 obtain _|h|e:=AW D W;have df:=λi=>Kx (i:=i) λx hx=>(W.f0 x hx).2
 refine #[h.mono (),#[by rw[e,e];rfl,by rw[e];exact (Oz (df 0)).1,by rw[e];exact (Oz (df 1)).1,(((fs.getD 0 0).den*(fs.getD 1 0).den:Nat):Rat),nB.mpr (aY (OW _) (OW _)),fP.mpr (aj (aH (df 0).2 (df 1).2) ()),?_]];have i0:dA (((fs.getD 0 0).den:Rat)*fs.getD 0 0):=AL;have i1:dA (((fs.getD 1 0).den:Rat)*fs.getD 1 0):=AL;have c0:dA ((fs.getD 0 0).den:Rat):=oP;have c1:dA ((fs.getD 1 0).den:Rat):=oP;have e00:j4 (bT mv pt qs rs fs 0).1.1 (bT mv pt qs rs fs 0).1.2 0 0=fs.getD 0 0:=e 0 0;have e11:j4 (bT mv pt qs rs fs 0).1.1 (bT mv pt qs rs fs 0).1.2 1 1=fs.getD 1 0:=e 1 1;have e01:j4 (bT mv pt qs rs fs 0).1.1 (bT mv pt qs rs fs 0).1.2 0 1=0:=e 0 1;have e10:j4 (bT mv pt qs rs fs 0).1.1 (bT mv pt qs rs fs 0).1.2 1 0=0:=e 1 0;rw[cJ];generalize ((fs.getD 0 0).den:Rat)=d0 at *
 generalize ((fs.getD 1 0).den:Rat)=d1 at *
 refine #[c0.mul c1,?_,?_,?_,?_]
 ·rw[e00];exact dA.of (i0.mul c1) (by grind)
 ·rw[e01];exact #[0,by rw[cx];rfl]
 ·rw[e11];exact dA.of (c0.mul i1) (by grind)
 ·unfold Iv;rw[e00,e11,e01,e10];exact dA.of (i0.mul i1) (by grind)
variable (n2:mv.9<=2) (gm:GF 2520 1000 mv) (gp:GF 2520 1000 pt)
include n2 gm gp
theorem QQ (ht:t+1<=8) (Wt:vt mv.9 (bT mv pt qs rs fs t).1.1 (bT mv pt qs rs fs t).1.2 5700) (C:W2 (j4 (bT mv pt qs rs fs t).1.1 (bT mv pt qs rs fs t).1.2) t):vt mv.9 (bT mv pt qs rs fs (t+1)).1.1 (bT mv pt qs rs fs (t+1)).1.2 5700/\W2 (j4 (bT mv pt qs rs fs (t+1)).1.1 (bT mv pt qs rs fs (t+1)).1.2) (t+1):=by
 have O:=IZ W;have i4:=D.i4;obtain _|_|Wn|dB:=vt.next S D Wt O;have Wn:vt mv.9 (bT mv pt qs rs fs (t+1)).1.1 (bT mv pt qs rs fs (t+1)).1.2 (5*(5700+(2*275+150+20))+1):=Wn;have bar:=xk S D Wt O;have s0:(0:Rat) < ((iI mv pt qs rs (bT mv pt qs rs fs t).1.2:Int):Rat):=cR.mpr (qB Wt.pos);have far:∀i j,mv.9<=i\/mv.9<=j->j4 (bT mv pt qs rs fs t).1.1 (bT mv pt qs rs fs t).1.2 i j=0:=λi j h=>Et Wt.len Wt.wide h
 have ps:∀z,0<=ir 2 (j4 (bT mv pt qs rs fs t).1.1 (bT mv pt qs rs fs t).1.2) z:=λz=>by rw[Nr n2 far];exact Wt.ps z
 have sdw:∀i c,mv.9<=c->jY (iM mv pt) i c=0:=λi c hc=>Cd (AA D) hc
 have sdl:∀i c,pt.9+mv.9<=i->jY (iM mv pt) i c=0:=λi c hi=>by
  unfold jY;rw[ae (l:=iM mv pt),bE (by rw[Bf];lia)];rfl
 have sdf:∀i c,Fr 2520 1000 (jY (iM mv pt) i c):=λi c=>by
  unfold jY;rw[ae (l:=iM mv pt)];cases e:(iM mv pt)[i]? with
  | none=>exact Fr.zero
  | some xs =>
   show Fr 2520 1000 (xs.getD c 0)
   rw[ae];cases e2:xs[c]? with
   | none=>exact Fr.zero
   | some x =>
    rcases aw.mp (ao e) with h | h
    ·exact gp xs h x (ao e2)
    ·exact JN gm xs h x (ao e2)
 have oD:∀k,(iQ qs rs).getD k 0<=P2 10/\((iQ qs rs).getD k 0).den<=1000:=λk=>Oz (Kx (Kk W))
 have ol:∀i,pt.9+mv.9<=i->(iQ qs rs).getD i 0=0:=λi hi=>by
  rw[ae,bE (by unfold iQ;rw[aB,W.lr,W.lq];lia)];rfl
 have C2:=W2.next (sd:=jY (iM mv pt)) (ow:=λk=>(iQ qs rs).getD k 0) C ps sdf i4 O.r0 oD
 have rd:=OG (q:=2) (sd:=jY (iM mv pt)) (W:=j4 (bT mv pt qs rs fs t).1.1 (bT mv pt qs rs fs t).1.2) (ow:=λk=>(iQ qs rs).getD k 0) (m:=pt.9) (N:=pt.9+mv.9) (ls:=cw mv pt qs rs (bT mv pt qs rs fs t).1.1 (bT mv pt qs rs fs t).1.2) s0 (λi j hi hj=>by rw[yy S D Wt.len Wt.wide Wt.pos hi hj,SI n2 sdw]) () (λk hk=>cR.mpr (bar k hk).2.2.1) (λk hk=>by
  obtain l1|w1|d1|B1:=bar k ();exact (FH l1 w1 d1 B1 () (dG _) (λi _ c=>KC (ED S D Wt.len Wt.wide Wt.sl Wt.sb).1 i c) λz zk=>(EE S D Wt O).2 k hk zk).2) pt.9 (ar _)
 have dm:(0:Rat) < (((dU (cw mv pt qs rs (bT mv pt qs rs fs t).1.1 (bT mv pt qs rs fs t).1.2) pt.9).2:Int):Rat):=cR.mpr (bar _ (ar _)).2.2.1
 have ev:j4 (bT mv pt qs rs fs (t+1)).1.1 (bT mv pt qs rs fs (t+1)).1.2=λi j=>stN 2 (jY (iM mv pt)) (zy 2 (jY (iM mv pt)) (j4 (bT mv pt qs rs fs t).1.1 (bT mv pt qs rs fs t).1.2) (λk=>(iQ qs rs).getD k 0) pt.9) (λk=>(iQ qs rs).getD k 0) (pt.9+i) (pt.9+j):=funext λi=>funext λj=>by
  by_cases h:i < mv.9/\j < mv.9
  ·show j4 (wQ _ _) (w5 _ _) i j=_
   rw[tR dB,Kr,rd _ _ () () () ()];exact Oy dm s0
  ·rw[Et (n:=mv.9) (i:=i) (j:=j) Wn.len Wn.wide ()];unfold stN;have z:∀i,mv.9<=i->∀c,jY (iM mv pt) (pt.9+i) c=0:=λi hi c=>sdl _ c ()
   have e1:(aP 2 λc=>jY (iM mv pt) (pt.9+j) c*aP 2 λe=>zy 2 (jY (iM mv pt)) (j4 (bT mv pt qs rs fs t).1.1 (bT mv pt qs rs fs t).1.2) (λk=>(iQ qs rs).getD k 0) pt.9 c e*jY (iM mv pt) (pt.9+i) e)=0:=eR λc _=>by
    by_cases hj:mv.9<=j
    ·rw[z j hj,cx]
    ·rw[eR λe _=>by rw[z i (),iw],iw]
   rw[e1,AR];by_cases e:pt.9+i=pt.9+j
   ·rw[if_pos e];exact (ol _ ()).symm
   ·rw[if_neg e]
 rw[<- ev] at C2;refine #[?_,C2];obtain β|β0|βb|Co:=C2.co;have ps2:∀z,0<=ir 2 (j4 (bT mv pt qs rs fs (t+1)).1.1 (bT mv pt qs rs fs (t+1)).1.2) z:=λz=>by rw[Nr n2 λi j h=>Et Wn.len Wn.wide h];exact Wn.ps z
 have dg:∀i,i < 2->j4 (bT mv pt qs rs fs (t+1)).1.1 (bT mv pt qs rs fs (t+1)).1.2 i i<=P2 (vB (t+1)):=λi hi=>by
  match i,hi with
  | 0,_=>exact C2.d0
  | 1,_=>exact C2.d1
 have hb:∀s,s<=8->bB s<=bB 8/\vB s<=vB 8:=()
 obtain h8|h9:=hb (t+1) ht;have k8:bB 8=5396:=()
 have k9:vB 8=194:=()
 obtain q1|q2:=Jn (ls:=yQ (cw mv pt qs rs (bT mv pt qs rs fs t).1.1 (bT mv pt qs rs fs t).1.2) pt.9) (V:=vB (t+1)) (B:=bB (t+1)) (n:=mv.9) dB (by rw[fh,af,(bar _ (ar _)).1];lia) (λl hl=>by
  obtain l'|hl'|rfl:=av.mp (gW hl);rw[fh,(bar _ (ar _)).2.1 l' hl']
  lia) β0 βb Co.b λi j hi hj=>by
  have hi2:i < 2:=()
  have hj2:j < 2:=()
  refine #[?_,Qk (V4 C2.sy) ps2 hi2 hj2 (dg i hi2) (dg j hj2)]
  match i,j,hi2,hj2 with
  | 0,0,_,_=>exact Co.w0
  | 0,1,_,_=>exact Co.w1
  | 1,0,_,_ =>
   have h:=Co.w1;rw[<- C2.sy] at h;exact h
  | 1,1,_,_=>exact Co.w2
 exact #[Wn.len,Wn.wide,Wn.pos,Wn.ps,λl hl z hz=>(q1 l hl z hz).mono (),q2.mono ()]
theorem Jz:∀t,t<=8->vt mv.9 (bT mv pt qs rs fs t).1.1 (bT mv pt qs rs fs t).1.2 5700/\W2 (j4 (bT mv pt qs rs fs t).1.1 (bT mv pt qs rs fs t).1.2) t
 | 0,_=>QP S D W
 | t+1,ht=>by
  obtain a|b:=Jz t ();exact QQ S D W n2 gm gp ht a b
end
theorem Bd.upK {M1 M2 V a1 a2 c a1' a2' c':Nat} (X:Bd mv pt M1 M2 V a1 a2 c) (h1:a1<=a1') (h2:a2<=a2') (h3:c<=c'):Bd mv pt M1 M2 V a1' a2' c':=#[X.m1,X.m2,aj X.b1 (p2 h1),aj X.b2 (p2 h2),X.gm,X.gp,aj X.vc (p2 h3)]
theorem Sd (R:Rg mv pt w):w<=1000/\∃M1 M2 V,Bd mv pt M1 M2 V 80 160 33:=by
 rcases R with ⟨w9,X⟩ | ⟨w9,_,X⟩ | ⟨w9,_,M1,M2,X⟩
 ·exact #[(),_,_,_,X.upK () () ()]
 ·exact #[(),_,_,_,X.upK () () ()]
 ·exact #[(),_,_,_,X]
end
section
variable {n m N:Nat} {f g u x:Nat->Rat}
theorem SE:aP (m+n) (λi=>g i*if i < m then 0 else x (i - m))=aP n λi=>g (m+i)*x i:=by
 rw[nJ,eR (k:=m) λi hi=>by rw[if_pos hi,iw],AR];refine aG λi _=>?_
 rw[if_neg (),show m+i - m=i by lia]
theorem MM:aP (m+n) (λi=>(if i < m then u i else x (i - m))*g i)=(aP m λi=>u i*g i)+aP n λi=>x i*g (m+i):=by
 rw[nJ];congr 1
 ·exact aG λi hi=>by rw[if_pos hi]
 ·exact aG λi hi=>by rw[if_neg (),show m+i - m=i by lia]
theorem SD (h:∀i,m<=i->f i=0):aP (m+n) (λi=>f i*g i)=aP m λi=>f i*g i:=by
 rw[nJ,eR (k:=n) λi _=>by rw[h _ (),cx],dc]
end
section
variable {mv pt lk:LR9} {qs rs fs:List Rat} {wl:List (List Int)} {wb:Int} {σ ω b t:Nat}
theorem TU {x y:Int} (h:(y:Rat)≠0):q / (x:Rat)=(y:Rat)*(q / ((x*y:Int):Rat)):=by
 rw[aO,br,br,Pa];generalize (x:Rat)=d;generalize (y:Rat)=s at h;rw[show s*(q*(s⁻¹*d⁻¹))=q*d⁻¹*(s*s⁻¹) by grind,dD _ h,fY]
def Mt (mv pt:LR9) (qs rs:List Rat) (wl:List (List Int)) (wb:Int) (x:Nat->Rat) (k:Nat):Rat:=-(aP mv.9 λc=>eB (dU (cw mv pt qs rs wl wb) pt.9).1 k (pt.9+c) / ((dU (cw mv pt qs rs wl wb) pt.9).2:Rat)*x c)
section
variable (S:Ek mv pt qs rs σ ω) (D:fI mv pt lk) (W:vt mv.9 wl wb b) (O:Uh mv pt qs rs) (sy:∀i j,i < mv.9->j < mv.9->j4 wl wb i j=j4 wl wb j i)
include S D W O sy
theorem Hq (hi:i < mv.9) (hj:j < mv.9):j4 (wQ ((dU (cw mv pt qs rs wl wb) pt.9).2*iI mv pt qs rs wb) (yQ (cw mv pt qs rs wl wb) pt.9)) (w5 ((dU (cw mv pt qs rs wl wb) pt.9).2*iI mv pt qs rs wb) (yQ (cw mv pt qs rs wl wb) pt.9)) i j=stN mv.9 (jY (iM mv pt)) (zy mv.9 (jY (iM mv pt)) (j4 wl wb) (λk=>(iQ qs rs).getD k 0) pt.9) (λk=>(iQ qs rs).getD k 0) (pt.9+i) (pt.9+j):=by
 have bar:=xk S D W O;obtain _|_|_|dB:=vt.next S D W O;have s0:(0:Rat) < ((iI mv pt qs rs wb:Int):Rat):=cR.mpr (qB W.pos)
 have rd:=OG (q:=mv.9) (sd:=jY (iM mv pt)) (W:=j4 wl wb) (ow:=λk=>(iQ qs rs).getD k 0) (m:=pt.9) (N:=pt.9+mv.9) (ls:=cw mv pt qs rs wl wb) s0 (λi j hi hj=>yy S D W.len W.wide W.pos hi hj) () (λk hk=>cR.mpr (bar k hk).2.2.1) (λk hk=>by
  obtain l1|w1|d1|B1:=bar k ();exact (FH l1 w1 d1 B1 () (dG _) (λi _ c=>KC (ED S D W.len W.wide W.sl W.sb).1 i c) λz zk=>(EE S D W O).2 k hk zk).2) pt.9 (ar _)
 have dm:(0:Rat) < (((dU (cw mv pt qs rs wl wb) pt.9).2:Int):Rat):=cR.mpr (bar _ (ar _)).2.2.1;rw[tR dB,Kr,rd _ _ () () () ()];exact Oy dm s0
theorem NJ (hi:i < mv.9) (hj:j < mv.9):j4 (wQ ((dU (cw mv pt qs rs wl wb) pt.9).2*iI mv pt qs rs wb) (yQ (cw mv pt qs rs wl wb) pt.9)) (w5 ((dU (cw mv pt qs rs wl wb) pt.9).2*iI mv pt qs rs wb) (yQ (cw mv pt qs rs wl wb) pt.9)) i j=j4 (wQ ((dU (cw mv pt qs rs wl wb) pt.9).2*iI mv pt qs rs wb) (yQ (cw mv pt qs rs wl wb) pt.9)) (w5 ((dU (cw mv pt qs rs wl wb) pt.9).2*iI mv pt qs rs wb) (yQ (cw mv pt qs rs wl wb) pt.9)) j i:=by
 rw[Hq S D W O sy hi hj,Hq S D W O sy hj hi];exact MR (IW sy W.ps pt.9 λi hi=>O.r0 i hi).1
theorem Qu {x u:Nat->Rat} :
  ir mv.9 (j4 (wQ ((dU (cw mv pt qs rs wl wb) pt.9).2*iI mv pt qs rs wb) (yQ (cw mv pt qs rs wl wb) pt.9)) (w5 ((dU (cw mv pt qs rs wl wb) pt.9).2*iI mv pt qs rs wb) (yQ (cw mv pt qs rs wl wb) pt.9))) x+(ir mv.9 (j4 wl wb) (λe=>aP pt.9 λk=>(u k - Mt mv pt qs rs wl wb x k)*jY (iM mv pt) k e)+aP pt.9 λk=>(iQ qs rs).getD k 0*((u k - Mt mv pt qs rs wl wb x k)*(u k - Mt mv pt qs rs wl wb x k))) =
  ir mv.9 (j4 wl wb) (λe=>(aP pt.9 λk=>u k*jY (iM mv pt) k e)+aP mv.9 λc=>x c*jY (iM mv pt) (pt.9+c) e)+((aP pt.9 λk=>(iQ qs rs).getD k 0*(u k*u k))+aP mv.9 λc=>(iQ qs rs).getD (pt.9+c) 0*(x c*x c)):=by
 obtain _|_|d1|B1:=xk S D W O pt.9 (ar _);obtain _|_|_|dB:=vt.next S D W O;have s0:(0:Rat) < ((iI mv pt qs rs wb:Int):Rat):=cR.mpr (qB W.pos);have sn:((iI mv pt qs rs wb:Int):Rat)≠0:=by grind
 have es:∀z,ir (pt.9+mv.9) (eB (cw mv pt qs rs wl wb)) z=((iI mv pt qs rs wb:Int):Rat)*ir (pt.9+mv.9) (stN mv.9 (jY (iM mv pt)) (j4 wl wb) (λi=>(iQ qs rs).getD i 0)) z:=λz=>by
  rw[<- xu];exact xv λi j hi hj=>yy S D W.len W.wide W.pos hi hj
 have sya:∀i j,i < pt.9+mv.9->j < pt.9+mv.9->eB (cw mv pt qs rs wl wb) i j=eB (cw mv pt qs rs wl wb) j i:=λi j hi hj=>by
  rw[yy S D W.len W.wide W.pos hi hj,yy S D W.len W.wide W.pos hj hi,MR sy]
 have q:=Ub (x:=λi=>if i < pt.9 then 0 else x (i - pt.9)) (z:=λi=>if i < pt.9 then u i else x (i - pt.9)) B1 sya (λi hi=>if_pos hi) (λi hi=>by rw[if_neg (),if_neg ()]);rw[<- FN B1 (λi hi=>if_pos hi),<- Ks B1,es,es] at q
 have e1:ir mv.9 (λi j=>eB (dU (cw mv pt qs rs wl wb) pt.9).1 (pt.9+i) (pt.9+j) / ((dU (cw mv pt qs rs wl wb) pt.9).2:Rat)) x=((iI mv pt qs rs wb:Int):Rat)*ir mv.9 (j4 (wQ ((dU (cw mv pt qs rs wl wb) pt.9).2*iI mv pt qs rs wb) (yQ (cw mv pt qs rs wl wb) pt.9)) (w5 ((dU (cw mv pt qs rs wl wb) pt.9).2*iI mv pt qs rs wb) (yQ (cw mv pt qs rs wl wb) pt.9))) x:=by
  rw[<- xu];refine xv λi j hi hj=>?_
  rw[tR dB,Kr];exact TU sn
 rw[e1,<- Rat.mul_add] at q;have q:=congrArg (λy=>((iI mv pt qs rs wb:Int):Rat)⁻¹*y) q;simp only[<- dX,iK _ sn,gU] at q;rw[JT,JT] at q
 have c1:∀i,(if i < pt.9 then u i else x (i - pt.9)) - FI pt.9 (eB (dU (cw mv pt qs rs wl wb) pt.9).1) ((dU (cw mv pt qs rs wl wb) pt.9).2:Rat) (pt.9+mv.9) (λi=>if i < pt.9 then 0 else x (i - pt.9)) i=if i < pt.9 then u i - Mt mv pt qs rs wl wb x i else 0:=λi=>by
  unfold FI Mt;by_cases h:i < pt.9
  ·simp only[if_pos h];rw[SE]
  ·simp only[if_neg h];grind
 have c2:∀g:Nat->Rat,(aP (pt.9+mv.9) λi=>((if i < pt.9 then u i else x (i - pt.9)) - FI pt.9 (eB (dU (cw mv pt qs rs wl wb) pt.9).1) ((dU (cw mv pt qs rs wl wb) pt.9).2:Rat) (pt.9+mv.9) (λi=>if i < pt.9 then 0 else x (i - pt.9)) i)*g i)=aP pt.9 λi=>(u i - Mt mv pt qs rs wl wb x i)*g i:=λg=>by
  rw[SD λi hi=>by rw[c1 i,if_neg ()]];exact aG λi hi=>by rw[c1 i,if_pos hi]
 have c3:(aP (pt.9+mv.9) λi=>(iQ qs rs).getD i 0*(((if i < pt.9 then u i else x (i - pt.9)) - FI pt.9 (eB (dU (cw mv pt qs rs wl wb) pt.9).1) ((dU (cw mv pt qs rs wl wb) pt.9).2:Rat) (pt.9+mv.9) (λi=>if i < pt.9 then 0 else x (i - pt.9)) i)*((if i < pt.9 then u i else x (i - pt.9)) - FI pt.9 (eB (dU (cw mv pt qs rs wl wb) pt.9).1) ((dU (cw mv pt qs rs wl wb) pt.9).2:Rat) (pt.9+mv.9) (λi=>if i < pt.9 then 0 else x (i - pt.9)) i)))=aP pt.9 λi=>(iQ qs rs).getD i 0*((u i - Mt mv pt qs rs wl wb x i)*(u i - Mt mv pt qs rs wl wb x i)):=by
  rw[aG (k:=pt.9+mv.9) (g:=λi=>((if i < pt.9 then u i else x (i - pt.9)) - FI pt.9 (eB (dU (cw mv pt qs rs wl wb) pt.9).1) ((dU (cw mv pt qs rs wl wb) pt.9).2:Rat) (pt.9+mv.9) (λi=>if i < pt.9 then 0 else x (i - pt.9)) i)*((iQ qs rs).getD i 0*((if i < pt.9 then u i else x (i - pt.9)) - FI pt.9 (eB (dU (cw mv pt qs rs wl wb) pt.9).1) ((dU (cw mv pt qs rs wl wb) pt.9).2:Rat) (pt.9+mv.9) (λi=>if i < pt.9 then 0 else x (i - pt.9)) i))) λi _=>by grind,c2];refine aG λi hi=>?_
  rw[c1 i,if_pos hi];grind
 have c4:(aP (pt.9+mv.9) λi=>(iQ qs rs).getD i 0*((if i < pt.9 then u i else x (i - pt.9))*(if i < pt.9 then u i else x (i - pt.9))))=(aP pt.9 λk=>(iQ qs rs).getD k 0*(u k*u k))+aP mv.9 λc=>(iQ qs rs).getD (pt.9+c) 0*(x c*x c):=by
  rw[nJ];congr 1
  ·exact aG λi hi=>by rw[if_pos hi]
  ·exact aG λi hi=>by rw[if_neg (),show pt.9+i - pt.9=i by lia]
 rw[show (λe=>aP (pt.9+mv.9) λi=>(if i < pt.9 then u i else x (i - pt.9))*jY (iM mv pt) i e)=λe=>(aP pt.9 λk=>u k*jY (iM mv pt) k e)+aP mv.9 λc=>x c*jY (iM mv pt) (pt.9+c) e from funext λe=>MM,show (λe=>aP (pt.9+mv.9) λi=>((if i < pt.9 then u i else x (i - pt.9)) - FI pt.9 (eB (dU (cw mv pt qs rs wl wb) pt.9).1) ((dU (cw mv pt qs rs wl wb) pt.9).2:Rat) (pt.9+mv.9) (λi=>if i < pt.9 then 0 else x (i - pt.9)) i)*jY (iM mv pt) i e)=λe=>aP pt.9 λk=>(u k - Mt mv pt qs rs wl wb x k)*jY (iM mv pt) k e from funext λe=>c2 _,c3,c4] at q;exact q.symm
end
end
def ju (xs:List Rat):List Rat:=xs.map λx=>x*x
def mU (ws:List Rat) (rows:LR9):Rat:=(rows.map λxs=>d9 ws (ju xs)).sum
section
variable {mv pt lk pus a b rows:LR9} {ws wT st go x y:List Rat} {T n m:Nat}
theorem KD:∀{rows:LR9},(∀xs∈rows,xs.9=ws.9)->d9 (Mm ws rows.9) (ju rows.flatten)=mU ws rows
 | [],_=>rfl
 | xs :: rows,h=>by
  have e1:Mm ws (xs :: rows).9=ws++Mm ws rows.9:=by unfold Mm;rw[bV,il,fR]
  have e2:ju (xs :: rows).flatten=ju xs++ju rows.flatten:=by unfold ju;rw[fR,cn]
  have e3:d9 (ws++Mm ws rows.9) (ju xs++ju rows.flatten)=d9 ws (ju xs)+d9 (Mm ws rows.9) (ju rows.flatten):=by
   unfold d9;rw[F4 (by unfold ju;rw[af];exact (h xs (.head _)).symm),CZ]
  rw[e1,e2,e3,KD λys hy=>h ys (.tail _ hy)];rfl
end
theorem T3 (h:Int.gcd a b=1):Int.gcd (a*a) (b*b)=1:=by
 have h':Nat.Coprime a.natAbs b.natAbs:=h;show Nat.gcd (a*a).natAbs (b*b).natAbs=1
 rw[fU,fU];exact Nat.Coprime.mul_left (Nat.Coprime.mul_right h' h') (Nat.Coprime.mul_right h' h')
theorem Vl (x:Rat):((nm x).1*(nm x).1,(nm x).2*(nm x).2)=nm (x*x):=by
 refine RF (fj (jH x) (jH x)) (T3 (BR x)) ?_
 have e:(((nm x).1:Int):Rat)=x*(((nm x).2:Int):Rat):=by
  show (x.num:Rat)=x*(((x.den:Nat):Int):Rat)
  rw[m9,bL]
 rw[aO,aO,e];grind
inductive MV (K:FG9) (vs:List V) (H:Hp) (Q:VK) (E9:XK):Prop
 | mk (u:V) (x:Rat):vs=[u]->bS K H x u->lh x->(∀r H',aA H H'->bS K H' (x*x) (.ref r)->Q (.ref r) H')->MV K vs H Q E9
def En (ws:List Rat) (rows:LR9):Prop:=∃M A N B:Nat,0 < M/\0 < N/\1<=A/\1<=B/\(∀w∈ws,Tp M A w)/\(∀xs∈rows,∀x∈xs,Tp N B x)/\M*(N*N)<=2^3900000/\1024*(A*(B*B))<=2^3900000/\ws.9<=8/\rows.9<=20
theorem Ay {M W:Nat}:∀{l:List Rat},(∀x∈l,Tp M W x)->Tp M (l.9*W) l.sum
 | [],_=>by rw[List.length_nil,Nat.zero_mul];exact Tp.zero
 | x :: l,h=>by
  rw[UA,bV,dP,pe];exact (h x (.head _)).add (Ay λy hy=>h y (.tail _ hy))
theorem IG (h1:∀x∈xs,Tp M A x) (h2:∀y∈ys,Tp N B y):Tp (M*N) (xs.9*(A*B)) (d9 xs ys):=by
 unfold d9
 have t:=Ay (M:=M*N) (W:=A*B) (l:=List.zipWith (λx y=>x*y) xs ys) λz hz=>by
  obtain i|hi|e:=bX hz;rw[gX] at e;rw[<- e];exact (h1 _ (bo _)).mul (h2 _ (bo _))
 exact t.mono (aE _ (by rw[bM];lia))
section
variable {ws:List Rat} {rows:LR9}
theorem En.num (h:En ws rows) (hx:xs∈rows) (hx':x∈xs) (hw:w∈ws):lh x/\lh w/\lh (x*x)/\lh (w*(x*x)):=by
 obtain M|A|N|B|M0|N0|A1|B1|h1|h2|b1|b2|_|_:=h;have up:∀{k:Nat},k<=2^3900000->k<=2^3995000:=λh=>aj h (p2 ())
 generalize (2:Nat)^3900000=P at b1 b2 up;have n1:N*N<=M*(N*N):=cU _ M0;have n2:N<=N*N:=cU _ N0;have m1:M<=M*(N*N):=de _ (aY N0 N0);have a1:B*B<=A*(B*B):=cU _ A1;have a2:B<=B*B:=cU _ B1;have a3:A<=A*(B*B):=de _ (aY B1 B1);have tx:=h2 xs hx x hx';have tw:=h1 w hw;exact #[wd tx N0 (up ()) (up ()),wd tw M0 (up ()) (up ()),wd (tx.mul tx) (aY N0 N0) (up ()) (up ()),wd (tw.mul (tx.mul tx)) (aY M0 (aY N0 N0)) (up ()) (up ())]
theorem En.take (h:En ws rows) (i k:Nat) (xs:List Rat) (hx:xs∈rows):lh (mU ws (rows.take i)+d9 (ws.take k) ((ju xs).take k)):=by
 obtain M|A|N|B|M0|N0|A1|B1|h1|h2|b1|b2|l1|l2:=h
 have ts:∀ys∈rows,∀z∈ju ys,Tp (N*N) (B*B) z:=λys hy z hz=>by
  obtain y|hy'|rfl:=av.mp hz;exact (h2 ys hy y hy').mul (h2 ys hy y hy')
 have t1:=Ay (M:=M*(N*N)) (W:=8*(A*(B*B))) (l:=(rows.take i).map λxs=>d9 ws (ju xs)) λz hz=>by
  obtain ys|hy|rfl:=av.mp hz;exact (IG h1 (ts ys (cz hy))).mono (aE _ l1)
 have t2:=IG (xs:=ws.take k) (ys:=(ju xs).take k) (λw hw=>h1 w (cz hw)) (λz hz=>ts xs hx z (cz hz));have e1:((rows.take i).map λxs=>d9 ws (ju xs)).9*(8*(A*(B*B)))<=20*(8*(A*(B*B))):=aE _ (by rw[af,dh];lia);have e2:(ws.take k).9*(A*(B*B))<=8*(A*(B*B)):=aE _ (by rw[dh];lia);have up:∀{k:Nat},k<=2^3900000->k<=2^3995000:=λh=>aj h (p2 ())
 generalize (2:Nat)^3900000=P at b1 b2 up;exact wd ((t1.mono e1).add (t2.mono e2)) (aY M0 (aY N0 N0)) (up ()) (up ())
theorem En.szn (h:En ws rows):lh (mU ws rows):=by
 obtain M|A|N|B|M0|N0|A1|B1|h1|h2|b1|b2|l1|l2:=h
 have t1:=Ay (M:=M*(N*N)) (W:=8*(A*(B*B))) (l:=rows.map λxs=>d9 ws (ju xs)) λz hz=>by
  obtain ys|hy|rfl:=av.mp hz;refine (IG h1 λz hz=>?_).mono (aE _ l1);obtain y|hy'|rfl:=av.mp hz;exact (h2 ys hy y hy').mul (h2 ys hy y hy')
 have e1:(rows.map λxs=>d9 ws (ju xs)).9*(8*(A*(B*B)))<=20*(8*(A*(B*B))):=aE _ (by rw[af];lia);have up:∀{k:Nat},k<=2^3900000->k<=2^3995000:=λh=>aj h (p2 ())
 generalize (2:Nat)^3900000=P at b1 b2 up;exact wd (t1.mono e1) (aY M0 (aY N0 N0)) (up ()) (up ())
theorem En.rw (h:En ws rows):VI (Mm ws rows.9)/\VI (ju rows.flatten):=by
 obtain M|A|N|B|M0|N0|A1|B1|h1|h2|b1|b2|l1|l2:=h;have up:∀{k:Nat},k<=2^3900000->k<=2^4300000:=λh=>aj h (p2 ())
 generalize (2:Nat)^3900000=P at b1 b2 up;have n1:N*N<=M*(N*N):=cU _ M0;have m1:M<=M*(N*N):=de _ (aY N0 N0);have a1:B*B<=A*(B*B):=cU _ A1;have a3:A<=A*(B*B):=de _ (aY B1 B1);refine #[Na (W:=A) M0 (up ()) (up ()) λw hw=>h1 w (Ss hw),Na (W:=B*B) (aY N0 N0) (up ()) (up ()) λz hz=>?_];obtain y|hy|rfl:=av.mp hz;obtain ys|hy1|hy2:=cS.mp hy;exact (h2 ys hy1 y hy2).mul (h2 ys hy1 y hy2)
end
inductive IJ (K:FG9) (vs:List V) (H:Hp) (Q:VK) (E9:XK):Prop
 | mk (p q:Addr) (ws:List Rat) (rows:LR9) (H0:Hp):vs=[.ref p,.ref q]->cu K H p ws->bQ K H0 H q rows->(∀xs∈rows,xs.9=ws.9)->En ws rows->(∀r H',aA H H'->bS K H' (mU ws rows) (.ref r)->Q (.ref r) H')->IJ K vs H Q E9
theorem GR {K:FG9} {H0 H:Hp}:∀{rows:LR9} {us:List V},Paired (dF K H0 H) rows us->∃zss:List (List V),Paired (λzs u=>∃q,u=V.ref q/\H q=some (.lst zs)) zss us/\Paired (λR zs=>Paired (bS K H) R zs) rows zss
 | _,_,.nil=>#[[],.nil,.nil]
 | _,_,.cons h t=>by
  obtain zss|a|b:=GR t;obtain q|e|_|zs|g|r:=h;exact #[zs :: zss,.cons #[q,e,g] a,.cons r b]
theorem Fz:mU ws (rows++[xs])=mU ws rows+d9 ws (ju xs):=by
 unfold mU;rw[cn,CZ];simp [dc]
def F0 (pt:LR9) (d:List Rat) (n:Nat):Nat->List Rat
 | 0=>List.replicate n 0
 | k+1=>List.zipWith (λx y=>x+y) (F0 pt d n k) ((pt.getD k []).map λy=>d.getD k 0*y)
def yw (w:List (List Int)×Int) (x:List Rat):Rat:=d9 x (C5 w.1 w.2 x)
section
variable {mv pt lk:LR9} {qs rs fs st pu d ws xs:List Rat} {wl:List (List Int)} {wb:Int} {σ ω b t n k:Nat}
theorem EY (wp:∀xs∈pt,xs.9=n):∀k,k<=pt.9->(F0 pt d n k).9=n
 | 0,_=>c8 ..
 | k+1,hk=>by
  show (List.zipWith _ _ _).9=n
  rw[bM,EY wp k (),af,wp _ (getD_in ()),K2]
theorem RC (wp:∀xs∈pt,xs.9=n) {i:Nat} (hi:i < n):∀k,k<=pt.9->(F0 pt d n k).getD i 0=aP k λj=>d.getD j 0*jY pt j i
 | 0,_=>by
  show (List.replicate n (0:Rat)).getD i 0=0
  rw[ae,oC,if_pos hi];rfl
 | k+1,hk=>by
  have l1:=EY (d:=d) wp k ();have l2:(pt.getD k []).9=n:=wp _ (getD_in ());show (List.zipWith _ _ _).getD i 0=aP k _+_
  rw[<- RC wp hi k (),ae,b9,ay,ae (l:=F0 pt d n k),ai (),ai ()];show _=_+d.getD k 0*(pt.getD k []).getD i 0
  rw[ae (l:=pt.getD k []),ai ()];rfl
theorem NH {b:Int} (hi:i < ls.9):(C5 ls b xs).getD i 0=(aP xs.9 λj=>eB ls i j*xs.getD j 0) / (b:Rat):=by
 unfold C5 eB;rw[ae,ay,ae (l:=ls),ai hi];rfl
theorem AB {b:Int}:(C5 ls b xs).9=ls.9:=af ..
theorem IY (h:∀i,i < n->z i=z' i):ir n W z=ir n W z':=by
 unfold ir;exact aG λi hi=>by rw[h i hi,aG λj hj=>by rw[h j hj]]
theorem Ew (lw:wl.9=n) (lx:xs.9=n):yw (wl,wb) xs=ir n (j4 wl wb) λi=>xs.getD i 0:=by
 have hl:(C5 wl wb xs).9=n:=by rw[AB,lw]
 show d9 xs (C5 wl wb xs)=_
 unfold ir;rw[qJ (),lx];refine aG λi hi=>?_
 rw[NH (),lx,br,c9 (aP n _),<- cF];congr 1;refine aG λj _=>?_
 unfold j4;rw[br];grind
theorem FA (l:xs.9=ws.9):mU ws [xs]=aP ws.9 λk=>ws.getD k 0*(xs.getD k 0*xs.getD k 0):=by
 show d9 ws (ju xs)+0=_
 rw[dc,qJ (by unfold ju;rw[af];lia)];refine aG λk hk=>?_
 unfold ju;rw[ae (l:=List.map _ xs),ay,ae (l:=xs),ai ()];rfl
theorem NK {d:Rat}:(-d)⁻¹=-d⁻¹:=by
 by_cases h:d=0
 ·rw[h,Rat.neg_zero,Rat.inv_zero,Rat.neg_zero]
 ·have h2:-d≠0:=by grind
  have e:(-d)*(-d⁻¹)=1:=by rw[OV,Rat.mul_neg,Rat.neg_neg,dD _ h]
  have e2:=congrArg (λx=>(-d)⁻¹*x) e;simp only[<- dX,iK _ h2,gU,fY] at e2;exact e2.symm
def RJ (pt:LR9) (rs:List Rat) (w:List (List Int)×Int) (n:Nat) (d:List Rat):Rat:=mU rs [d]+yw w (F0 pt d n pt.9)
section
variable (S:Ek mv pt qs rs σ ω) (D:fI mv pt lk) (O:Uh mv pt qs rs)
include S D O
theorem RE (hk:k < pt.9):(iQ qs rs).getD k 0=rs.getD k 0:=by
 unfold iQ;have:=S.lr;rw[ae,gG (),ae]
theorem Vh:(iQ qs rs).getD (pt.9+k) 0=qs.getD k 0:=by
 unfold iQ;rw[ae,fQ (by have:=S.lr;lia),ae,S.lr,show pt.9+k - pt.9=k by lia]
theorem Ry (hk:k < pt.9):jY (iM mv pt) k e=jY pt k e:=by
 unfold jY iM;rw[ae (l:=pt++_),gG hk,ae (l:=pt)]
theorem UZ (hk:k < mv.9) (he:e < mv.9):jY (iM mv pt) (pt.9+k) e=jY mv e k:=by
 unfold jY iM;rw[ae (l:=pt++_),fQ (),show pt.9+k - pt.9=k by lia,Ax hk];show (mv.map λxs=>xs.getD k 0).getD e 0=(mv.getD e []).getD k 0
 rw[ae,ay,ae (l:=mv),ai he];rfl
theorem NR (lw:w.1.9=mv.9) (ld:d.9=pt.9):RJ pt rs w mv.9 d=ir mv.9 (j4 w.1 w.2) (λe=>aP pt.9 λk=>d.getD k 0*jY (iM mv pt) k e)+aP pt.9 λk=>(iQ qs rs).getD k 0*(d.getD k 0*d.getD k 0):=by
 unfold RJ;rw[show w=(w.1,w.2) from rfl,Ew lw (EY D.pw _ (ar _)),FA (by rw[S.lr,ld]),S.lr,AS];congr 1
 ·refine IY λi hi=>?_
  rw[RC D.pw hi _ (ar _)];exact aG λk hk=>by rw[Ry S D O hk]
 ·exact aG λk hk=>by rw[RE S D O hk]
theorem RH (W:vt mv.9 w.1 w.2 b) (ld:d.9=pt.9):0<=RJ pt rs w mv.9 d/\(RJ pt rs w mv.9 d=0↔d=List.replicate d.9 0):=by
 have h1:=W.ps λe=>aP pt.9 λk=>d.getD k 0*jY (iM mv pt) k e
 have nn:∀k,k < pt.9->0<=(iQ qs rs).getD k 0*(d.getD k 0*d.getD k 0):=λk hk=>eK (O.q0 k ()) Ut
 have h2:=xj (f:=λk=>(iQ qs rs).getD k 0*(d.getD k 0*d.getD k 0)) pt.9 nn;have ge:=λk (hk:k < pt.9)=>EC (f:=λk=>(iQ qs rs).getD k 0*(d.getD k 0*d.getD k 0)) hk nn
 rw[NR S D O W.len ld];refine #[by grind,λh=>?_,λh=>?_]
 ·refine mF (by rw[c8]) λk hk _=>?_
  rw[List.getElem_replicate];have hk':k < pt.9:=()
  have z:=ge k hk';have r0:=O.r0 k hk';have e:d.getD k 0=d[k]:=by rw[ae,ai hk];rfl
  rw[e] at z
  have z0:(iQ qs rs).getD k 0*(d[k]*d[k])=0:=by
   have:=nn k hk';rw[e] at this;grind
  rcases CY.mp z0 with q | q
  ·rw[q] at r0;exact absurd r0 ()
  ·rcases CY.mp q with q | q <;> exact q
 ·have z:∀k,d.getD k 0=0:=λk=>by
   rw[h,ae,oC]
   split <;> rfl
  rw[eR (f:=λk=>(iQ qs rs).getD k 0*(d.getD k 0*d.getD k 0)) λk _=>by rw[z,cx,iw],dc];rw[IY (z':=λ_=>0) λi _=>eR λk _=>by rw[z,cx]];unfold ir;exact eR λi _=>cx _
theorem TQ (W:vt mv.9 (bT mv pt qs rs fs t).1.1 (bT mv pt qs rs fs t).1.2 b) (lx:x.9=mv.9) (hk:k < pt.9):(k6 mv pt qs rs fs (t+1) x).getD k 0=Mt mv pt qs rs (bT mv pt qs rs fs t).1.1 (bT mv pt qs rs fs t).1.2 (λi=>x.getD i 0) k:=by
 have U:=wR S D O W;obtain l1|w1|d1|_:=xk S D W O pt.9 (ar _);unfold k6;rw[NH (by rw[U.len];exact hk),lx];have hd:(bT mv pt qs rs fs (t+1)).2.2=-(dU (cw mv pt qs rs (bT mv pt qs rs fs t).1.1 (bT mv pt qs rs fs t).1.2) pt.9).2:=rfl
 have hu:∀j,eB (bT mv pt qs rs fs (t+1)).2.1 k j=eB (dU (cw mv pt qs rs (bT mv pt qs rs fs t).1.1 (bT mv pt qs rs fs t).1.2) pt.9).1 k (pt.9+j):=λj=>by
  show eB (Sv (cw mv pt qs rs (bT mv pt qs rs fs t).1.1 (bT mv pt qs rs fs t).1.2) pt.9) k j=_
  unfold eB;congr 1;rw[ae (l:=Sv _ _),List.getElem?_take,if_pos hk,ay,ae (l:=(dU _ _).1)];cases e:(dU (cw mv pt qs rs (bT mv pt qs rs fs t).1.1 (bT mv pt qs rs fs t).1.2) pt.9).1[k]? with
  | none=>rfl
  | some l =>
   show (l.drop pt.9).getD j 0=l.getD (pt.9+j) 0
   rw[ae,Iz,ae]
 unfold Mt;rw[hd,aG λj _=>by rw[hu j],iZ];generalize ((dU (cw mv pt qs rs (bT mv pt qs rs fs t).1.1 (bT mv pt qs rs fs t).1.2) pt.9).2:Rat)=d
 have e:(aP mv.9 λc=>eB (dU (cw mv pt qs rs (bT mv pt qs rs fs t).1.1 (bT mv pt qs rs fs t).1.2) pt.9).1 k (pt.9+c) / d*x.getD c 0)=d⁻¹*aP mv.9 λc=>eB (dU (cw mv pt qs rs (bT mv pt qs rs fs t).1.1 (bT mv pt qs rs fs t).1.2) pt.9).1 k (pt.9+c)*x.getD c 0:=by
  rw[<- cF];exact aG λc _=>by rw[br];grind
 rw[e,br,NK];grind
theorem Pp (W:vt mv.9 (bT mv pt qs rs fs t).1.1 (bT mv pt qs rs fs t).1.2 b) (sy:∀i j,i < mv.9->j < mv.9->j4 (bT mv pt qs rs fs t).1.1 (bT mv pt qs rs fs t).1.2 i j=j4 (bT mv pt qs rs fs t).1.1 (bT mv pt qs rs fs t).1.2 j i) (ls:st.9=mv.9) (lp:pu.9=pt.9):yw (bT mv pt qs rs fs (t+1)).1 st+RJ pt rs (bT mv pt qs rs fs t).1 mv.9 (List.zipWith (λx y=>x - y) pu (k6 mv pt qs rs fs (t+1) st))=yw (bT mv pt qs rs fs t).1 (gO mv pt st pu)+(mU rs [pu]+mU qs [st]):=by
 have U:=wR S D O W;have ldu:(k6 mv pt qs rs fs (t+1) st).9=pt.9:=by unfold k6;rw[AB,U.len]
 have ld:(List.zipWith (λx y=>x - y) pu (k6 mv pt qs rs fs (t+1) st)).9=pt.9:=by rw[bM,lp,ldu,K2]
 have dk:∀k,k < pt.9->(List.zipWith (λx y=>x - y) pu (k6 mv pt qs rs fs (t+1) st)).getD k 0=pu.getD k 0 - Mt mv pt qs rs (bT mv pt qs rs fs t).1.1 (bT mv pt qs rs fs t).1.2 (λi=>st.getD i 0) k:=λk hk=>by
  rw[<- TQ S D O W ls hk,ae,b9,ae (l:=pu),ae (l:=k6 mv pt qs rs fs (t+1) st),ai (),ai ()];rfl
 obtain _|_|Wn|_:=vt.next S D W O;have e0:=Qu S D W O sy (x:=λi=>st.getD i 0) (u:=λk=>pu.getD k 0);have e1:yw (bT mv pt qs rs fs (t+1)).1 st=_:=Ew (wl:=(bT mv pt qs rs fs (t+1)).1.1) (wb:=(bT mv pt qs rs fs (t+1)).1.2) Wn.len ls;have e2:yw (bT mv pt qs rs fs t).1 (gO mv pt st pu)=_:=Ew (wl:=(bT mv pt qs rs fs t).1.1) (wb:=(bT mv pt qs rs fs t).1.2) W.len yN;rw[NR S D O W.len ld,e1,e2,FA (by rw[lp,S.lr]),FA (by rw[ls,S.lq]),S.lr,S.lq];have c1:(aP pt.9 λk=>(iQ qs rs).getD k 0*((List.zipWith (λx y=>x - y) pu (k6 mv pt qs rs fs (t+1) st)).getD k 0*(List.zipWith (λx y=>x - y) pu (k6 mv pt qs rs fs (t+1) st)).getD k 0))=_:=aG λk hk=>by rw[dk k hk]
 have c2:ir mv.9 (j4 (bT mv pt qs rs fs t).1.1 (bT mv pt qs rs fs t).1.2) (λe=>aP pt.9 λk=>(List.zipWith (λx y=>x - y) pu (k6 mv pt qs rs fs (t+1) st)).getD k 0*jY (iM mv pt) k e)=_:=congrArg (ir mv.9 _) (funext λe=>aG λk hk=>by rw[dk k hk]);have c3:(aP pt.9 λk=>rs.getD k 0*(pu.getD k 0*pu.getD k 0))=aP pt.9 λk=>(iQ qs rs).getD k 0*(pu.getD k 0*pu.getD k 0):=aG λk hk=>by rw[RE S D O hk]
 have c4:(aP mv.9 λk=>qs.getD k 0*(st.getD k 0*st.getD k 0))=aP mv.9 λc=>(iQ qs rs).getD (pt.9+c) 0*(st.getD c 0*st.getD c 0):=aG λk _=>by rw[Vh S D O]
 have mg:∀e,e < mv.9->(gO mv pt st pu).getD e 0=(aP pt.9 λk=>pu.getD k 0*jY (iM mv pt) k e)+aP mv.9 λc=>st.getD c 0*jY (iM mv pt) (pt.9+c) e:=λe he=>by
  rw[NP D ls lp he,AS];congr 1
  ·exact aG λk hk=>by rw[Ry S D O hk]
  ·exact aG λc hc=>by rw[UZ S D O hc he,c9]
 have c5:ir mv.9 (j4 (bT mv pt qs rs fs t).1.1 (bT mv pt qs rs fs t).1.2) (λi=>(gO mv pt st pu).getD i 0)=ir mv.9 (j4 (bT mv pt qs rs fs t).1.1 (bT mv pt qs rs fs t).1.2) λe=>(aP pt.9 λk=>pu.getD k 0*jY (iM mv pt) k e)+aP mv.9 λc=>st.getD c 0*jY (iM mv pt) (pt.9+c) e:=by
  exact IY mg
 rw[c1,c2,c3,c4,c5];exact e0
end
end
structure VH (mv pt:LR9) (qs rs fs st pu:List Rat) (l:Nat):Prop where
 ls:st.9=mv.9
 lp:pu.9=pt.9
 ld:(k6 mv pt qs rs fs (l+1) st).9=pt.9
 mm:∃M,tj M (st.map nm)
 pz:∀z∈pu,lh z
 dz:∀z∈k6 mv pt qs rs fs (l+1) st,lh z
 sz:∀z∈List.zipWith (λx y=>x - y) pu (k6 mv pt qs rs fs (l+1) st),lh z
 py:∀k,k<=pt.9->∀z∈F0 pt (List.zipWith (λx y=>x - y) pu (k6 mv pt qs rs fs (l+1) st)) mv.9 k,lh z
 tm:∀k,k < pt.9->∀y∈pt.getD k [],lh y/\lh ((List.zipWith (λx y=>x - y) pu (k6 mv pt qs rs fs (l+1) st)).getD k 0*y)
 ef:En rs [List.zipWith (λx y=>x - y) pu (k6 mv pt qs rs fs (l+1) st)]
 lW:(bT mv pt qs rs fs l).1.1.length=mv.9
 wW:∀z∈(bT mv pt qs rs fs l).1.1,z.9=mv.9
 f1:∀xs∈vv (bT mv pt qs rs fs l).1.1 (bT mv pt qs rs fs l).1.2,xs.9=mv.9/\DA xs (F0 pt (List.zipWith (λx y=>x - y) pu (k6 mv pt qs rs fs (l+1) st)) mv.9 pt.9)
 f2:DA (F0 pt (List.zipWith (λx y=>x - y) pu (k6 mv pt qs rs fs (l+1) st)) mv.9 pt.9) (C5 (bT mv pt qs rs fs l).1.1 (bT mv pt qs rs fs l).1.2 (F0 pt (List.zipWith (λx y=>x - y) pu (k6 mv pt qs rs fs (l+1) st)) mv.9 pt.9))
 wz:lh (yw (bT mv pt qs rs fs l).1 (F0 pt (List.zipWith (λx y=>x - y) pu (k6 mv pt qs rs fs (l+1) st)) mv.9 pt.9))
 nn:0<=RJ pt rs (bT mv pt qs rs fs l).1 mv.9 (List.zipWith (λx y=>x - y) pu (k6 mv pt qs rs fs (l+1) st))/\(RJ pt rs (bT mv pt qs rs fs l).1 mv.9 (List.zipWith (λx y=>x - y) pu (k6 mv pt qs rs fs (l+1) st))=0↔List.zipWith (λx y=>x - y) pu (k6 mv pt qs rs fs (l+1) st)=List.replicate (List.zipWith (λx y=>x - y) pu (k6 mv pt qs rs fs (l+1) st)).9 0)
section
variable {mv pt lk pus:LR9} {qs rs fs st pu ws:List Rat} {σ ω b b1 T l M1 M2 V N p B e:Nat}
theorem UE (h:∀l∈ls,l.9=xs.9):(vv ls d).map (λys=>d9 ys xs)=C5 ls d xs:=by
 unfold vv C5;rw[K4];refine mR λl hl=>?_
 show d9 (l.map λ(z:Int)=>(z:Rat) / (d:Rat)) xs=_
 rw[qJ (by rw[af];exact h l hl),af,h l hl,br,c9,<- cF];refine aG λj hj=>?_
 have hj':j < l.9:=by rw[h l hl];exact hj
 rw[ae,ay,ae (l:=l),ai hj'];show (l[j]:Rat) / (d:Rat)*_=(d:Rat)⁻¹*((l[j]:Rat)*_)
 rw[br];grind
theorem IC (hd:0 < d) (hb:Sz b d) (hs:∀l∈ls,∀z∈l,Sz b z):∀xs∈vv ls d,jZ b b xs:=λxs hx=>by
 unfold vv at hx;obtain l|hl|rfl:=av.mp hx;refine #[d.natAbs,2^b,(),aL hb,ar _,λy hy=>?_];obtain z|hz|rfl:=av.mp hy;have dq:(d:Rat)≠0:=λq=>by have:=oj q;lia
 refine #[z,?_,aj (aL (hs l hl z hz)) (de _ ())];rw[show ((d.natAbs:Nat):Rat)=(d:Rat) by rw[<- bL];congr 1;lia,iL dq]
theorem UC (w0:0 < w.2) (hs:∀l∈w.1,∀z∈l,Sz b z) (n8:xs.9<=8) (hx:∀x∈xs,Fr N (2^p) x):Fr (N*(w.2.natAbs*N)) (2^(b+6+p+p)) (yw w xs):=by
 have h:=yM (d:=w.2) hs () hx n8;refine (Fr.dot hx h).mono ?_;rw[show b+6+p+p=3+(p+(b+3+p)) by lia,aJ 2 3,aJ 2 p];exact aE _ (show xs.9<=2^3 from n8)
theorem RW (hw:∀w∈ws,Fr M A w) (hr:∀xs∈rows,∀x∈xs,Fr N (2^p) x) (l8:ws.9<=8) (l20:rows.9<=16):Fr (M*(N*N)) (2^7*(A*(2^p*2^p))) (mU ws rows):=by
 unfold mU
 have h:=Fr.sum (M:=M*(N*N)) (V:=8*(A*(2^p*2^p))) (l:=rows.map λxs=>d9 ws (ju xs)) λz hz=>by
  obtain xs|hx|rfl:=av.mp hz;refine (Fr.dot hw λy hy=>?_).mono (aE _ l8);obtain x|hx'|rfl:=av.mp hy;exact (hr xs hx x hx').mul (hr xs hx x hx')
 refine h.mono ?_;rw[af,show 2^7*(A*(2^p*2^p))=16*(8*(A*(2^p*2^p))) by lia];exact aE _ l20
theorem Ce (M0:0 < M) (Mb:M<=2^210) (hw:∀w∈ws,Fr M (2^22) w) (N0:0 < N) (Nb:N<=2^e) (hr:∀xs∈rows,∀x∈xs,Fr N (2^p) x) (l8:ws.9<=8) (l20:rows.9<=20) (he:4*e<=1000*3000) (hp:2*e+2*p<=1000*3000):En ws rows:=by
 refine #[M,2^22*M,N,2^p*N,M0,N0,aY (dG _) M0,aY (dG _) N0,λw h=>Tp.of (hw w h) (ar _),λxs hx x h=>Tp.of (hr xs hx x h) (ar _),?_,?_,l8,l20]
 ·refine aj (aH Mb (aH Nb Nb)) ?_;rw[<- aJ,<- aJ];exact p2 ()
 ·refine aj (cg _ (aH (cg _ Mb) (aH (cg _ Nb) (cg _ Nb)))) ?_;rw[show 1024=2^10 from rfl,<- aJ,<- aJ,<- aJ,<- aJ,<- aJ];exact p2 ()
theorem Dm (h0:0 < M) (h1:M<=2^a) (h2:A<=2^c) (hab:a+c<=1000*10*390) (h:Fr M A x):lh x:=Fw h0 h1 h2 () h
theorem Pq (X:Bd mv pt M1 M2 V 80 160 33) (S:Ek mv pt qs rs 275 150) (D:fI mv pt lk) (O:Uh mv pt qs rs) (W:vt mv.9 (bT mv pt qs rs fs l).1.1 (bT mv pt qs rs fs l).1.2 b1) (hb:b1<=1000*130) (N0:0 < N) (Nb:N<=2^1300) (hp:p<=400) (hs:∀x∈st,Fr N (2^p) x) (hu:∀x∈pu,Fr N (2^p) x) (ls:st.9=mv.9) (lp:pu.9=pt.9) (B0:0 < Bw) (Bb:Bw<=2^210) (hr:∀w∈rs,Fr Bw (2^22) w):VH mv pt qs rs fs st pu l:=by
 have n8:=D.n8;have i4:=D.i4;have U:=wR S D O W;obtain ⟨e,he⟩:∃e,5*(b1+(2*275+150+20))+1=e:=#[_,rfl];rw[he] at U;have up:=U.pos;have ldu:(k6 mv pt qs rs fs (l+1) st).9=pt.9:=by unfold k6;rw[AB,U.len]
 obtain ⟨d,ed⟩:∃d,List.zipWith (λx y=>x - y) pu (k6 mv pt qs rs fs (l+1) st)=d:=#[_,rfl];have ld:d.9=pt.9:=by rw[<- ed,bM,lp,ldu,K2]
 have f1:=yM (d:=(bT mv pt qs rs fs (l+1)).2.2) U.sz () hs ();obtain ⟨Dn,eD⟩:∃x,(bT mv pt qs rs fs (l+1)).2.2.natAbs*N=x:=#[_,rfl];rw[eD] at f1;have D0:0 < Dn:=by rw[<- eD];exact aY () N0
 have Db:Dn<=2^(e+1300):=by
  have:=aL U.sb;rw[pj] at this;rw[<- eD,aJ];exact aH this Nb
 have fu:∀x∈pu,Fr Dn (2^(e+3+p)) x:=λx h=>Fr.up (hu x h) (by rw[<- eD];exact bZ _ _) (p2 ())
 have fd:∀z∈d,Fr Dn (2^(e+4+p)) z:=λz hz=>by
  rw[<- ed] at hz;obtain i|hi|rfl:=bX hz;have h1:i < pu.9:=by rw[bM] at hi;lia
  have h2:i < (k6 mv pt qs rs fs (l+1) st).9:=by rw[bM] at hi;lia
  rw[gX];have:=(fu _ (bo h1)).sub (f1 _ (bo h2));refine this.mono ?_;rw[show e+4+p=(e+3+p)+1 by lia,jf,Nat.mul_two];exact ar _
 have gd:∀k,Fr Dn (2^(e+4+p)) (d.getD k 0):=λk=>by
  rw[ae];cases q:d[k]? with
  | none=>exact Fr.zero
  | some z=>exact fd z (ao q)
 have fy:∀k,k < pt.9->∀y∈pt.getD k [],Fr M2 V y:=λk hk y hy=>X.gp _ (getD_in hk) y hy
 have ft:∀k,k < pt.9->∀y∈pt.getD k [],Fr (Dn*M2) (2^(e+37+p)) (d.getD k 0*y):=λk hk y hy=>by
  refine ((gd k).mul (fy k hk y hy)).mono ?_;rw[show e+37+p=(e+4+p)+33 by lia,aJ 2 (e+4+p)];exact cg _ X.v1
 have fp:∀k,k<=pt.9->∀z∈F0 pt d mv.9 k,Fr (Dn*M2) (k*2^(e+37+p)) z:=λk=>by
  induction k with
  | zero =>
   intro _ z hz;rw[yu hz];exact Fr.zero
  | succ k ih =>
   intro hk z hz;have hz:z∈List.zipWith (λx y=>x+y) (F0 pt d mv.9 k) ((pt.getD k []).map λy=>d.getD k 0*y):=hz;obtain i|hi|rfl:=bX hz;rw[gX];rw[bM] at hi;have h2:((pt.getD k []).map λy=>d.getD k 0*y)[i]'()∈(pt.getD k []).map λy=>d.getD k 0*y:=bo _
   obtain y|hy|e2:=av.mp h2;rw[<- e2,dP];exact (ih () _ (bo _)).add (ft k () y hy)
 have fp2:∀k,k<=pt.9->∀z∈F0 pt d mv.9 k,Fr (Dn*M2) (2^(e+40+p)) z:=λk hk z hz=>(fp k hk z hz).mono (by
  rw[show e+40+p=3+(e+37+p) by lia,aJ 2 3];exact aE _ (show k<=2^3 by lia))
 have DM0:=aY D0 X.m2
 have DMb:Dn*M2<=2^(e+1460):=by
  rw[show e+1460=(e+1300)+160 by lia,aJ];exact aH Db X.b2
 have le5:(F0 pt d mv.9 pt.9).9=mv.9:=EY D.pw _ (ar _);have fe:jZ (e+1460) (e+40+p) (F0 pt d mv.9 pt.9):=#[_,_,DM0,DMb,ar _,fp2 _ (ar _)];have wp:=W.pos;have fo:=yM (d:=(bT mv pt qs rs fs l).1.2) W.sl () (fp2 _ (ar _)) ();have fo2:jZ (b1+(e+1460)) (b1+3+(e+40+p)) (C5 (bT mv pt qs rs fs l).1.1 (bT mv pt qs rs fs l).1.2 (F0 pt d mv.9 pt.9)):=#[_,_,aY () DM0,by rw[aJ];exact aH (aL W.sb) DMb,ar _,fo];have F2:DA (F0 pt d mv.9 pt.9) (C5 (bT mv pt qs rs fs l).1.1 (bT mv pt qs rs fs l).1.2 (F0 pt d mv.9 pt.9)):=#[_,_,_,_,fe,fo2,()];constructor
 ·exact ls
 ·exact lp
 ·exact ldu
 ·exact jZ.rowM (k:=1300) (j:=p) #[N,_,N0,Nb,ar _,hs] ()
 ·exact λz hz=>Dm D0 Db (ar _) () (fu z hz)
 ·exact λz hz=>Dm D0 Db (ar _) () (f1 z hz)
 ·rw[ed];exact λz hz=>Dm D0 Db (ar _) () (fd z hz)
 ·rw[ed];exact λk hk z hz=>Dm DM0 DMb (ar _) () (fp2 k hk z hz)
 ·rw[ed];exact λk hk y hy=>#[Dm X.m2 X.b2 X.v1 () (fy k hk y hy),Dm DM0 DMb (ar _) () (ft k hk y hy)]
 ·rw[ed];exact Ce B0 Bb hr D0 Db (λxs hx=>by rw[bg.mp hx];exact fd) (by rw[S.lr];lia) (by show 1<=20;decide) () ()
 ·exact W.len
 ·exact W.wide
 ·rw[ed];intro xs hx;refine #[?_,_,_,_,_,IC W.pos W.sb W.sl xs hx,fe,()];unfold vv at hx;obtain z|hz|rfl:=av.mp hx;rw[af];exact W.wide z hz
 ·rw[ed];exact F2
 ·rw[ed];exact LZ fe fo2 () ()
 ·rw[ed];exact RH S D O W ld
end
def SK (mv pt:LR9) (qs rs st:List Rat) (pus:LR9):Nat->Rat
 | 0=>0
 | k+1=>SK mv pt qs rs st pus k+(mU rs [pus.getD k []]+mU qs [jS mv pt st pus k])
abbrev O3 (mv pt:LR9) (qs rs fs st:List Rat) (pus:LR9) (T k:Nat):Rat:=RJ pt rs (bT mv pt qs rs fs (T - (k+1))).1 mv.9 (List.zipWith (λx y=>x - y) (pus.getD k []) (k6 mv pt qs rs fs (T - (k+1)+1) (jS mv pt st pus k)))
def toQ (mv pt:LR9) (qs rs fs st:List Rat) (pus:LR9) (T:Nat):Nat->Rat
 | 0=>yw (bT mv pt qs rs fs T).1 st
 | k+1=>toQ mv pt qs rs fs st pus T k+O3 mv pt qs rs fs st pus T k
def ltQ (mv pt:LR9) (qs rs st:List Rat) (pus:LR9):Nat->Rat
 | 0=>mU rs pus
 | k+1=>ltQ mv pt qs rs st pus k+mU qs [jS mv pt st pus k]
structure Uv (mv pt:LR9) (qs rs fs st:List Rat) (pus:LR9) (T:Nat):Prop where
 lq:qs.9=mv.9
 lr:rs.9=pt.9
 lf:fs.9=mv.9
 ls:st.9=mv.9
 lt:pus.9=T
 t8:T<=8
 wp:∀xs∈pus,xs.9=pt.9
 la:∀k,k<=T->(jS mv pt st pus k).9=mv.9
 sq:∀k,k < T->VH mv pt qs rs fs (jS mv pt st pus k) (pus.getD k []) (T - (k+1))
 nx:∀k,k < T->O5 mv pt (jS mv pt st pus k) (pus.getD k [])
 ta:∀k,k<=T->lh (toQ mv pt qs rs fs st pus T k)
 mz:∀k,k < T->lh (O3 mv pt qs rs fs st pus T k)
 e1:En rs pus
 e2:∀k,k<=T->En qs [jS mv pt st pus k]
 e3:En fs [jS mv pt st pus T]
 e4:En qs ((List.range T).map (jS mv pt st pus))
 lz:∀k,k<=T->lh (ltQ mv pt qs rs st pus k)
 cf:OU mv pt st pus
 tot:ltQ mv pt qs rs st pus T+mU fs [jS mv pt st pus T]=toQ mv pt qs rs fs st pus T T
 to2:mU rs pus+mU qs ((List.range T).map (jS mv pt st pus))=ltQ mv pt qs rs st pus T
section
variable {mv pt lk pus:LR9} {qs rs fs st pu ws xs:List Rat} {σ ω b b1 T l w M1 M2 V N p B e k:Nat}
theorem Vz:mU ws [xs]=d9 ws (ju xs):=dc _
section
variable (S:Ek mv pt qs rs 275 150) (D:fI mv pt lk) (WT:p9 mv pt qs rs fs)
include S D WT
theorem Fp:∀t i j,i < mv.9->j < mv.9->j4 (bT mv pt qs rs fs t).1.1 (bT mv pt qs rs fs t).1.2 i j=j4 (bT mv pt qs rs fs t).1.1 (bT mv pt qs rs fs t).1.2 j i
 | 0,i,j,_,_=>by
  obtain _|_|e:=AW D WT;rw[e,e];by_cases h:i=j
  ·rw[if_pos h,if_pos h.symm,h]
  ·rw[if_neg h,if_neg λz=>h z.symm]
 | t+1,_,_,hi,hj=>NJ S D (sU S D WT t) (IZ WT) (Fp t) hi hj
theorem Su (lx:xs.9=mv.9):yw (bT mv pt qs rs fs 0).1 xs=mU fs [xs]:=by
 obtain _|W|e:=AW D WT;have h:yw (bT mv pt qs rs fs 0).1 xs=_:=Ew (wl:=(bT mv pt qs rs fs 0).1.1) (wb:=(bT mv pt qs rs fs 0).1.2) W.len lx;rw[h,FA (by rw[WT.lf,lx]),WT.lf];unfold ir;refine aG λi hi=>?_
 rw[ky hi λj _ ne=>by rw[e,if_neg (Ne.symm ne),cx],e,if_pos rfl];grind
variable (ls:st.9=mv.9) (lT:pus.9=T) (wp:∀xs∈pus,xs.9=pt.9)
include ls lT wp
theorem Pj (hk:k < T):yw (bT mv pt qs rs fs (T - (k+1)+1)).1 (jS mv pt st pus k)+O3 mv pt qs rs fs st pus T k=yw (bT mv pt qs rs fs (T - (k+1))).1 (jS mv pt st pus (k+1))+(mU rs [pus.getD k []]+mU qs [jS mv pt st pus k]):=by
 have lk:(pus.getD k []).9=pt.9:=wp _ (getD_in ());have ek:pus[k]?=some (pus.getD k []):=by rw[ae,ai ()];rfl
 rw[qC ek];exact Pp S D (IZ WT) (sU S D WT _) (Fp S D WT _) (vd ls ()) lk
theorem MI:∀k,k<=T->toQ mv pt qs rs fs st pus T k=SK mv pt qs rs st pus k+yw (bT mv pt qs rs fs (T - k)).1 (jS mv pt st pus k)
 | 0,_=>by
  show yw _ st=0+yw (bT mv pt qs rs fs (T - 0)).1 st
  rw[AR];rfl
 | k+1,hk=>by
  have h:=Pj S D WT ls lT wp (k:=k) ();show toQ mv pt qs rs fs st pus T k+O3 mv pt qs rs fs st pus T k=(SK mv pt qs rs st pus k+(mU rs [pus.getD k []]+mU qs [jS mv pt st pus k]))+_
  rw[MI k (),show T - k=T - (k+1)+1 by lia,Uy,h];grind
theorem RL:∀k,k<=T->ltQ mv pt qs rs st pus k+mU rs (pus.take k)=SK mv pt qs rs st pus k+mU rs pus
 | 0,_=>by
  show mU rs pus+0=0+mU rs pus
  grind
 | k+1,hk=>by
  have ek:pus[k]?=some (pus.getD k []):=by rw[ae,ai ()];rfl
  have ih:=RL k ();rw[take_snoc ek,Fz,<- Vz];show ltQ mv pt qs rs st pus k+mU qs [jS mv pt st pus k]+_=(SK mv pt qs rs st pus k+(mU rs [pus.getD k []]+mU qs [jS mv pt st pus k]))+_
  grind
theorem RK:ltQ mv pt qs rs st pus T+mU fs [jS mv pt st pus T]=toQ mv pt qs rs fs st pus T T:=by
 have h:=RL S D WT ls lT wp T (ar _);rw[aD ()] at h;rw[MI S D WT ls lT wp T (ar _),Nat.sub_self,Su S D WT (vd ls ())];grind
end
theorem Jk:∀k,mU rs pus+mU qs ((List.range k).map (jS mv pt st pus))=ltQ mv pt qs rs st pus k
 | 0=>by show mU rs pus+0=mU rs pus;rw[dc]
 | k+1=>by
  rw[C0,cn,List.map_singleton,Fz,<- Vz,<- Uy,Jk k];rfl
theorem LO (RG:Rg mv pt w) (D:fI mv pt lk) (WT:p9 mv pt qs rs fs) (FW:Rf mv pt T) (ls:st.9=mv.9) (ds:∀z∈st,Dr (max w 6) z) (dp:DrP pt T w pus):∃σ ω b j,O6 mv pt qs rs fs T σ ω b j/\VQ mv pt qs rs fs st T/\Uv mv pt qs rs fs st pus T:=by
 obtain w1|M1|M2|V|X:=Sd RG;have n8:=D.n8;have i4:=D.i4;have S:=MQ X D WT;have O:=IZ WT;have T8:=FW.2.1;obtain lT|hp:=dp;have wp:∀xs∈pus,xs.9=pt.9:=λxs hx=>(hp xs hx).1
 have fl:pus.flatten.9<=8*4:=aj (AJ (m:=4) λxs hx=>by rw[wp xs hx];exact i4) (by rw[lT];exact aE _ T8)
 obtain B|B0|Bb|hB:=nE (c:=10) (l:=st++pus.flatten) (λx hx=>by
  have:Dr (max w 6) x:=by
   rcases aw.mp hx with h | h
   ·exact ds x h
   ·obtain xs|h1|h2:=cS.mp h;exact (hp xs h1).2 x h2
  exact #[aj this.1 (),aj this.2 ()]) ()
 have Bb:B<=2^402:=aj Bb (p2 (by rw[aB];lia));have hs:∀x∈st,Fr B (2^22) x:=λx h=>hB x (aw.mpr (.inl h))
 have hu:∀xs∈pus,∀x∈xs,Fr B (2^22) x:=λxs hx x h=>hB x (aw.mpr (.inr (cS.mpr #[xs,hx,h])))
 have MB0:=aY X.m2 B0
 have MBb:M2*B<=2^562:=by
  rw[show 562=160+402 from rfl,aJ];exact aH X.b2 Bb
 have sts:=X.states D ls wp MB0 MBb (AV _) (λx h=>(hs x h).scaleL M2) hu () ();obtain ⟨N,eN⟩:∃N,M1^8*(M2*B)=N:=#[_,rfl];have N0:0 < N:=by rw[<- eN];exact aY (Nat.pow_pos X.m1) MB0
 have Nb:N<=2^1300:=by
  rw[<- eN];exact aj (GX X.b1 MBb) (p2 ())
 have fx:∀k,k<=T->∀x∈jS mv pt st pus k,Fr N (2^400) x:=λk hk x h=>Fr.up ((sts k ()).1 x h) (by
  rw[<- eN];exact Nat.mul_dvd_mul (Nat.pow_dvd_pow _ ()) (AV _)) (p2 ())
 have fu:∀xs∈pus,∀x∈xs,Fr N (2^400) x:=λxs hx x h=>Fr.up (hu xs hx x h) (by
  rw[<- eN];exact gR (bZ _ _) (bZ _ _)) (p2 ())
 have gu:∀k,∀x∈pus.getD k [],Fr N (2^400) x:=λk x h=>by
  rw[ae] at h;cases e:pus[k]? with
  | none=>rw[e] at h;cases h
  | some xs=>rw[e] at h;exact fu xs (ao e) x h
 have gl:∀k,k < T->(pus.getD k []).9=pt.9:=λk hk=>wp _ (getD_in ())
 obtain Bw|W0|Wb|hW:=nE (c:=10) (l:=iQ qs rs++fs) (λx hx=>by
  have:Dr 1000 x:=(aw.mp hx).elim (Kk WT x) λh=>(WT.f0 x h).2
  exact #[aj this.1 (),aj this.2 ()]) ()
 have lo:(iQ qs rs++fs).9<=20:=by unfold iQ;rw[aB,aB,WT.lr,WT.lq,WT.lf];lia
 have Wb:Bw<=2^210:=aj Wb (p2 ());have wr:∀z∈rs,Fr Bw (2^22) z:=λz h=>hW z (aw.mpr (.inl (aw.mpr (.inl h))))
 have wq:∀z∈qs,Fr Bw (2^22) z:=λz h=>hW z (aw.mpr (.inl (aw.mpr (.inr h))))
 have wf:∀z∈fs,Fr Bw (2^22) z:=λz h=>hW z (aw.mpr (.inr h))
 have lq:=WT.lq;have lr:=WT.lr;have lf:=WT.lf;have la:∀k,k<=T->(jS mv pt st pus k).9=mv.9:=λk hk=>vd ls ()
 have one:∀{ys:List Rat},(∀x∈ys,Fr N (2^400) x)->∀xs∈[ys],∀x∈xs,Fr N (2^400) x:=λh xs hx=>by rw[bg.mp hx];exact h
 obtain ⟨E,eE⟩:∃E,Bw*(N*N)=E:=#[_,rfl];have E0:0 < E:=by rw[<- eE];exact aY W0 (aY N0 N0)
 have Eb:E<=2^2810:=by
  rw[<- eE,show 2810=210+(1300+1300) from rfl,aJ,aJ 2 1300];exact aH Wb (aH Nb Nb)
 have e829:2^7*(2^22*(2^400*2^400))=2^829:=by rw[<- aJ,<- aJ,<- aJ]
 have ef:∀{ws:List Rat} {rows:LR9},(∀z∈ws,Fr Bw (2^22) z)->(∀xs∈rows,∀x∈xs,Fr N (2^400) x)->ws.9<=8->rows.9<=16->Fr E (2^829) (mU ws rows):=λh1 h2 h3 h4=>by
  have:=RW h1 h2 h3 h4;rwa [eE,e829] at this
 have two:∀{a:Nat},2^a+2^a=2^(a+1):=λ{a}=>by rw[jf,Nat.mul_two]
 have stage:∀k,k < T->Fr E (2^830) (mU rs [pus.getD k []]+mU qs [jS mv pt st pus k]):=λk hk=>by
  have:=(ef wr (one (gu k)) () (by show 1<=16;decide)).add (ef wq (one (fx k ())) () (by show 1<=16;decide));rwa [two] at this
 have sg:∀k,k<=T->Fr E (k*2^830) (SK mv pt qs rs st pus k):=λk=>by
  induction k with
  | zero=>intro _;exact Fr.zero
  | succ k ih =>
   intro hk;rw[dP];exact (ih ()).add (stage k hk)
 have sg4:∀k,k<=T->Fr E (2^840) (SK mv pt qs rs st pus k):=λk hk=>(sg k hk).mono (by
  rw[show 840=10+830 from rfl,aJ 2 10];exact aE _ (show k<=2^10 by lia))
 have lt4:∀k,k<=T->Fr E (2^841) (ltQ mv pt qs rs st pus k):=λk hk=>by
  have h:∀k,k<=T->Fr E (2^829+k*2^829) (ltQ mv pt qs rs st pus k):=λk=>by
   induction k with
   | zero=>intro _;rw[Nat.zero_mul,Nat.add_zero];exact ef wr fu () ()
   | succ k ih =>
    intro hk;rw[dP,<- Nat.add_assoc];exact (ih ()).add (ef wq (one (fx k ())) () (by show 1<=16;decide))
  refine (h k hk).mono ?_;rw[pe,<- dP,show 841=12+829 from rfl,aJ 2 12];exact aE _ (show k+1<=2^12 by lia)
 have all:∀(b b1:Nat) (e:Nat->Nat),(∀t,t<=T->vt mv.9 (bT mv pt qs rs fs t).1.1 (bT mv pt qs rs fs t).1.2 b)->(∀t,t < T->vt mv.9 (bT mv pt qs rs fs t).1.1 (bT mv pt qs rs fs t).1.2 b1)->b<=1000*890->b1<=1000*130->(∀l,1<=l->l<=T->Ux mv pt qs rs fs l (e l))->oF e T T<=1000*890->∃σ ω b j,O6 mv pt qs rs fs T σ ω b j/\VQ mv pt qs rs fs st T/\Uv mv pt qs rs fs st pus T:=λb b1 e hW hV hb h1 hd hE=>by
  have wqf:∀k,k<=T->∃Q,0 < Q/\Q<=2^b/\Fr (E*Q) (2^(b+806)) (yw (bT mv pt qs rs fs (T - k)).1 (jS mv pt st pus k)):=λk hk=>by
   have W:=hW (T - k) ();have W0':=W.pos;refine #[(bT mv pt qs rs fs (T - k)).1.2.natAbs,(),aL W.sb,?_];refine Fr.up (UC W.pos W.sl (by rw[la k hk];exact n8) (fx k hk)) ?_ (p2 ());rw[<- eE,show ∀a b c:Nat,a*(b*b)*c=(b*(c*b))*a from λa b c=>by rw[d5 c b,<- dM b b c,d5 a,dM,d5 a c,<- dM]];exact K3 _ _
  have tf:∀k,k<=T->∃Q,0 < Q/\Q<=2^b/\Fr (E*Q) (2^(b+850)) (toQ mv pt qs rs fs st pus T k):=λk hk=>by
   obtain Q|q0|qb|h:=wqf k hk;refine #[Q,q0,qb,?_];rw[MI S D WT ls lT wp k hk];have:=((sg4 k hk).scale Q).mono (p2 (show 840<=b+849 by lia)) |>.add (h.mono (p2 (show b+806<=b+849 by lia)))
   rwa [two] at this
  refine #[275,150,b,_,Tt S D O T8 hW hV () () (),?_,?_]
  ·exact Ua X D hd (hW T (ar _)) () T8 hE ls B0 (aj Bb (p2 ())) λx h=>(hs x h).mono (p2 ())
  refine #[lq,lr,lf,ls,lT,T8,wp,la,λk hk=>?_,λk hk=>?_,λk hk=>?_,λk hk=>?_,?_,λk hk=>?_,?_,?_,λk hk=>?_,λk hk=>?_,RK S D WT ls lT wp,Jk T]
  ·exact Pq X S D O (hV _ ()) h1 N0 Nb (ar _) (fx k ()) (gu k) (la k ()) (gl k hk) W0 Wb wr
  ·exact (sts k ()).2 _ (by rw[ae,ai ()];rfl)
  ·obtain Q|q0|qb|h:=tf k hk;exact Dm (a:=2810+b) (aY E0 q0) (by rw[aJ 2 2810];exact aH Eb qb) (ar _) () h
  ·obtain Q|q0|qb|h:=tf k ();obtain R|r0|rb|h':=tf (k+1) hk
   have e:O3 mv pt qs rs fs st pus T k=toQ mv pt qs rs fs st pus T (k+1) - toQ mv pt qs rs fs st pus T k:=by
    show _=(toQ mv pt qs rs fs st pus T k+O3 mv pt qs rs fs st pus T k) - _
    grind
   rw[e];have h1:=h.scale R;have h2:=h'.scale Q;rw[dM,d5 R Q,<- dM] at h2;have:=h2.sub h1;rw[two] at this;exact Dm (a:=2810+b+b) (aY (aY E0 q0) r0) (by rw[aJ 2 (2810+b),aJ 2 2810];exact aH (aH Eb qb) rb) (ar _) () this
  ·exact Ce W0 Wb wr N0 Nb fu () () () ()
  ·exact Ce W0 Wb wq N0 Nb (one (fx k hk)) () (by show 1<=20;decide) () ()
  ·exact Ce W0 Wb wf N0 Nb (one (fx T (ar _))) () (by show 1<=20;decide) () ()
  ·refine Ce (p:=400) W0 Wb wq N0 Nb (λxs hx=>?_) () (by rw[af,bu];lia) () ();obtain k|hk|rfl:=av.mp hx;exact fx k (aL (gV.mp hk))
  ·exact Dm E0 Eb (ar _) () (lt4 k hk)
  ·exact #[N,2^400,N0,aj Nb (p2 ()),p2 (),fx k (),fu]
 by_cases T4:T<=4
 ·have c4:cB 4<=1000*890:=()
  have c3:cB 3<=1000*130:=()
  have hE:∀T,T<=4->oF cB T T<=1000*890:=()
  refine all (cB 4) (cB 3) cB (λt ht=>(sU S D WT t).mono (KQ ())) (λt ht=>(sU S D WT t).mono (KQ ())) c4 c3 (λl l1 l2=>?_) (hE T T4)
  match l,l1 with
  | t+1,_=>exact wR S D O (sU S D WT t)
 ·obtain ⟨_,h⟩|T8|h3|_:=FW
  have n2:mv.9<=2:=by
   rcases jO mv.9 3 with q | q
   ·lia
   ·exact absurd (h3 q) T4
  obtain hd|_:=h.resolve_left ()
  have gf:∀l:LR9,(∀xs∈l,xs∈mv++pt)->GF 2520 1000 l:=λl hl xs hx x hx'=>by
   have:=hd xs (hl xs hx) x hx';exact (Fr.own x (aL this.2)).dvd (FF this.1)
  have C:=Jz S D WT n2 (gf mv λxs hx=>aw.mpr (.inl hx)) (gf pt λxs hx=>aw.mpr (.inr hx));have hE:∀T,T<=8->oF (λ_=>5*(5700+(2*275+150+20))+1) T T<=1000*890:=()
  refine all 5700 5700 (λ_=>5*(5700+(2*275+150+20))+1) (λt ht=>(C t ()).1) (λt ht=>(C t ()).1) () () (λl l1 l2=>?_) (hE T T8)
  match l,l1 with
  | t+1,_=>exact wR S D O (C t ()).1
end
def Mv (K:FG9) (H0 H:Hp) (C Cc x kn:Addr) (mv pt lk:LR9) (qs rs fs:List Rat):Prop:=∃dx sy a1 a2 a3,H x=some (.ins Cc dx (p5 sy a1 a2 a3 kn))/\ou K H0 H C sy mv pt lk/\cu K H a1 qs/\cu K H a2 rs/\cu K H a3 fs
theorem Mv.same {K:FG9} (h:Mv K H0 H C Cc x kn mv pt lk qs rs fs) (s:aA H H'):Mv K H0 H' C Cc x kn mv pt lk qs rs fs:=by
 obtain dx|sy|a1|a2|a3|g|S|R1|R2|R3:=h;exact #[dx,sy,a1,a2,a3,s _ _ g,S.same s,R1.same s,R2.same s,R3.same s]
theorem Mv.co {K:FG9} (h:Mv K H0 H C Cc x kn mv pt lk qs rs fs):O7 K H0 H C Cc x kn mv pt lk qs rs:=by
 obtain dx|sy|a1|a2|a3|g|S|R1|R2|R3:=h;exact #[dx,sy,a1,a2,a3,g,S,R1,R2]
theorem VD:(p5 sy a1 a2 a3 kn).lookup ("last_weights":Str)=some (.ref a3):=by
 unfold p5;rw[aQ,if_neg (by decide +kernel),aQ,if_pos rfl]
def Ib (K:FG9) (H:Hp) (rt:Addr) (qs rs fs:List Rat):Prop:=∃a1 a2 a3,H rt=some (.lst [.ref a1,.ref a2,.ref a3])/\cu K H a1 qs/\cu K H a2 rs/\cu K H a3 fs
theorem Ib.same {K:FG9} (h:Ib K H rt qs rs fs) (s:aA H H'):Ib K H' rt qs rs fs:=by
 obtain a1|a2|a3|g|R1|R2|R3:=h;exact #[a1,a2,a3,s _ _ g,R1.same s,R2.same s,R3.same s]
section
variable {K:FG9} {H H':Hp} {x:Rat} {v:V} {xs:List V} {A:Addr->Bool} {k:Nat}
theorem QL (h:xs.9=k+1):qP xs (some (-1)) none=xs.drop k:=by
 unfold qP
 have e:HT.EV xs.9 0 (some (-1))=k:=by
  show (if (-1:Int) < 0 then ((-1:Int)+(xs.9:Int)).toNat else min (-1:Int).toNat xs.9)=k
  rw[if_pos (),h]
  lia
 rw[e,HT.uy];exact aD (by rw[fh];lia)
theorem QM (h:xs.9=k+1):qP xs none (some (-1))=xs.take k:=by
 unfold qP
 have e:HT.EV xs.9 xs.9 (some (-1))=k:=by
  show (if (-1:Int) < 0 then ((-1:Int)+(xs.9:Int)).toNat else min (-1:Int).toNat xs.9)=k
  rw[if_pos (),h]
  lia
 rw[e,HT.uy,List.drop_zero,Nat.sub_zero]
theorem bS.hid (h:bS K H x v) (L:mV A H):bS K (dS A H) x v:=by
 obtain q|e|s:=h;exact #[q,e,Az s L]
end
structure LC (mv pt:LR9) (qs rs fs st:List Rat) (pus:LR9) (T:Nat):Prop where
 lq:qs.9=mv.9
 lr:rs.9=pt.9
 lf:fs.9=mv.9
 ls:st.9=mv.9
 lt:pus.9=T
 t8:T<=8
 wp:∀xs∈pus,xs.9=pt.9
 la:∀k,k<=T->(jS mv pt st pus k).9=mv.9
 nx:∀k,k < T->O5 mv pt (jS mv pt st pus k) (pus.getD k [])
 e1:En rs pus
 e2:∀k,k<=T->En qs [jS mv pt st pus k]
 e3:En fs [jS mv pt st pus T]
 e4:En qs ((List.range T).map (jS mv pt st pus))
 lz:∀k,k<=T->lh (ltQ mv pt qs rs st pus k)
 cf:OU mv pt st pus
 to2:mU rs pus+mU qs ((List.range T).map (jS mv pt st pus))=ltQ mv pt qs rs st pus T
def RZ (mv pt:LR9) (qs rs fs st:List Rat) (pus:LR9) (T:Nat):Rat:=ltQ mv pt qs rs st pus T+mU fs [jS mv pt st pus T]
def nN (mv pt:LR9) (qs rs fs:List Rat) (M1 M2 B T:Nat):Nat->Nat
 | 0=>B
 | i+1=>M1*(M2*((bT mv pt qs rs fs (T - i)).2.2.natAbs*nN mv pt qs rs fs M1 M2 B T i))
section
variable {mv pt lk pus:LR9} {qs rs fs st pu ws xs:List Rat} {σ ω b b1 T l w M1 M2 V N p B k:Nat} {e:Nat->Nat}
theorem Uv.lc (L:Uv mv pt qs rs fs st pus T):LC mv pt qs rs fs st pus T:=#[L.lq,L.lr,L.lf,L.ls,L.lt,L.t8,L.wp,L.la,L.nx,L.e1,L.e2,L.e3,L.e4,L.lz,L.cf,L.to2]
theorem Rh (S:Ek mv pt qs rs 275 150) (D:fI mv pt lk) (WT:p9 mv pt qs rs fs) (L:Uv mv pt qs rs fs st pus T):∀k,k<=T->yw (bT mv pt qs rs fs T).1 st<=toQ mv pt qs rs fs st pus T k
 | 0,_=>yq
 | k+1,hk=>by
  have h:=Rh S D WT L k ();have n:=(L.sq k hk).nn.1;show _<=toQ mv pt qs rs fs st pus T k+O3 mv pt qs rs fs st pus T k
  have n:0<=O3 mv pt qs rs fs st pus T k:=n;grind
theorem VC (S:Ek mv pt qs rs 275 150) (D:fI mv pt lk) (WT:p9 mv pt qs rs fs) (L:Uv mv pt qs rs fs st pus T):yw (bT mv pt qs rs fs T).1 st<=RZ mv pt qs rs fs st pus T:=by
 show _<=ltQ mv pt qs rs st pus T+mU fs [jS mv pt st pus T]
 rw[L.tot];exact Rh S D WT L T (ar _)
theorem Cz:(AM mv pt qs rs fs st T).9=T:=by unfold AM;rw[af,bu]
theorem OI (hi:i < T):(AM mv pt qs rs fs st T)[i]?=some (k6 mv pt qs rs fs (T - i) (oG mv pt qs rs fs st T i)):=by
 unfold AM;rw[ay,bY hi];rfl
theorem JU:∀i,i<=T->jS mv pt st (AM mv pt qs rs fs st T) i=oG mv pt qs rs fs st T i
 | 0,_=>rfl
 | i+1,h=>by rw[qC (OI h),JU i ()];rfl
theorem TY (S:Ek mv pt qs rs 275 150) (D:fI mv pt lk) (WT:p9 mv pt qs rs fs) (ls:st.9=mv.9) (wp:∀xs∈AM mv pt qs rs fs st T,xs.9=pt.9):RZ mv pt qs rs fs st (AM mv pt qs rs fs st T) T=yw (bT mv pt qs rs fs T).1 st:=by
 show ltQ mv pt qs rs st _ T+mU fs [jS mv pt st _ T]=_
 rw[RK S D WT ls Cz wp]
 have go:∀k,k<=T->toQ mv pt qs rs fs st (AM mv pt qs rs fs st T) T k=yw (bT mv pt qs rs fs T).1 st:=λk=>by
  induction k with
  | zero=>intro _;rfl
  | succ k ih =>
   intro hk
   have eg:(AM mv pt qs rs fs st T).getD k []=k6 mv pt qs rs fs (T - (k+1)+1) (jS mv pt st (AM mv pt qs rs fs st T) k):=by
    rw[ae,OI hk,JU k (),show T - k=T - (k+1)+1 by lia];rfl
   have ld:(k6 mv pt qs rs fs (T - (k+1)+1) (jS mv pt st (AM mv pt qs rs fs st T) k)).9=pt.9:=by
    rw[<- eg];exact wp _ (getD_in (by rw[Cz];lia))
   show toQ mv pt qs rs fs st _ T k+O3 mv pt qs rs fs st _ T k=_
   rw[ih ()];unfold O3;rw[eg]
   have z:=(RH (d:=List.zipWith (λx y=>x - y) (k6 mv pt qs rs fs (T - (k+1)+1) (jS mv pt st (AM mv pt qs rs fs st T) k)) (k6 mv pt qs rs fs (T - (k+1)+1) (jS mv pt st (AM mv pt qs rs fs st T) k))) S D (IZ WT) (sU S D WT (T - (k+1))) (by rw[bM,ld,K2])).2.mpr (by
    refine mF (by rw[c8]) λi hi _=>?_
    rw[gX,List.getElem_replicate];grind)
   rw[z,dc]
 exact go T (ar _)
theorem Je {i:Nat}:∀{k:Nat},i<=k->nN mv pt qs rs fs M1 M2 B T i∣nN mv pt qs rs fs M1 M2 B T k
 | 0,h=>by rw[show i=0 by lia];exact AV _
 | k+1,h=>by
  by_cases q:i=k+1
  ·rw[q];exact AV _
  ·exact gR (Je (show i<=k by lia)) (gR (bZ _ _) (gR (bZ _ _) (bZ _ _)))
theorem Uc (X:Bd mv pt M1 M2 V 80 160 33) (D:fI mv pt lk) (hd:∀l,1<=l->l<=T->Ux mv pt qs rs fs l (e l)) (T8:T<=8) (hE:oF e T T<=1000*890) (ls:st.9=mv.9) (B0:0 < B) (Bb:B<=2^600) (hs:∀x∈st,Fr B (2^30) x):∃N P,0 < N/\N<=2^(600+oF e T T+1920)/\P=30+oF e T T+320/\(∀i,i<=T->∀x∈oG mv pt qs rs fs st T i,Fr N (2^P) x)/\∀xs∈AM mv pt qs rs fs st T,∀x∈xs,Fr N (2^P) x:=by
 have n8:=D.n8;have A:=Se X D hd T8 hE ls B0 Bb hs
 have go:∀i,i<=T->0 < nN mv pt qs rs fs M1 M2 B T i/\nN mv pt qs rs fs M1 M2 B T i<=2^(600+oF e T i+240*i)/\(∀x∈oG mv pt qs rs fs st T i,Fr (nN mv pt qs rs fs M1 M2 B T i) (2^(30+oF e T i+40*i)) x)/\∀k,k < i->∀x∈k6 mv pt qs rs fs (T - k) (oG mv pt qs rs fs st T k),Fr (nN mv pt qs rs fs M1 M2 B T (k+1)) (2^(30+oF e T (k+1)+40*(k+1))) x:=λi=>by
  induction i with
  | zero=>exact λ_=>#[B0,aj Bb (p2 ()),λx h=>(hs x h).mono (p2 ()),λk hk=>absurd hk (tM k)]
  | succ i ih =>
   intro hi;obtain N0|Nb|hx|hk:=ih ();have U:=hd (T - i) () ();have es:oF e T (i+1)=oF e T i+e (T - i):=rfl;have eT:=GD (e:=e) (T:=T) (show i+1<=T by lia);have Up:=U.pos;have hu:∀u∈k6 mv pt qs rs fs (T - i) (oG mv pt qs rs fs st T i),Fr ((bT mv pt qs rs fs (T - i)).2.2.natAbs*nN mv pt qs rs fs M1 M2 B T i) (2^(e (T - i)+3+(30+oF e T i+40*i))) u:=yM U.sz () hx (by rw[(A i ()).1];exact n8);have dn:0 < (bT mv pt qs rs fs (T - i)).2.2.natAbs:=()
   have db:(bT mv pt qs rs fs (T - i)).2.2.natAbs<=2^e (T - i):=by
    have:=aL U.sb;rwa [pj] at this
   obtain _|_|_|_|_|st':=A i ();have lu:=(st' hi).1;have N1:0 < nN mv pt qs rs fs M1 M2 B T (i+1):=aY X.m1 (aY X.m2 (aY dn N0))
   have Nb1:nN mv pt qs rs fs M1 M2 B T (i+1)<=2^(600+oF e T (i+1)+240*(i+1)):=by
    refine aj (aH X.b1 (aH X.b2 (aH db Nb))) ?_;rw[<- aJ,<- aJ,<- aJ];exact p2 ()
   have M20:0 < M2*((bT mv pt qs rs fs (T - i)).2.2.natAbs*nN mv pt qs rs fs M1 M2 B T i):=aY X.m2 (aY dn N0)
   have M2b:M2*((bT mv pt qs rs fs (T - i)).2.2.natAbs*nN mv pt qs rs fs M1 M2 B T i)<=2^(160+(e (T - i)+(600+oF e T i+240*i))):=by
    rw[aJ,aJ 2 (e (T - i))];exact aH X.b2 (aH db Nb)
   have hx':∀x∈oG mv pt qs rs fs st T i,Fr (M2*((bT mv pt qs rs fs (T - i)).2.2.natAbs*nN mv pt qs rs fs M1 M2 B T i)) (2^(e (T - i)+3+(30+oF e T i+40*i))) x:=λx h=>Fr.up (hx x h) (gR (bZ _ _) (bZ _ _)) (p2 ())
   obtain _|mo:=X.next D (A i ()).1 lu M20 (bZ _ _) hx' hu M2b () ();refine #[N1,Nb1,λx h=>(mo x h).mono (p2 ()),λk hk2 x h=>?_];by_cases q:k=i
   ·subst q;exact Fr.up (hu x h) (gR (bZ _ _) (bZ _ _)) (p2 ())
   ·exact hk k () x h
 obtain N0|Nb|_|hk:=go T (ar _);have le:∀i,i<=T->oF e T i<=oF e T T:=λi hi=>GD hi
 refine #[nN mv pt qs rs fs M1 M2 B T T,_,N0,aj Nb (p2 ()),rfl,λi hi x h=>Fr.up ((go i hi).2.2.1 x h) (Je hi) (p2 (by have:=le i hi;lia)),λxs hx x h=>?_];unfold AM at hx;obtain i|hi|rfl:=av.mp hx;have hi:=gV.mp hi;exact Fr.up (hk i hi x h) (Je (show i+1<=T by lia)) (p2 (by have:=le (i+1) ();lia))
theorem AK {M e:Nat} (M0:0 < M) (Mb:M<=2^210) (hw:∀w∈ws,Fr M (2^22) w) (N0:0 < N) (Nb:N<=2^e) (hr:∀xs∈rows,∀x∈xs,Fr N (2^p) x) (l8:ws.9<=8) (l20:rows.9<=20) (he:2*e<=1000*3880) (hp:2*e+2*p<=1000*3880):En ws rows:=by
 refine #[M,2^22*M,N,2^p*N,M0,N0,aY (dG _) M0,aY (dG _) N0,λw h=>Tp.of (hw w h) (ar _),λxs hx x h=>Tp.of (hr xs hx x h) (ar _),?_,?_,l8,l20]
 ·refine aj (aH Mb (aH Nb Nb)) ?_;rw[<- aJ,<- aJ];exact p2 ()
 ·refine aj (cg _ (aH (cg _ Mb) (aH (cg _ Nb) (cg _ Nb)))) ?_;rw[show 1024=2^10 from rfl,<- aJ,<- aJ,<- aJ,<- aJ,<- aJ];exact p2 ()
theorem Vr (D:fI mv pt lk) (WT:p9 mv pt qs rs fs) (ls:st.9=mv.9) (lT:pus.9=T) (T8:T<=8) (wp:∀xs∈pus,xs.9=pt.9) (nx:∀k,k < T->O5 mv pt (jS mv pt st pus k) (pus.getD k [])) (N0:0 < N) (Nb:N<=2^E) (hE:E<=1000*900) (hP:P<=1000*900) (fx:∀k,k<=T->∀x∈jS mv pt st pus k,Fr N (2^P) x) (fu:∀xs∈pus,∀x∈xs,Fr N (2^P) x):LC mv pt qs rs fs st pus T:=by
 have n8:=D.n8;have i4:=D.i4
 obtain Bw|W0|Wb|hW:=nE (c:=10) (l:=iQ qs rs++fs) (λx hx=>by
  have:Dr 1000 x:=(aw.mp hx).elim (Kk WT x) λh=>(WT.f0 x h).2
  exact #[aj this.1 (),aj this.2 ()]) ()
 have lo:(iQ qs rs++fs).9<=20:=by unfold iQ;rw[aB,aB,WT.lr,WT.lq,WT.lf];lia
 have Wb:Bw<=2^210:=aj Wb (p2 ());have wr:∀z∈rs,Fr Bw (2^22) z:=λz h=>hW z (aw.mpr (.inl (aw.mpr (.inl h))))
 have wq:∀z∈qs,Fr Bw (2^22) z:=λz h=>hW z (aw.mpr (.inl (aw.mpr (.inr h))))
 have wf:∀z∈fs,Fr Bw (2^22) z:=λz h=>hW z (aw.mpr (.inr h))
 have lq:=WT.lq;have lr:=WT.lr;have lf:=WT.lf;have one:∀{ys:List Rat},(∀x∈ys,Fr N (2^P) x)->∀xs∈[ys],∀x∈xs,Fr N (2^P) x:=λh xs hx=>by rw[bg.mp hx];exact h
 have E0:0 < Bw*(N*N):=aY W0 (aY N0 N0)
 have Eb:Bw*(N*N)<=2^(210+(E+E)):=by
  rw[aJ,aJ 2 E];exact aH Wb (aH Nb Nb)
 have ev:2^7*(2^22*(2^P*2^P))=2^(29+(P+P)):=by rw[<- aJ,<- aJ,<- aJ];congr 1;lia
 have ef:∀{ws:List Rat} {rows:LR9},(∀z∈ws,Fr Bw (2^22) z)->(∀xs∈rows,∀x∈xs,Fr N (2^P) x)->ws.9<=8->rows.9<=16->Fr (Bw*(N*N)) (2^(29+(P+P))) (mU ws rows):=λh1 h2 h3 h4=>by
  have:=RW h1 h2 h3 h4;rwa [ev] at this
 refine #[lq,lr,lf,ls,lT,T8,wp,λk hk=>vd ls (),nx,?_,λk hk=>?_,?_,?_,λk hk=>?_,λk hk=>?_,Jk T]
 ·exact AK W0 Wb wr N0 Nb fu () () () ()
 ·exact AK W0 Wb wq N0 Nb (one (fx k hk)) () (by show 1<=20;decide) () ()
 ·exact AK W0 Wb wf N0 Nb (one (fx T (ar _))) () (by show 1<=20;decide) () ()
 ·refine AK (p:=P) W0 Wb wq N0 Nb (λxs hx=>?_) () (by rw[af,bu];lia) () ();obtain k|hk|rfl:=av.mp hx;exact fx k (aL (gV.mp hk))
 ·have h:∀k,k<=T->Fr (Bw*(N*N)) (2^(29+(P+P))+k*2^(29+(P+P))) (ltQ mv pt qs rs st pus k):=λk=>by
   induction k with
   | zero=>intro _;rw[Nat.zero_mul,Nat.add_zero];exact ef wr fu () ()
   | succ k ih =>
    intro hk;rw[dP,<- Nat.add_assoc];exact (ih ()).add (ef wq (one (fx k ())) () (by show 1<=16;decide))
  refine Dm (c:=41+(P+P)) E0 Eb ?_ () (h k hk);rw[pe,<- dP,show 41+(P+P)=12+(29+(P+P)) by lia,aJ 2 12];exact aE _ (show k+1<=2^12 by lia)
 ·exact #[N,2^P,N0,aj Nb (p2 ()),p2 (),fx k (),fu]
end
inductive Ed where
 | fl (v:V)
 | row (qs:List Rat)
 | grid (rs:LR9)
def Ed.ok:Ed->Prop
 | .fl v=>RU v=true
 | .row qs=>qs.9<=100
 | .grid rs=>rs.9<=100/\∀qs∈rs,qs.9<=100
def Sl (K:FG9) (H0 H:Hp):Ed->V->Prop
 | .fl v,x=>x=v
 | .row qs,x=>∃p,x=.ref p/\H0 p=none/\cu K H p qs
 | .grid rs,x=>∃p,x=.ref p/\H0 p=none/\bQ K H0 H p rs
theorem Sl.same {K:FG9} (h:Sl K H0 H d x) (s:aA H H'):Sl K H0 H' d x:=by
 cases d with
 | fl v=>exact h
 | row qs=>obtain p|a|b|c:=h;exact #[p,a,b,c.same s]
 | grid rs=>obtain p|a|b|c:=h;exact #[p,a,b,c.same s]
def J5 (K:FG9) (n:Nat):Sp:=match n with
 | 0=>λ_ _ _ _=>False
 | i+1=>λvs H Q _=>∃x,vs=[x] /\
  ((RU x=true/\∀H',aA H H'->Q x H')
  \/ (1<=i/\∃q,bS K H q x/\∀r H',aA H H'->bS K H' q (.ref r)->Q (.ref r) H')
  \/ (2<=i/\∃p qs,x=.ref p/\cu K H p qs/\qs.9<=100/\∀r H',H r=none->aA H H'->cu K H' r qs->Q (.ref r) H')
  \/ (3<=i/\∃p H0 rs,x=.ref p/\bQ K H0 H p rs/\rs.9<=100/\(∀qs∈rs,qs.9<=100)/\∀r H',H r=none->aA H H'->bQ K H H' r rs->Q (.ref r) H')
  \/ (4<=i/\∃t xs H0 ds,x=.ref t/\nG K H t xs/\Paired (Sl K H0 H) ds xs/\ds.9<=10/\(∀d∈ds,Ed.ok d)/\∀r ys H',aA H H'->H' r=some (.tup ys)->Paired (Sl K H H') ds ys->Q (.ref r) H'))
section
variable {K:FG9} {a:Addr} {xs:List V} {g:TG} {tf:TT} {te:TE} {Q:VK} {σ₀:St} {H:Hp} {α β:Type}
theorem D4 {F:Hp->α->V->Prop} (G:Hp->β->V->Prop) (f:α->β) (hx:nG K H a xs) (pf:Paired (F H) as xs) (hl:as.9<=1000)
  (hF:∀{H H' c x},F H c x->aA H H'->F H' c x) (hG:∀{H H' c x},G H c x->aA H H'->G H' c x)
  (hs:∀(i:Nat) c x H' NY NN,as[i]?=some c->aA H H'->F H' c x->(∀y H2,aA H' H2->G H2 (f c) y->NY y H2)->nI σ₀ g tf te x H' NY NN)
  (hd:∀ys H' p,H p=none->aA H H'->H' p=some (.lst ys)->Paired (G H') (as.map f) ys->(∃H2,H2 p=none/\Paired (G H2) (as.map f) ys)->Q (.ref p) H'):oA (Si K a) σ₀ g tf te Q H:=by
 have lx:=pf.9;refine OF (K:=K) (xs:=xs) (λi ys H'=>aA H H'/\Paired (G H') ((as.take i).map f) ys) (aL (bD ())) #[aA.refl _,.nil] (λi ys H' _ #[s,_]=>s.sqt hx) ?_ ?_
 ·rintro i x ys H' hx' hlen ⟨s,pr⟩;obtain c|ec|hc:=cE pf hx';refine hs i c x H' _ _ ec s (hF hc s) λy H2 s2 gy=>#[s.trans s2,?_]
  rw[take_snoc ec,cn];exact cA (Paired.imp' (λ_ _ z=>hG z s2) pr) (.cons gy .nil)
 ·rintro ys H' hy ⟨s,pr⟩ p hp;rw[aD ()] at pr;exact hd ys _ p (s.none hp) (s.trans (aA.new hp)) aK (Paired.imp' (λ_ _ z=>hG z (aA.new hp)) pr) #[H',hp,pr]
end
section
variable {mv pt lk pus:LR9} {qs rs fs st:List Rat} {T w b:Nat}
theorem QE (S:Ek mv pt qs rs 275 150) (D:fI mv pt lk) (WT:p9 mv pt qs rs fs) (FW:Rf mv pt T):∃e:Nat->Nat,(∀l,1<=l->l<=T->Ux mv pt qs rs fs l (e l))/\oF e T T<=1000*890/\vt mv.9 (bT mv pt qs rs fs T).1.1 (bT mv pt qs rs fs T).1.2 (1000*890):=by
 have O:=IZ WT;by_cases T4:T<=4
 ·have c4:cB 4<=1000*890:=()
  have hE:∀T,T<=4->oF cB T T<=1000*890:=()
  refine #[cB,λl l1 l2=>?_,hE T T4,(sU S D WT T).mono (aj (KQ T4) c4)]
  match l,l1 with
  | t+1,_=>exact wR S D O (sU S D WT t)
 ·obtain ⟨_,h⟩|T8|h3|_:=FW
  have n2:mv.9<=2:=by
   rcases jO mv.9 3 with q | q
   ·lia
   ·exact absurd (h3 q) T4
  obtain hd|_:=h.resolve_left ()
  have gf:∀l:LR9,(∀xs∈l,xs∈mv++pt)->GF 2520 1000 l:=λl hl xs hx x hx'=>by
   have:=hd xs (hl xs hx) x hx';exact (Fr.own x (aL this.2)).dvd (FF this.1)
  have C:=Jz S D WT n2 (gf mv λxs hx=>aw.mpr (.inl hx)) (gf pt λxs hx=>aw.mpr (.inr hx));have hE:∀T,T<=8->oF (λ_=>5*(5700+(2*275+150+20))+1) T T<=1000*890:=()
  refine #[λ_=>5*(5700+(2*275+150+20))+1,λl l1 l2=>?_,hE T T8,(C T T8).1.mono ()]
  match l,l1 with
  | t+1,_=>exact wR S D O (C t ()).1
structure R67 (mv pt:LR9) (qs rs fs st:List Rat) (pus:LR9) (T:Nat):Prop where
 dr:LC mv pt qs rs fs st pus T
 du:LC mv pt qs rs fs st (AM mv pt qs rs fs st T) T
 be:VQ mv pt qs rs fs st T
 cd:RZ mv pt qs rs fs st (AM mv pt qs rs fs st T) T=yw (bT mv pt qs rs fs T).1 st
 ge:yw (bT mv pt qs rs fs T).1 st<=RZ mv pt qs rs fs st pus T
 sb:∀xs∈AM mv pt qs rs fs st T,∀x∈xs,lh x
 sw:lh (yw (bT mv pt qs rs fs T).1 st)
 sc:lh (RZ mv pt qs rs fs st pus T)
 f1:∀xs∈vv (bT mv pt qs rs fs T).1.1 (bT mv pt qs rs fs T).1.2,xs.9=mv.9/\DA xs st/\∀x∈xs,lh x
 lw:(bT mv pt qs rs fs T).1.1.length=mv.9
 ww:∀z∈(bT mv pt qs rs fs T).1.1,z.9=mv.9
 sy:kx (vv (bT mv pt qs rs fs T).1.1 (bT mv pt qs rs fs T).1.2) mv.9=vv (bT mv pt qs rs fs T).1.1 (bT mv pt qs rs fs T).1.2
theorem ME:jY (vv ls d) i j=eB ls i j / (d:Rat):=by
 unfold jY vv eB;have zz:(0:Rat)=((0:Int):Rat) / (d:Rat):=by rw[br];show (0:Rat)=0*_;rw[cx]
 rw[ae (l:=List.map _ ls),ay,ae (l:=ls)];cases e:ls[i]? with
 | none=>exact zz
 | some l =>
  show (l.map λ(z:Int)=>(z:Rat) / (d:Rat)).getD j 0=((l.getD j 0:Int):Rat) / _
  rw[ae,ay,ae];cases e2:l[j]? with
  | none=>exact zz
  | some z=>rfl
theorem UD (l:ls.9=n) (w:∀z∈ls,z.9=n) (sy:∀i j,i < n->j < n->j4 ls d i j=j4 ls d j i):kx (vv ls d) n=vv ls d:=by
 have lw:(vv ls d).9=n:=by unfold vv;rw[af,l]
 have ww:∀xs∈vv ls d,xs.9=n:=λxs hx=>by
  unfold vv at hx;obtain z|hz|rfl:=av.mp hx;rw[af,w z hz]
 refine Ot (n:=n) (by rw[j5,lw]) (λxs hx=>by rw[qA xs hx,lw]) ww λi hi c=>?_
 rw[j5] at hi;by_cases hc:c < n
 ·have e:jY (kx (vv ls d) n) i c=jY (vv ls d) c i:=by
   unfold jY;rw[ae (l:=kx _ _),Ax hi];show ((vv ls d).map λxs=>xs.getD i 0).getD c 0=_
   rw[ae,ay,ae (l:=vv ls d),ai ()];rfl
  rw[e,ME,ME];exact sy c i hc hi
 ·rw[Cd (λxs hx=>by rw[qA xs hx,lw]) (),Cd ww ()]
theorem DT (RG:Rg mv pt w) (D:fI mv pt lk) (WT:p9 mv pt qs rs fs) (FW:Rf mv pt T) (ls:st.9=mv.9) (ds:∀z∈st,Dr (max w 6) z) (dp:DrP pt T w pus):(∃σ ω b j,O6 mv pt qs rs fs T σ ω b j)/\R67 mv pt qs rs fs st pus T:=by
 obtain σ|ω|b|j|KF|BE|L:=LO RG D WT FW ls ds dp;obtain w1|M1|M2|V|X:=Sd RG;have n8:=D.n8;have S:=MQ X D WT;obtain e|hd|hE|W:=QE S D WT FW;obtain B|B0|Bb|hB:=nE (c:=10) (l:=st) (λx hx=>#[aj (ds x hx).1 (),aj (ds x hx).2 ()]) ();have Bb:B<=2^600:=aj Bb (p2 ());have hB:∀x∈st,Fr B (2^30) x:=λx h=>(hB x h).mono (p2 ())
 obtain N|P|N0|Nb|hP|fx|fu:=Uc X D hd FW.2.1 hE ls B0 Bb hB
 have wp:∀xs∈AM mv pt qs rs fs st T,xs.9=pt.9:=λxs hx=>by
  unfold AM at hx;obtain i|hi|rfl:=av.mp hx;exact BE.ld i (gV.mp hi)
 refine #[#[σ,ω,b,j,KF],L.lc,?_,BE,TY S D WT ls wp,VC S D WT L,λxs hx x hx'=>?_,L.ta 0 (bW _),?_,λxs hx=>#[?_,?_,λx hx'=>?_],W.len,W.wide,UD W.len W.wide (Fp S D WT T)]
 ·refine Vr D WT ls Cz FW.2.1 wp (λk hk=>?_) N0 Nb () () (λk hk=>by rw[JU k hk];exact fx k hk) fu;rw[JU k (aL hk),ae,OI hk];exact BE.nx k hk
 ·unfold AM at hx;obtain i|hi|rfl:=av.mp hx;exact BE.sd i (gV.mp hi) x hx'
 ·show lh (ltQ mv pt qs rs st pus T+mU fs [jS mv pt st pus T])
  rw[L.tot];exact L.ta T (ar _)
 ·unfold vv at hx;obtain z|hz|rfl:=av.mp hx;rw[af];exact W.wide z hz
 ·exact #[_,_,600,30,IC W.pos W.sb W.sl xs hx,#[B,_,B0,Bb,ar _,hB],()]
 ·exact (IC W.pos W.sb W.sl xs hx).szn hx' ()
end
inductive GB (K:FG9) (C Cc:Addr) (vs:List V) (H:Hp) (Q:VK) (E9:XK):Prop
 | mk (x kn s p:Addr) (H0 H1:Hp) (mv pt lk:LR9) (qs rs fs st:List Rat) (pus:LR9) (T:Nat):vs=[.ref x,.ref s,.ref p]->Mv K H0 H C Cc x kn mv pt lk qs rs fs->fI mv pt lk->Mu mv pt lk->cu K H s st->bQ K H1 H p pus->LC mv pt qs rs fs st pus T->(∀r H',aA H H'->bS K H' (RZ mv pt qs rs fs st pus T) (.ref r)->Q (.ref r) H')->GB K C Cc vs H Q E9
inductive DM (K:FG9) (vs:List V) (H:Hp) (Q:VK) (E9:XK):Prop
 | mk (r rt s p:Addr) (H0 H1:Hp) (mv pt lk:LR9) (qs rs fs st:List Rat) (pus:LR9) (T:Nat):vs=[.ref r,.ref rt,.ref s,.ref p]->fG K H0 H r mv pt lk->fI mv pt lk->Ib K H rt qs rs fs->cu K H s st->bQ K H1 H p pus->LC mv pt qs rs fs st pus T->(∀t H',aA H H'->bS K H' (RZ mv pt qs rs fs st pus T) (.ref t)->Q (.ref t) H')->DM K vs H Q E9
inductive Gy (K:FG9) (vs:List V) (H:Hp) (Q:VK) (E9:XK):Prop
 | mk (p:Addr) (n:Nat) (H0:Hp) (rows:LR9):vs=[.ref p,.int n]->bQ K H0 H p rows->rows.9=n->n<=8->(∀xs∈rows,xs.9=n/\∀x∈xs,lh x)->kx rows n=rows->(∀H',aA H H'->Q (.bl true) H')->Gy K vs H Q E9
inductive DI (K:FG9) (C Cc:Addr) (vs:List V) (H:Hp) (Q:VK) (E9:XK):Prop
 | mk (A:Addr->Bool) (r x kn rt s p:Addr) (H0 H1 H2:Hp) (mv pt lk:LR9) (qs rs fs st:List Rat) (pus:LR9) (T σ ω b j:Nat) (us:List V):vs=[.ref r,.ref x,.ref rt,.ref s,.ref p]->mV A H->A kn=true->Mv K H0 (dS A H) C Cc x kn mv pt lk qs rs fs->fI mv pt lk->Mu mv pt lk->O6 mv pt qs rs fs T σ ω b j->vq A (bT mv pt qs rs fs) kn H us->fG K H1 (dS A H) r mv pt lk->Ib K (dS A H) rt qs rs fs->cu K (dS A H) s st->bQ K H2 (dS A H) p pus->R67 mv pt qs rs fs st pus T->(∀A2 us' H',(∀a,A a=true->A2 a=true)->(∀a,A2 a=true->A a=true\/H a=none)->mV A2 H'->uW kn H H'->aA (dS A H) (dS A2 H')->vq A2 (bT mv pt qs rs fs) kn H' us'->Q (.bl true) H')->DI K C Cc vs H Q E9
def hdL (A:Addr->Bool) (qs:List Addr):Addr->Bool:=λa=>A a || qs.elem a
section
variable {A:Addr->Bool} {qs:List Addr} {H H':Hp} {a:Addr}
theorem Jo (h:A a=true):hdL A qs a=true:=by unfold hdL;rw[h];rfl
theorem Of (h:a∈qs):hdL A qs a=true:=by
 unfold hdL;rw[List.elem_eq_true_of_mem h,Bool.or_true]
theorem Fv (h:hdL A qs a=true):A a=true\/a∈qs:=by
 unfold hdL at h;rcases vb.mp h with z | z
 ·exact .inl z
 ·exact .inr (List.mem_of_elem_eq_true z)
theorem mV.hdL (h:mV A H) (g:∀q∈qs,∃vs,H q=some (.lst vs)):mV (hdL A qs) H:=λa ha=>by
 rcases Fv ha with z | z
 ·exact h a z
 ·exact g a z
theorem Fu (n:∀q∈qs,dS A H q=none) (s:aA (dS A H) (dS A H')):aA (dS A H) (dS (L2.hdL A qs) H'):=λa o h=>by
 have h':=s _ _ h
 have ha:A a=false:=by
  cases e:A a with
  | false=>rfl
  | true=>unfold dS at h;rw[if_pos e] at h;cases h
 have e:L2.hdL A qs a=false:=by
  cases q:L2.hdL A qs a with
  | false=>rfl
  | true =>
   rcases Fv q with z | z
   ·rw[ha] at z;cases z
   ·rw[n a z] at h;cases h
 exact gY (a9 _ _ h') e
end
section
variable {K:FG9} {A:Addr->Bool} {S:Nat->OP} {H0 H H':Hp} {kn a p:Addr} {xs us ws:List V} {x:Rat} {v:V} {ys:List Rat} {rows:LR9} {qa:List Addr}
theorem nG.smx (h:nG K H a xs) (s:uW kn H H') (g:H kn=some (.lst ws)):nG K H' a xs:=by
 rcases h with (h | ⟨o,h⟩) | h
 ·exact .inl (.inl (s _ _ (λz=>by rw[z,g] at h;cases h) h))
 ·exact .inl (.inr #[o,s _ _ (λz=>by rw[z,g] at h;cases h) h])
 ·exact .inr h
theorem bS.smx (h:bS K H x v) (s:uW kn H H') (g:H kn=some (.lst ws)):bS K H' x v:=by
 obtain q|e|h:=h;exact #[q,e,h.smx s g]
theorem cu.smx (h:cu K H p ys) (s:uW kn H H') (g:H kn=some (.lst ws)) (n:p≠kn):cu K H' p ys:=by
 obtain zs|gz|q:=h;exact #[zs,s _ _ n gz,Paired.imp' (λ_ _ z=>bS.smx z s g) q]
theorem bQ.smx (h:bQ K H0 H p rows) (s:uW kn H H') (g:H kn=some (.lst ws)) (n:p≠kn) (k:H0 kn≠none):bQ K H0 H' p rows:=by
 obtain zs|gz|q|nn:=h;exact #[zs,s _ _ n gz,Paired.imp' (λ_ _ #[r,e,nr,R]=>#[r,e,nr,R.smx s g λz=>k (by rw[<- z];exact nr)]) q,nn]
theorem DO:∀{rows:LR9} {us:List V},Paired (dF K H0 H) rows us->∃qa:List Addr,us=qa.map V.ref/\∀q∈qa,H0 q=none/\∃xs∈rows,∃zs,H q=some (.lst zs)/\zs.9=xs.9
 | _,_,.nil=>#[[],rfl,λ_ h=>nomatch h]
 | _,_,.cons (a:=xs) ⟨q,e,n,zs,g,pz⟩ t=>by
  obtain qa|e2|h:=DO t;refine #[q :: qa,by rw[e,e2];rfl,λq' hq=>?_];rcases aI.mp hq with z | z
  ·rw[z];exact #[n,xs,.head _,zs,g,pz.length.symm]
  ·obtain a|b|c|d:=h q' z;exact #[a,b,.tail _ c,d]
theorem vq.hides (h:vq A S kn H us) (s:aA H H') (n:∀q∈qa,H q=none):vq (hdL A qa) S kn H' us:=by
 obtain g|a|b|pr:=h;exact #[s _ _ g,a,b,Paired.imp' (λ_ _ z=>Mh.same z (Fu (λq hq=>by unfold dS;split;rfl;exact n q hq) (cG s))) pr]
end
inductive DG (K:FG9) (C Cc:Addr) (vs:List V) (H:Hp) (Q:VK) (E9:XK):Prop
 | mk (A:Addr->Bool) (x kn:Addr) (H0:Hp) (mv pt lk:LR9) (qs rs fs:List Rat) (T σ ω b j l:Nat) (us:List V):vs=[.ref x,.int l]->mV A H->A kn=true->O7 K H0 (dS A H) C Cc x kn mv pt lk qs rs->fI mv pt lk->O6 mv pt qs rs fs T σ ω b j->l<=T->vq A (bT mv pt qs rs fs) kn H us->(∀r us' Hm H',uW kn H Hm->vq A (bT mv pt qs rs fs) kn Hm us'->aA Hm H'->Hm r=none->bQ K Hm H' r (vv (bT mv pt qs rs fs l).1.1 (bT mv pt qs rs fs l).1.2)->Q (.ref r) H')->DG K C Cc vs H Q E9
structure Mg (K:FG9) (H0:Hp) (C Cc c1 kn1 c2 kn2 r bl rl r1 r2:Addr) (mv pt lk:LR9) (q1 s1 f1 q2 s2 f2:List Rat) (X:Hp):Prop where
 C1:Mv K H0 X C Cc c1 kn1 mv pt lk q1 s1 f1
 C2:Mv K H0 X C Cc c2 kn2 mv pt lk q2 s2 f2
 P:fG K H0 X r mv pt lk
 gb:X bl=some (.lst [.ref c1,.ref c2])
 gr:X rl=some (.lst [.ref r1,.ref r2])
 T1:Ib K X r1 q1 s1 f1
 T2:Ib K X r2 q2 s2 f2
structure rg (b q0 kn1 kn2:Addr) (S1 S2:Nat->OP) (A:Addr->Bool) (H:Hp):Prop where
 L:mV A H
 Ab:A b=true
 A1:A kn1=true
 A2:A kn2=true
 B:iq H b
 I:Inner H b q0
 N1:∃us,vq A S1 kn1 H us
 N2:∃us,vq A S2 kn2 H us
 ne:kn1≠kn2/\b≠kn1/\b≠kn2/\q0≠kn1/\q0≠kn2
section
variable {K:FG9} {H0:Hp} {C Cc c1 kn1 c2 kn2 r bl rl r1 r2 b q0:Addr} {mv pt lk:LR9} {q1 s1 f1 q2 s2 f2:List Rat} {X X' H H':Hp} {A A':Addr->Bool} {S1 S2:Nat->OP} {qa:List Addr}
theorem Mg.same (h:Mg K H0 C Cc c1 kn1 c2 kn2 r bl rl r1 r2 mv pt lk q1 s1 f1 q2 s2 f2 X) (s:aA X X'):Mg K H0 C Cc c1 kn1 c2 kn2 r bl rl r1 r2 mv pt lk q1 s1 f1 q2 s2 f2 X':=#[h.C1.same s,h.C2.same s,h.P.same s,s _ _ h.gb,s _ _ h.gr,h.T1.same s,h.T2.same s]
theorem rg.told1 (h:rg b q0 kn1 kn2 S1 S2 A H) (up:∀a,A a=true->A' a=true) (L':mV A' H') (s:uW kn1 H H') (m:aA (dS A H) (dS A' H')) (k:vq A' S1 kn1 H' us):rg b q0 kn1 kn2 S1 S2 A' H':=by
 obtain n1|n2|n3|n4|n5:=h.ne;obtain B'|I':=h.B.smx h.I s n2 n4;obtain us2|k2:=h.N2;exact #[L',up _ h.Ab,up _ h.A1,up _ h.A2,B',I',#[us,k],#[us2,k2.other s (Ne.symm n1) m],h.ne]
theorem rg.told2 (h:rg b q0 kn1 kn2 S1 S2 A H) (up:∀a,A a=true->A' a=true) (L':mV A' H') (s:uW kn2 H H') (m:aA (dS A H) (dS A' H')) (k:vq A' S2 kn2 H' us):rg b q0 kn1 kn2 S1 S2 A' H':=by
 obtain n1|n2|n3|n4|n5:=h.ne;obtain B'|I':=h.B.smx h.I s n3 n5;obtain us1|k1:=h.N1;exact #[L',up _ h.Ab,up _ h.A1,up _ h.A2,B',I',#[us1,k1.other s n1 m],#[us,k],h.ne]
theorem rg.bag (h:rg b q0 kn1 kn2 S1 S2 A H) (u:cM b H H') (B':iq H' b):rg b q0 kn1 kn2 S1 S2 A H'/\aA (dS A H) (dS A H'):=by
 obtain n1|n2|n3|n4|n5:=h.ne;have m:=sQ h.Ab (cM.smx u);obtain us1|k1:=h.N1;obtain us2|k2:=h.N2;obtain q|x|y|z|cs|hb|_:=id B';exact #[#[h.L.smx (cM.smx u) hb,h.Ab,h.A1,h.A2,B',u.2 _ h.I,#[us1,k1.other (cM.smx u) (Ne.symm n2) m],#[us2,k2.other (cM.smx u) (Ne.symm n3) m],h.ne],m]
theorem rg.same (h:rg b q0 kn1 kn2 S1 S2 A H) (s:aA H H'):rg b q0 kn1 kn2 S1 S2 A H':=by
 obtain us1|k1:=h.N1;obtain us2|k2:=h.N2;exact #[h.L.same s,h.Ab,h.A1,h.A2,h.B.same s,(by obtain x|y|z|g:=h.I;exact #[x,y,z,s _ _ g]),#[us1,k1.same s],#[us2,k2.same s],h.ne]
theorem rg.keep (h:rg b q0 kn1 kn2 S1 S2 A H) (o:∀a o,a∉qa->H a=some o->H' a=some o) (q:∀x∈qa,∃vs,H' x=some (.lst vs)) (inA:∀x∈qa,A x=true) (nb:b∉qa) (nq:q0∉qa) (n1:kn1∉qa) (n2:kn2∉qa):rg b q0 kn1 kn2 S1 S2 A H'/\aA (dS A H) (dS A H'):=by
 have m:aA (dS A H) (dS A H'):=λa ob g=>by
  have g1:=a9 _ _ g;cases e:A a with
  | true=>unfold dS at g;rw[if_pos e] at g;cases g
  | false=>exact gY (o a ob (λz=>by rw[inA a z] at e;cases e) g1) e
 obtain us1|g1|x1|y1|p1:=h.N1;obtain us2|g2|x2|y2|p2':=h.N2;refine #[#[λc hc=>?_,h.Ab,h.A1,h.A2,?_,?_,#[us1,o _ _ n1 g1,x1,y1,Paired.imp' (λ_ _ z=>Mh.same z m) p1],#[us2,o _ _ n2 g2,x2,y2,Paired.imp' (λ_ _ z=>Mh.same z m) p2'],h.ne],m]
 ·by_cases z:c∈qa
  ·exact q c z
  ·obtain vs|g:=h.L c hc;exact #[vs,o _ _ z g]
 ·obtain q'|x|y|z|cs|h1|h2|r:=h.B;have e:q'=q0:=h.I.inj #[x,y,z,h1] |> λz=>by first | exact z | exact z.symm
  subst e;exact #[q',x,y,z,cs,o _ _ nb h1,o _ _ nq h2,r]
 ·obtain x|y|z|g:=h.I;exact #[x,y,z,o _ _ nb g]
end
def uL (n:Nat) (f:Nat->Nat->Rat):LR9:=(List.range n).map λi=>(List.range n).map λj=>f i j
section
variable {n:Nat} {f g:Nat->Nat->Rat}
theorem lQ:(uL n f).9=n:=by unfold uL;rw[af,bu]
theorem Kw:∀xs∈uL n f,xs.9=n:=λxs hx=>by obtain i|_|rfl:=av.mp hx;rw[af,bu]
theorem Ca (h:i < n):(uL n f)[i]?=some ((List.range n).map λj=>f i j):=by unfold uL;rw[ay,bY h];rfl
theorem Lx {h:Nat->Rat} (hi:i < n):((List.range n).map h).getD i 0=h i:=by rw[ae,ay,bY hi];rfl
theorem DV (h:i < (uL n f).9):(uL n f)[i]=(List.range n).map λj=>f i j:=by
 have:=Ca (f:=f) (n:=n) (i:=i) (by rw[lQ] at h;exact h);rw[ai h] at this;exact cm this
theorem LU {h:Nat->Nat->Nat->Rat} (hk:k < n) (hr:∀i j,i < n->j < n->h (k+1) i j=if i=k then (if j=k then h (k+1) k k else h k k j) else h k i j):(uL n (h k)).set k (((List.range n).map λj=>h k k j).set k (h (k+1) k k))=uL n (h (k+1)):=by
 apply mF (by rw[eQ,lQ,lQ]);intro i h1 h2;have h2':=h2;rw[lQ] at h2';rw[List.getElem_set,DV h2];by_cases ei:k=i
 ·subst ei;rw[if_pos rfl];apply mF (by rw[eQ,af,af]);intro j h3 h4;rw[af,bu] at h4;rw[List.getElem_set,Mx,Mx,List.getElem_range,hr k j h2' h4,if_pos rfl];by_cases ej:k=j
  ·rw[if_pos ej,if_pos ej.symm]
  ·rw[if_neg ej,if_neg λz=>ej z.symm]
 ·rw[if_neg ei,DV (by rw[lQ];exact h2')];refine mR λj hj=>?_
  rw[hr i j h2' (gV.mp hj),if_neg λz=>ei z.symm]
end
section
variable {K:FG9} {H0 H:Hp}
theorem dF.updN (h:dF K H0 H qs x) (hl:H l=some (.lst ys)) (n:x≠V.ref l):dF K H0 (upd H l o) qs x:=by obtain q|rfl|b|c:=h;exact #[q,rfl,b,c.updL hl λz=>n (by rw[z])]
theorem BD {l:Addr} {zs:List V} {o:HO} (hl:H l=some (.lst zs)):∀{rows:LR9} {ys:List V},Paired (dF K H0 H) rows ys->V.ref l∉ys->Paired (dF K H0 (upd H l o)) rows ys
 | _,_,.nil,_=>.nil
 | _,_,.cons h t,n=>.cons (h.updN hl λz=>n (by rw[z];exact .head _)) (BD hl t λz=>n (.tail _ z))
theorem zA {q:Addr} {zs:List V} {o:HO} {row:List Rat} (hl:H q=some (.lst zs)) (hn:H0 q=none) (hr:cu K (upd H q o) q row):∀{rows:LR9} {ys:List V} {j:Nat},Paired (dF K H0 H) rows ys->ys.Nodup->ys[j]?=some (.ref q)->Paired (dF K H0 (upd H q o)) (rows.set j row) ys
 | _,_,_,.nil,_,e=>by simp at e
 | _,_,0,.cons (l₂:=ys) h t,nd,e=>by
  have e:=cm e;obtain n1|n2:=dd.mp nd;rw[e] at n1 ⊢;exact .cons #[q,rfl,hn,hr] (BD hl t n1)
 | _,_,j+1,.cons (l₂:=ys) h t,nd,e=>by
  obtain n1|n2:=dd.mp nd;have e:ys[j]?=some (.ref q):=e;exact .cons (h.updN hl λz=>n1 (by rw[z];exact ao e)) (zA hl hn hr t n2 e)
end
section
variable {K:FG9} {H:Hp} {a:Addr} {xs:List V} {g:TG} {tf:TT} {te:TE} {Q:VK} {σ₀:St} {α:Type}
theorem Jx {F:Hp->α->V->Prop} (f:α->List Rat) (hx:H a=some (.lst xs)) (pf:Paired (F H) as xs) (hl:as.9<=1000)
  (hF:∀{H H' c x},F H c x->aA H H'->F H' c x)
  (hs:∀(i:Nat) c x H' NY NN,as[i]?=some c->aA H H'->F H' c x->(∀q H2,aA H' H2->H' q=none->cu K H2 q (f c)->NY (.ref q) H2)->nI σ₀ g tf te x H' NY NN)
  (hd:∀ys H' p,H p=none->aA H H'->H' p=some (.lst ys)->ys.Nodup->Paired (dF K H H') (as.map f) ys->V.ref p∉ys->Q (.ref p) H'):oA (OQ K a) σ₀ g tf te Q H:=by
 have lx:=pf.9;refine eS (K:=K) (xs:=xs) (λi ys H'=>aA H H'/\Paired (dF K H H') ((as.take i).map f) ys/\ys.Nodup/\∀y∈ys,∃q,y=V.ref q/\H' q≠none) (aL (bD ())) #[aA.refl _,.nil,jG,(λ_ h=>nomatch h)] (λi ys H' _ #[s,_]=>bJ.of (s _ _ hx)) ?_ ?_
 ·rintro i x ys H' hx' hlen ⟨s,pr,nd,ne⟩;obtain c|ec|fc:=cE pf hx';refine hs i c x H' _ _ ec s (hF fc s) λq H2 s2 nq R=>#[s.trans s2,?_,?_,λy hy=>?_]
  ·rw[take_snoc ec,cn];exact cA (Paired.imp' (λ_ _ z=>dF.same z s2) pr) (.cons #[q,rfl,s.none nq,R] .nil)
  ·refine dC.mpr #[nd,by simp,λa ha b hb z=>?_];rw[bg.mp hb] at z;obtain q'|e|h:=ne a ha;rw[z] at e;cases e;exact h nq
  ·rcases aw.mp hy with hy | hy
   ·obtain q'|e|h:=ne y hy;exact #[q',e,λz=>h (s2.none z)]
   ·obtain _|gg|_:=R;exact #[q,bg.mp hy,by rw[gg];exact λz=>nomatch z]
 ·rintro ys H' hy ⟨s,pr,nd,ne⟩ p hp;rw[aD ()] at pr;refine hd ys _ p (s.none hp) (s.trans (aA.new hp)) aK nd (Paired.imp' (λ_ _ z=>dF.same z (aA.new hp)) pr) λz=>?_
  obtain q|e|h:=ne _ z;cases e;exact h hp
end
inductive Kb (K:FG9) (C Cc:Addr) (vs:List V) (H:Hp) (Q:VK) (E9:XK):Prop
 | mk (A:Addr->Bool) (x dx sy b1 b2 b3:Addr) (Hb H0:Hp) (mv pt lk:LR9) (qs rs fs:List Rat) (M:Int):vs=[.ref x,.ref sy,.ref b1,.ref b2,.ref b3]->Hb x=none->Hb dx=none->dx≠x->H=upd (upd Hb dx (.own x)) x (.ins Cc dx [])->mV A Hb->ou K H0 (dS A Hb) C sy mv pt lk->cu K Hb b1 qs->cu K Hb b2 rs->cu K Hb b3 fs->fs.9<=20->tj M (fs.map nm)->(∀kn v H',aA Hb H'->Hb kn=none->Mv K H0 (dS (p6 A kn) H') C Cc x kn mv pt lk qs rs fs->H' kn=some (.lst [v])->Mh (dS (p6 A kn) H') (Iu (cp (fs.map nm) (cI (fs.map nm)))) (cI (fs.map nm)) [] 1 v->Q .non H')->Kb K C Cc vs H Q E9
def Me (qa:List Addr) (H H':Hp) (m:Nat):Prop:=(∀a o,a∉qa->H a=some o->H' a=some o)/\∀x∈qa,∃vs,H' x=some (.lst vs)/\vs.9<=m
theorem RD {α:Type} {R:α->V->Prop} {a b c:α}:∀{us:List V},Paired R [a,b,c] us->∃x y z,us=[x,y,z]/\R a x/\R b y/\R c z
 | _,.cons h1 (.cons h2 (.cons h3 .nil))=>#[_,_,_,rfl,h1,h2,h3]
section
variable {qa:List Addr} {H H' H'':Hp} {m m':Nat} {x:Addr} {ws:List V}
theorem Me.set (h:Me qa H H' m) (hx:x∈qa) (hw:ws.9<=m') (mm:m<=m'):Me qa H (upd H' x (.lst ws)) m':=by
 refine #[λa o n g=>?_,λy hy=>?_]
 ·rw[a7 λz=>n (by rw[z];exact hx)];exact h.1 a o n g
 ·by_cases z:y=x
  ·rw[z,aK];exact #[ws,rfl,hw]
  ·rw[a7 z];obtain vs|g|l:=h.2 y hy;exact #[vs,g,aj l mm]
theorem Me.same (h:Me qa H H' m) (s:aA H' H''):Me qa H H'' m:=#[λa o n g=>s _ _ (h.1 a o n g),λy hy=>by
 obtain vs|g|l:=h.2 y hy;exact #[vs,s _ _ g,l]]
theorem Me.mono (h:Me qa H H' m) (mm:m<=m'):Me qa H H' m':=#[h.1,λy hy=>by
 obtain vs|g|l:=h.2 y hy;exact #[vs,g,aj l mm]]
end
section
variable {K:FG9} {H0 H6 H H' H'':Hp} {C Cc c k b p rt d x1 x2 x3:Addr} {mv pt lk:LR9} {q v f qs rs fs ys a1 a2 a3:List Rat} {A A':Addr->Bool}
theorem Kv (n:H k=none) (s:aA (dS A H) (dS A' H')):aA (dS A H) (dS (p6 A' k) H'):=λa o g=>by
 have g':=s _ _ g
 have ha:A' a=false:=by
  cases e:A' a with
  | false=>rfl
  | true=>unfold dS at g';rw[if_pos e] at g';cases g'
 have hk:a≠k:=λz=>by
  subst z;have g0:H a=some o:=a9 _ _ g;rw[g0] at n;cases n
 have g2:=a9 _ _ g';refine gY g2 ?_;unfold p6;rw[ha];simpa using hk
theorem KR (B:iq H b):∃x vs,H b=some (.lst (.int x :: vs)):=by
 obtain q|x|y|z|cs|h|_:=B;exact #[_,_,h]
theorem cu.nb (h:cu K H p ys) (B:iq H b):p≠b:=λz=>by
 obtain x|vs|g:=KR B;obtain zs|gz|pr:=h;rw[z,g] at gz;cases gz;cases pr with
 | cons h1 _=>obtain _|e|_:=h1;cases e
theorem Ib.hidb (h:Ib K H rt qs rs fs) (B:iq H b) (L:mV A H) (hA:∀a,A a=true->a=b):Ib K (dS A H) rt qs rs fs:=by
 obtain a1|a2|a3|g|R1|R2|R3:=h
 have nA:∀{a},a≠b->A a=false:=λ{a} n=>by
  cases e:A a with
  | false=>rfl
  | true=>exact absurd (hA a e) n
 refine #[a1,a2,a3,gY g (nA λz=>?_),R1.hid L (nA (R1.nb B)),R2.hid L (nA (R2.nb B)),R3.hid L (nA (R3.nb B))];obtain x|vs|gb:=KR B;rw[z,gb] at g;cases g
theorem NZ (g:H d=some (.lst [.ref x1,.ref x2,.ref x3])) (R1:cu K H x1 a1) (R2:cu K H x2 a2) (R3:cu K H x3 a3):uK.R K H (.ref d) [a1,a2,a3]:=#[d,_,rfl,bJ.of g,.cons R1.kind (.cons R2.kind (.cons R3.kind .nil))]
theorem Ib.kind (h:Ib K H rt qs rs fs):uK.R K H (.ref rt) [qs,rs,fs]:=by
 obtain _|_|_|g|R1|R2|R3:=h;exact NZ g R1 R2 R3
def Em (K:FG9) (H0 H6:Hp) (C Cc:Addr) (mv pt lk:LR9) (q v f:List Rat) (A:Addr->Bool) (H:Hp) (c k:Addr):Prop:=Mv K H0 (dS A H) C Cc c k mv pt lk q v f/\H6 k=none/\A k=true/\∃us,vq A (bT mv pt q v f) k H us
theorem Em.go (h:Em K H0 H6 C Cc mv pt lk q v f A H c k) (s:aA H H') (m:aA (dS A H) (dS A' H')) (up:A' k=true):Em K H0 H6 C Cc mv pt lk q v f A' H' c k:=by
 obtain c1|n|_|us|g|a|b|pr:=h;exact #[c1.same m,n,up,us,s _ _ g,a,b,Paired.imp' (λ_ _ z=>Mh.same z m) pr]
end
section
variable {K:FG9} {H0:Hp} {C Cc c1 kn1 c2 kn2 r bl rl r1 r2 b q0:Addr} {mv pt lk:LR9} {q1 s1 f1 q2 s2 f2:List Rat}
theorem Th (W1:p9 mv pt q1 s1 f1) (W2:p9 mv pt q2 s2 f2) {i:Int} (h0:0<=i) (h1:i < 2):∃(m:Nat) (c k rt:Addr) (q v f:List Rat),i=m/\[V.ref c1,.ref c2][m]?=some (.ref c)/\[V.ref r1,.ref r2][m]?=some (.ref rt)/\p9 mv pt q v f/\(∀{X},Mg K H0 C Cc c1 kn1 c2 kn2 r bl rl r1 r2 mv pt lk q1 s1 f1 q2 s2 f2 X->Mv K H0 X C Cc c k mv pt lk q v f/\Ib K X rt q v f)/\(∀{A H},rg b q0 kn1 kn2 (bT mv pt q1 s1 f1) (bT mv pt q2 s2 f2) A H->A k=true/\∃us,vq A (bT mv pt q v f) k H us)/\∀{A H A' H' us},rg b q0 kn1 kn2 (bT mv pt q1 s1 f1) (bT mv pt q2 s2 f2) A H->(∀a,A a=true->A' a=true)->mV A' H'->uW k H H'->aA (dS A H) (dS A' H')->vq A' (bT mv pt q v f) k H' us->rg b q0 kn1 kn2 (bT mv pt q1 s1 f1) (bT mv pt q2 s2 f2) A' H':=by
 rcases Int.lt_or_le i 1 with z | z
 ·have:i=(0:Nat):=()
  exact #[0,c1,kn1,r1,q1,s1,f1,this,rfl,rfl,W1,λM=>#[M.C1,M.T1],λN=>#[N.A1,N.N1],λN u L s m k=>N.told1 u L s m k]
 ·have:i=(1:Nat):=()
  exact #[1,c2,kn2,r2,q2,s2,f2,this,rfl,rfl,W2,λM=>#[M.C2,M.T2],λN=>#[N.A2,N.N2],λN u L s m k=>N.told2 u L s m k]
end
section
variable {K:FG9} {mv pt lk:LR9} {qs rs fs:List Rat} {n k w:Nat} {qa:List Addr}
theorem at3 {u1 u2 u3:Addr} (h1:u1∈qa) (h2:u2∈qa) (h3:u3∈qa):∀(j:Nat) (v:V),[V.ref u1,V.ref u2,V.ref u3][j]?=some v->∃u,v=V.ref u/\u∈qa
 | 0,_,e=>by cases e;exact #[_,rfl,h1]
 | 1,_,e=>by cases e;exact #[_,rfl,h2]
 | 2,_,e=>by cases e;exact #[_,rfl,h3]
def L0 (n:Nat) (fs:List Rat) (k:Nat):LR9:=uL n λi j=>if i=j/\i < k then fs.getD i 0 else 0
def VU (n:Nat) (fs:List Rat) (k:Nat):List Rat:=(List.range n).map λj=>if k=j/\k < k then fs.getD k 0 else 0
theorem QI:(mv.map λ_=>mv.map λ_=>(0:Rat))=L0 mv.9 fs 0:=by
 unfold L0 uL;have h:∀(l:LR9) {β:Type} (c:β),(l.map λ_=>c)=(List.range l.9).map λ_=>c:=λl β c=>by rw[List.map_const',List.map_const',bu]
 rw[h mv,h mv];refine mR λi _=>mR λj _=>?_
 exact (if_neg λz:i=j/\i < 0=>tM _ z.2).symm
theorem TX (hk:k < n):(L0 n fs k).set k ((VU n fs k).set k (fs.getD k 0))=L0 n fs (k+1):=by
 have h:=LU (n:=n) (k:=k) (h:=λk i j=>if i=j/\i < k then fs.getD i 0 else 0) hk λi j _ _=>by
  by_cases ei:i=k
  ·subst ei;rw[if_pos rfl];by_cases ej:j=i
   ·subst ej;rw[if_pos rfl]
   ·rw[if_neg ej,if_neg λz=>ej z.1.symm,if_neg λz=>ej z.1.symm]
  ·rw[if_neg ei];by_cases ej:i=j/\i < k
   ·rw[if_pos ej,if_pos #[ej.1,()]]
   ·rw[if_neg ej,if_neg λz=>ej #[z.1,()]]
 rw[if_pos #[rfl,iG k]] at h;exact h
theorem VB (hk:k < n):(L0 n fs k)[k]?=some (VU n fs k):=Ca hk
theorem Pf (D:fI mv pt lk) (W:p9 mv pt qs rs fs):vv (bT mv pt qs rs fs 0).1.1 (bT mv pt qs rs fs 0).1.2=L0 mv.9 fs mv.9:=by
 obtain _|O|hd:=AW D W;have lw:(vv (bT mv pt qs rs fs 0).1.1 (bT mv pt qs rs fs 0).1.2).9=mv.9:=by unfold vv;rw[af,O.len]
 have ww:∀xs∈vv (bT mv pt qs rs fs 0).1.1 (bT mv pt qs rs fs 0).1.2,xs.9=mv.9:=λxs hx=>by
  unfold vv at hx;obtain z|hz|rfl:=av.mp hx;rw[af,O.wide z hz]
 refine Ot (n:=mv.9) (by rw[lw];exact lQ.symm) ww Kw λi hi c=>?_
 rw[lw] at hi;by_cases hc:c < mv.9
 ·rw[ME]
  have e:jY (L0 mv.9 fs mv.9) i c=if i=c/\i < mv.9 then fs.getD i 0 else 0:=by
   have g:(L0 mv.9 fs mv.9)[i]?=_:=Ca hi;unfold jY;rw[ae (l:=L0 _ _ _),g];exact Lx hc
  rw[e];refine (hd i c).trans ?_;by_cases z:i=c
  ·rw[if_pos z,if_pos #[z,hi]]
  ·rw[if_neg z,if_neg λy=>z y.1]
 ·have gw:∀xs∈L0 mv.9 fs mv.9,xs.9=mv.9:=Kw;rw[Cd ww (),Cd gw ()]
theorem Qt (RG:Rg mv pt w) (D:fI mv pt lk) (W:p9 mv pt qs rs fs):∃σ ω b j,O6 mv pt qs rs fs 0 σ ω b j:=by
 refine (DT (st:=List.replicate mv.9 0) (pus:=[]) (T:=0) RG D W #[#[(),.inl ()],(),(),(),()] c8 (λz hz=>?_) #[rfl,λ_ h=>nomatch h]).1;rw[yu hz];exact #[bW _,by show 1<=_;lia]
end
end L2
open L2
local macro_rules | `(tactic| walk_at "hl") => `(tactic| first | (show _ ≤ sizeLine; with_unfolding_all decide) | (with_unfolding_all exact (by decide)))
local macro_rules | `(tactic| walk_at "sq") => `(tactic| first | with_reducible assumption | with_reducible exact nG.of (by assumption) | with_reducible exact bJ.of (by assumption) | with_reducible exact nG.of aK | with_reducible exact bJ.of aK | assumption)
local macro_rules | `(tactic| walk_at "sc") => `(tactic| first | (with_reducible show (0 : Int) < _; decide) | with_reducible exact QR (by decide) (by decide) | with_reducible exact KN (by decide) (by decide) | with_reducible exact cpow_of (by decide) (by decide) (by decide))
local macro_rules | `(tactic| walk_at "rd") => `(tactic| first
  | with_reducible refine SR ?_
  | with_reducible refine PK ?_
  | with_reducible refine Tb ?_
  | with_reducible refine Nl ?_
  | ((with_reducible refine' SN ?hx1 ?_); (case hx1 => with_unfolding_all rfl))
  | with_reducible refine V6 ?_
  | with_reducible refine Va ?_
  | with_reducible refine Vd ?_
  | with_reducible refine U4 ?_
  | with_reducible refine V7 ?_
  | with_reducible refine Ta ?_
  | with_reducible refine SX ?_
  | with_reducible refine rd_eqS ?_
  | with_reducible refine rd_neS ?_
  | with_reducible refine rd_eqB ?_
  | with_reducible refine rd_neB ?_
  | with_reducible refine PN ?_
  | with_reducible refine IU ?_
  | with_reducible refine S8 ?_
  | with_reducible refine PD ?_
  | with_reducible refine PL ?_
  | with_reducible refine PM ?_
  | with_reducible refine Nk ?_
  | with_reducible refine PC ?_
  | with_reducible refine U5 ?_
  | with_reducible refine SS ?_
  | with_reducible refine rd_retN ?_
  | with_reducible refine S4 ?_
  | with_reducible refine Tc ?_
  | with_reducible refine U9 ?_
  | with_reducible refine SV ?_
  | with_reducible refine Qd ?_
  | with_reducible refine rd_orV ?_
  | with_reducible refine PJ ?_
  | with_reducible refine S5 ?_
  | with_reducible refine SM ?_
  | with_reducible refine Oa ?_
  | with_reducible refine Wf ?_
  | with_reducible refine Vt ?_
  | with_reducible refine iteNF ?_
  | with_reducible refine U3 ?_
  | with_reducible refine SW ?_
  | with_reducible refine P0 ?_
  | with_reducible refine SO ?_
  | with_reducible refine SY ?_
  | with_reducible refine P8 ?_
  | with_reducible refine Vb ?_
  | with_reducible refine PZ ?_
  | with_reducible refine SU ?_
  | with_reducible refine P9 ?_
  | ((with_reducible refine' rd_aug ?hx1 ?_); (case hx1 => with_unfolding_all rfl))
  | with_reducible refine S0 ?_
  | with_reducible refine PV ?_
  | with_reducible refine Nn ?_
  | with_reducible refine PX ?_
  | with_reducible refine U7 ?_
  | with_reducible refine Lv ?_
  | with_reducible refine PH ?_
  | with_reducible refine S7 ?_
  | with_reducible refine Nj ?_
  | with_reducible refine PR ?_
  | with_reducible refine Ni ?_
  | with_reducible refine rd_iRng2 ?_
  | ((with_reducible refine' P7 ?hx1 ?_); (case hx1 => with_unfolding_all rfl))
  | with_reducible refine PB ?_
  | with_reducible refine Vc ?_
  | with_reducible refine rd_bm0 ?_
  | with_reducible refine rd_brk ?_
  | ((with_reducible refine' PU ?hx1 ?hx2 ?_); (case hx1 => walk_at "sq"); (case hx2 => with_unfolding_all rfl))
  | with_reducible refine rd_cont ?_
  | ((with_reducible refine' fD ?hx1 ?_); (case hx1 => walk_at "sc"))
  | ((with_reducible refine' IV ?hx1 ?hx2 ?_); (case hx1 => walk_at "sq"); (case hx2 => with_unfolding_all rfl))
  | ((with_reducible refine' cy ?hx1 ?hx2 ?_); (case hx1 => walk_at "sq"); (case hx2 => with_unfolding_all rfl))
  | ((with_reducible refine' PY ?hx1 ?hx2 ?_); (case hx1 => walk_at "sq"); (case hx2 => with_unfolding_all rfl))
  | ((with_reducible refine' gZ ?hx1 ?hx2 ?hx3 ?_); (case hx1 => with_reducible first | assumption | exact aK); (case hx2 => with_unfolding_all rfl); (case hx3 => with_unfolding_all rfl))
  | with_reducible refine ⟨_, rfl, ?_⟩
  | with_reducible refine ⟨_, _, rfl, ?_⟩)
local macro_rules | `(tactic| walk_at "w") => `(tactic| repeat walk_at "rd")
local macro_rules | `(tactic| walk_at "d") => `(tactic| exact ⟨rfl,rfl,rfl,by decide +kernel,rfl,by decide +kernel,by decide +kernel⟩)
namespace Lw
open PySem PySem.Spec PyProof.Rows L2 Nm
local macro_rules | `(tactic| exists $e) => `(tactic| (walk_at "w";refine $e))
set_option maxHeartbeats 4000000
def top (i:Nat):Stmt:=PySem.Challenge.pw_helmsum_k67_costs_and_worth.main.body.getD i (.Pass #[0,0,0,0])
abbrev wF:Stmt:=top 46
abbrev uf:Stmt:=top 47
abbrev mX:Stmt:=top 61
abbrev ur:Stmt:=top 63
abbrev wC:Stmt:=top 48
abbrev wA:Stmt:=top 49
abbrev uj:Stmt:=top 55
abbrev ui:Stmt:=top 51
abbrev yG:Stmt:=top 56
abbrev rN:Stmt:=top 58
abbrev lG:Stmt:=top 64
abbrev pJ:Stmt:=top 52
abbrev wB:Stmt:=top 53
abbrev uo:Stmt:=top 57
abbrev rM:Stmt:=top 59
abbrev pI:Stmt:=top 65
abbrev tX:Stmt:=top 42
abbrev wy:Stmt:=top 7
abbrev lE:Stmt:=top 8
abbrev ue:Stmt:=top 10
abbrev Bm:Stmt:=top 14
abbrev pH:Stmt:=top 43
abbrev fJ:Stmt:=inClass (top 44) 0
abbrev pO:Stmt:=top 60
abbrev uq:Stmt:=top 66
abbrev nO:Stmt:=top 73
abbrev rL:Stmt:=top 76
abbrev kB:Stmt:=top 9
abbrev mS:Stmt:=top 15
abbrev tY:Stmt:=top 16
abbrev t9:Stmt:=top 30
abbrev gK:Stmt:=inClass (top 37) 0
abbrev uh:Stmt:=top 68
abbrev rJ:Stmt:=top 67
abbrev rO:Stmt:=top 77
abbrev pL:Stmt:=top 74
abbrev wD:Stmt:=top 54
abbrev yF:Stmt:=top 62
abbrev uk:Stmt:=top 69
abbrev uw:Stmt:=top 75
abbrev pG:Stmt:=top 19
abbrev Bl:Stmt:=top 11
abbrev yD:Stmt:=top 17
abbrev iD:Stmt:=inClass (top 44) 1
abbrev Bo:Stmt:=top 22
abbrev IQ:Stmt:=top 12
abbrev IS:Stmt:=top 20
abbrev yC:Stmt:=top 26
abbrev Bn:Stmt:=top 27
abbrev jy:Stmt:=inClass (top 37) 1
abbrev tZ:Stmt:=top 32
abbrev rH:Stmt:=top 29
abbrev tW:Stmt:=top 33
abbrev wo:Stmt:=top 34
abbrev fL:Stmt:=inClass (top 37) 2
abbrev yE:Stmt:=top 24
abbrev wu:Stmt:=top 31
abbrev gJ:Stmt:=inClass (top 37) 3
abbrev fK:Stmt:=inClass (top 37) 4
abbrev iW:Stmt:=inClass (top 37) 5
abbrev uv:Stmt:=top 78
abbrev lH:Stmt:=top 70
abbrev pK:Stmt:=top 71
abbrev nP:Stmt:=top 72
abbrev lI:Stmt:=top 79
abbrev wt:Stmt:=top 35
abbrev j8:Stmt:=inClass (top 37) 6
abbrev jz:Stmt:=inClass (top 37) 7
abbrev uu:Stmt:=top 50
abbrev rK:Stmt:=top 80
abbrev M8:Stmt:=top 81
set_option genInjectivity false in
set_option genSizeOf false in
structure Ads where
 CS:Addr
 Cs:FuncData
 Aa:Addr
 zM:FuncData
 ye:Addr
 xS:FuncData
 Ai:Addr
 zT:FuncData
 CM:Addr
 Cp:FuncData
 CK:Addr
 Cm:FuncData
 Ae:Addr
 zP:FuncData
 Ad:Addr
 zO:FuncData
 Ej:Addr
 D3:FuncData
 yi:Addr
 xW:FuncData
 qY:Addr
 qM:FuncData
 vU:Addr
 vN:FuncData
 CL:Addr
 Cn:FuncData
 Ag:Addr
 zR:FuncData
 yh:Addr
 xV:FuncData
 vT:Addr
 vM:FuncData
 zZ:Addr
 zH:FuncData
 CJ:Addr
 Ck:FuncData
 qX:Addr
 qK:FuncData
 z9:Addr
 zL:FuncData
 HY:Addr
 HM:FuncData
 vS:Addr
 vL:FuncData
 kU:Addr
 kQ:FuncData
 vX:Addr
 vQ:FuncData
 Ah:Addr
 zS:FuncData
 uS:Addr
 uO:FuncData
 yg:Addr
 xU:FuncData
 oY:Addr
 oV:FuncData
 tI:Addr
 tH:FuncData
 z5:Addr
 zI:FuncData
 z8:Addr
 zK:FuncData
 lX:Addr
 lU:FuncData
 Ac:Addr
 zN:FuncData
 yd:Addr
 xR:FuncData
 CN:Addr
 Cq:FuncData
 vW:Addr
 vP:FuncData
 CO:Addr
 Cr:FuncData
 Ei:Addr
 DZ:FuncData
 Af:Addr
 zQ:FuncData
 Al:Addr
 zV:FuncData
 vR:Addr
 vK:FuncData
 HX:Addr
 HL:FuncData
 za:Addr
 yZ:FuncData
 oq:Addr
 oi:FuncData
 Ia:Addr
 HP:FuncData
 OM:Addr
 OB:FuncData
 ON:Addr
 OC:FuncData
 Eg:Addr
 DX:FuncData
 HZ:Addr
 HN:FuncData
 sY:Addr
 sS:FuncData
 z6:Addr
 zJ:FuncData
 yc:Addr
 xQ:FuncData
 zY:Addr
 zG:FuncData
 CD:Addr
 Cg:FuncData
 kX:Addr
 kS:FuncData
 Eh:Addr
 DY:FuncData
 CI:Addr
 Cj:FuncData
 lV:Addr
 lR:FuncData
 kW:Addr
 kR:FuncData
 p7:Addr
 p4:FuncData
 uT:Addr
 uP:FuncData
 qZ:Addr
 qN:FuncData
 vV:Addr
 vO:FuncData
 uU:Addr
 uQ:FuncData
 rf:Addr
 qO:FuncData
 CG:Addr
 Ci:FuncData
 uV:Addr
 uR:FuncData
 sZ:Addr
 sT:FuncData
 Aj:Addr
 zU:FuncData
 yf:Addr
 xT:FuncData
 Sf:Addr
 RX:FuncData
 t_MOST_STATES:Tok
 t_MOST_PUTS:Tok
 t_MOST_LOOKS:Tok
 a_System:Addr
 a_Costs:Addr
structure Txt (K:W.Frag) (mg:Str->Option Value) (Z:Ads):Prop where
 uJ:Df K mg "_law_bag" wF ["_law_script"] Z.CS Z.Cs
 aV:Df K mg "_law_take" uf ["_law_bag_here","_law_many"] Z.Aa Z.zM
 pW:Df K mg "_law_sizes" mX ["_law_bag_here"] Z.ye Z.xS
 kL:Df K mg "_law_line" ur ["_law_bag_here","_law_n"] Z.Ai Z.zT
 hZ:Df K mg "_law_low" wC ["_law_top","_law_bottom"] Z.CM Z.Cp
 hR:Df K mg "_law_sum" wA ["_law_one","_law_other"] Z.CK Z.Cm
 ni:Df K mg "_law_plus" uj ["_law_one","_law_other"] Z.Ae Z.zP
 hX:Df K mg "_law_prod" ui ["_law_one","_law_other"] Z.Ad Z.zO
 sN:Df K mg "_law_by" yG ["_law_by_here","_law_row_here"] Z.Ej Z.D3
 ma:Df K mg "_law_mixed" rN ["_law_bag_here","_law_move_here","_law_put","_law_look"] Z.yi Z.xW
 kK:Df K mg "_law_two_lines" lG ["_law_bag_here"] Z.qY Z.qM
 nX:Df K mg "_law_number" pJ ["_law_bag_here","_law_wide"] Z.vU Z.vN
 jn:Df K mg "_law_row" wB ["_law_bag_here","_law_many","_law_wide"] Z.CL Z.Cn
 sI:Df K mg "_law_move" uo ["_law_bag_here","_law_n","_law_way","_law_first","_law_wide"] Z.Ag Z.zR
 pY:Df K mg "_law_parts" rM ["_law_bag_here","_law_n","_law_ins","_law_outs","_law_wide"] Z.yh Z.xV
 nW:Df K mg "_law_system" pI ["_law_bag_here"] Z.vT Z.vM
 kI:Df K mg "want_list" tX ["thing","at","most"] Z.zZ Z.zH
 oR:Df K mg "is_whole" wy ["thing"] Z.CJ Z.Ck
 fM:Df K mg "common_divisor" lE ["one","other"] Z.qX Z.qK
 rX:Df K mg "is_number" ue ["thing"] Z.z9 Z.zL
 yO:Df K mg "is_row" Bm ["thing","many"] Z.HY Z.HM
 jm:Df K mg "copied_rows" pH ["things","wide"] Z.vS Z.vL
 oW:Binds K Z.kQ ["self","move","put","look"] []
 o6:F1 K "__init__" "System.__init__" fJ Z.kU Z.kQ
 jr:Df K mg "_law_copied" pO ["_law_grid"] Z.vX Z.vQ
 sJ:Df K mg "_law_made" uq ["_law_parts_here"] Z.Ah Z.zS
 iV:Df K mg "_law_weights" nO ["_law_bag_here","_law_many","_law_begin"] Z.uS Z.uO
 l9:Df K mg "_law_rates" rL ["_law_bag_here","_law_parts_here"] Z.yg Z.xU
 jW:Df K mg "common_multiple" kB ["wholes"] Z.oY Z.oV
 dJ:Df K mg "common_bottom" mS ["row"] Z.tI Z.tH
 gE:Df K mg "tops_over" tY ["row","bottom"] Z.z5 Z.zI
 nh:Df K mg "main_line" t9 ["row"] Z.z8 Z.zK
 qV:Binds K Z.lU ["self","system","state_weights","put_weights","last_weights"] []
 rj:F1 K "__init__" "Costs.__init__" gK Z.lX Z.lU
 rY:Df K mg "_law_puts" uh ["_law_bag_here","_law_parts_here","_law_steps_here","_law_wide"] Z.Ac Z.zN
 pV:Df K mg "_law_steps" rJ ["_law_bag_here","_law_parts_here"] Z.yd Z.xR
 uI:Df K mg "_law_few" rO ["_law_bag_here","_law_parts_here"] Z.CN Z.Cq
 jo:Df K mg "_law_effort" pL ["_law_weights_here","_law_puts_here"] Z.vW Z.vP
 oS:Df K mg "_law_dot" wD ["_law_one","_law_other"] Z.CO Z.Cr
 rZ:Df K mg "_law_on" yF ["_law_grid","_law_row_here"] Z.Ei Z.DZ
 so:Df K mg "_law_next" uk ["_law_parts_here","_law_state","_law_puts_here"] Z.Af Z.zQ
 kO:Df K mg "_law_cost" uw ["_law_parts_here","_law_weights_here","_law_start","_law_puts_here"] Z.Al Z.zV
 kJ:Df K mg "grid_turned" pG ["grid","wide"] Z.vR Z.vK
 lN:Df K mg "lowest" Bl ["top","bottom"] Z.HX Z.HL
 lM:Df K mg "row_dot" yD ["one","other"] Z.za Z.yZ
 mT:Dw K Z.a_System "moved" Z.oq
 oo:Binds K Z.oi ["self","state","puts"] []
 va:F1 K "moved" "System.moved" iD Z.oq Z.oi
 yP:Df K mg "course" Bo ["system","start","puts"] Z.Ia Z.HP
 AD:Df K mg "plus" IQ ["one","other"] Z.OM Z.OB
 vn:Df K mg "flat" IS ["lists"] Z.ON Z.OC
 wN:Df K mg "squared" yC ["value"] Z.Eg Z.DX
 qI:Df K mg "effort" Bn ["weights","puts"] Z.HZ Z.HN
 me:Dw K Z.a_Costs "cost" Z.sY
 nk:Binds K Z.sS ["self","start","puts"] []
 yn:F1 K "cost" "Costs.cost" jy Z.sY Z.sS
 rW:Df K mg "told_grid" tZ ["whole"] Z.z6 Z.zJ
 pU:Df K mg "whole_grid" rH ["grid"] Z.yc Z.xQ
 rV:Df K mg "whole_dot" tW ["one","other"] Z.zY Z.zG
 mK:Df K mg "whole_on" wo ["lines","tops"] Z.CD Z.Cg
 nZ:Dw K Z.a_Costs "step_cost" Z.kX
 oX:Binds K Z.kS ["self","behind"] []
 o8:F1 K "step_cost" "Costs.step_cost" fL Z.kX Z.kS
 wO:Df K mg "cleared" yE ["lines","at","place","before"] Z.Eh Z.DY
 uH:Df K mg "lessened" wu ["lines","bottom"] Z.CI Z.Cj
 oT:Dw K Z.a_Costs "ahead_of" Z.lV
 qU:Binds K Z.lR ["self","behind"] []
 rh:F1 K "ahead_of" "Costs.ahead_of" gJ Z.lV Z.lR
 iR:Dw K Z.a_Costs "with_left" Z.kW
 jd:Binds K Z.kR ["self","left"] []
 o7:F1 K "with_left" "Costs.with_left" fK Z.kW Z.kR
 kP:Dw K Z.a_Costs "worth" Z.p7
 mB:Binds K Z.p4 ["self","left"] []
 vZ:F1 K "worth" "Costs.worth" iW Z.p7 Z.p4
 fA:Df K mg "_law_kept" uv ["_law_thing"] Z.uT Z.uP
 jb:Df K mg "_law_is_number" lH ["_law_thing"] Z.qZ Z.qN
 nY:Df K mg "_law_is_row" pK ["_law_thing","_law_many"] Z.vV Z.vO
 jN:Df K mg "_law_is_grid" nP ["_law_thing","_law_many","_law_wide"] Z.uU Z.uQ
 kM:Df K mg "_law_grid_well" lI ["_law_grid","_law_n"] Z.rf Z.qO
 oQ:Df K mg "on_state" wt ["whole","state"] Z.CG Z.Ci
 xJ:Dw K Z.a_Costs "due" Z.uV
 zX:Binds K Z.uR ["self","state","left"] []
 An:F1 K "due" "Costs.due" j8 Z.uV Z.uR
 vJ:Dw K Z.a_Costs "best" Z.sZ
 yb:Binds K Z.sT ["self","start","steps"] []
 yo:F1 K "best" "Costs.best" jz Z.sZ Z.sT
 sL:Df K mg "_law_less" uu ["_law_one","_law_other"] Z.Aj Z.zU
 pX:Df K mg "_law_right" rK ["_law_parts_here","_law_told","_law_weights_here","_law_start","_law_puts_here"] Z.yf Z.xT
 Sk:F1 K "law" "law" M8 Z.Sf Z.RX
 abs:mg "abs"=none
 len:mg "len"=none
 min:mg "min"=none
 int:mg "int"=none
 range:mg "range"=none
 isinstance:mg "isinstance"=none
 list:mg "list"=none
 bool:mg "bool"=none
 tuple:mg "tuple"=none
 all:mg "all"=none
 enumerate:mg "enumerate"=none
 max:mg "max"=none
 zip:mg "zip"=none
 sum:mg "sum"=none
 mg_MOST_STATES:mg "MOST_STATES"=some (.int 8 Z.t_MOST_STATES)
 mg_MOST_PUTS:mg "MOST_PUTS"=some (.int 4 Z.t_MOST_PUTS)
 mg_MOST_LOOKS:mg "MOST_LOOKS"=some (.int 4 Z.t_MOST_LOOKS)
 mg_System:mg "System"=some (.ref Z.a_System)
 cl_System:Ml K Z.a_System
 na_move:iT K Z.a_System "move"
 na_states:iT K Z.a_System "states"
 na_put:iT K Z.a_System "put"
 na_ins:iT K Z.a_System "ins"
 na_look:iT K Z.a_System "look"
 na_outs:iT K Z.a_System "outs"
 mk_System:Mk K Z.a_System Z.kU
 mg_Costs:mg "Costs"=some (.ref Z.a_Costs)
 cl_Costs:Ml K Z.a_Costs
 na_Costs_known:iT K Z.a_Costs "known"
 na_Costs_last_weights:iT K Z.a_Costs "last_weights"
 na_Costs_put_weights:iT K Z.a_Costs "put_weights"
 na_Costs_state_weights:iT K Z.a_Costs "state_weights"
 na_Costs_system:iT K Z.a_Costs "system"
 mk_Costs:Mk K Z.a_Costs Z.lX
section
variable {P:Program} {w:World} {K:W.Frag} {mg:Str->Option Value} {base:Heap} {Z:Ads}
theorem GQ:ba ["_law_script"] ["_law_script"] (aM wF):=by walk_at "d"
theorem G4 (T:Txt K mg Z) (ptree:P.given.tree=none):cQ P w K mg base iJ 1 Z.CS Z.Cs ["_law_script"] (M6 K):=by
 refine T.uJ.F.ok GQ (λvs H Q E h=>?_) (λcdv A outer s H vs Q E hr h=>?_)
 ·obtain a|ns|rfl|_:=h;rfl
 ·obtain a|ns|rfl|hS|hlen|k:=h;refine #[_,(az (a8 (d6 (aa ak (aa ak (aa ak (aa (b8 ["_law_cell"] [] [] (b7 (qF ve (pv 0) vg (vf ak))) (λ_=>(aN (i:=0) (show ND9 ["_law_cell"] by decide +kernel))) (λ_=>cb) (λ_=>(bG xY (by rfl) T.abs PyProof.Rows.boot_abs (aa (pv 0) ag)))) ag))))))),?_];refine aX (σ:=[some (.ref a)]) rfl ?_;exists #[a,_,rfl,hS,λl hl=>?_];have hcl:(qP (ns.map V.int) none (some 63)).9<=63:=aj (zW _ _ _) (by simpa using hlen);refine #[l,rfl,#[_,bJ.of aK],?_];refine eS (K:=K) (a:=l) (xs:=qP (ns.map V.int) none (some 63)) (λi ys H'=>H'=upd H l (.lst (qP (ns.map V.int) none (some 63)))/\∃cs:List Int,ys=cs.map V.int/\∀x∈cs,0<=x) (aj hcl ()) #[rfl,[],rfl,λ_ z=>nomatch z] (λi ys H' _ #[e,_]=>by subst e;exact bJ.of aK) ?_ ?_
  ·rintro i x ys H' hx hi ⟨rfl,cs,rfl,hcs⟩
   obtain ⟨z,rfl⟩:∃z,x=V.int z:=by
    have hm:x∈ns.map V.int:=gW (cz (ao hx));obtain z|_|e:=av.mp hm;exact #[z,e.symm]
   exists #[rfl,cs++[if z < 0 then -z else z],by simp,λx hx=>?_];rcases aw.mp hx with hx | hx
   ·exact hcs x hx
   ·have e:x=if z < 0 then -z else z:=by simpa using hx
    subst e
    split <;> lia
  ·rintro ys H' hy ⟨rfl,cs,rfl,hcs⟩ p hp;exists #[by show 4<=sizeLine;decide,λb hb=>?_];have n1:b≠p:=λz=>by rw[z,aK] at hb;cases hb
   have hb1:(upd H l (.lst (qP (ns.map V.int) none (some 63)))) b=none:=by rw[a7 n1] at hb;exact hb
   have s1:aA H (upd H l (.lst (qP (ns.map V.int) none (some 63)))):=aA.new hl;refine k b _ (s1.free hb1) #[p,0,1234567891,0,cs,aK,by rw[a7 n1.symm];exact aK,(),(),(),hcs] ((s1.trans (aA.new hp)).trans (aA.new hb))
theorem fZ:ba ["_law_bag_here","_law_many","_law_more","_law_cell","_law_value","_law_first","_law_second"] ["_law_bag_here","_law_many"] (aM uf):=by walk_at "d"
theorem eF (T:Txt K mg Z) (ptree:P.given.tree=none):cQ P w K mg base iJ 1 Z.Aa Z.zM ["_law_bag_here","_law_many"] Pu:=by
 refine T.aV.F.ok fZ (λvs H Q E h=>?_) (λcdv A outer s H vs Q E hr h=>?_)
 ·obtain p|n|rfl|_:=h;rfl
 ·obtain p|n|rfl|⟨q,a,b,c,cs,hp,hq,ha,hc,hcl,hcs⟩|hn|hn2|k:=h;have nqp:q≠p:=Md hp hq
  refine #[_,(ka (dO (bC ik (aU bz (pv 0) ak) ak (bI _)) (au (aZ (i:=2) fZ.nd rfl (Or.inl rfl) ak)
   (ka (dO (bC vF (aU bz (pv 0) ak) (bG bw (by rfl) T.len bc (aa (aU bz (pv 0) ak) ag)) (bI _)) (au (aZ (i:=3) fZ.nd rfl (Or.inl rfl) (aU bz (aU bz (pv 0) ak) (aU bz (pv 0) ak)))
   (au (Ql (pv 0) ak Oi ak TC set_list)
   (au (dO (bC BH (pv 3) ak (bI _)) (az (iE (pv 3) (jk (pv 0) ak set_list))) ck)
   (az (aZ (i:=2) fZ.nd rfl (Or.inl rfl) (bA gN (bA pQ (pv 3) ak) ak)))))) ck)
   (az (iE (bA pQ (bA gN (bA cH (aU bz (pv 0) ak) ak) (pv 2)) ak) (jk (pv 0) ak set_list))))) ck)
   (au (dO (bC xy (aU bz (pv 0) ak) ak (bI _)) (au (aZ (i:=4) fZ.nd rfl (Or.inl rfl) (bA pQ (aU bz (pv 0) ak) (pv 1)))
   (au (iE (bA (hJ rfl fZ rfl rfl rfl ptree (oU hr)) (aU bz (pv 0) ak) (pv 1)) (jk (pv 0) ak set_list))
   (az (a8 (pv 4))))) ck)
   (au (aZ (i:=5) fZ.nd rfl (Or.inl rfl) (bA pQ (bA cH (aU bz (pv 0) ak) ak) ak))
   (au (aZ (i:=6) fZ.nd rfl (Or.inl rfl) (bA pQ (bA cH (pv 5) ak) ak))
   (au (dO (bC xy (pv 1) ak (bI _)) (az (a8 (bA pQ (bA gN (bA cH (pv 6) ak) (pv 5)) (pv 1)))) ck)
   (az (a8 (bA pQ (bA (hJ rfl fZ rfl rfl rfl ptree (oU hr)) (pv 6) ak) (pv 1))))))))),?_]
  refine aX (σ:=[some (.ref p),some (.int n),none,none,none,none,none]) rfl ?_;refine #[λσ' H'=>∃(x y:Option V) (a' b' c':Int),σ'=[some (.ref p),some (.int n),x,y,none,none,none]/\H' p=some (.lst [.int a',.int b',.int c',.ref q])/\0<=a'/\0<=c'/\c'<=cs.9/\cM p H H',?_,?_]
  ·exists jC (λh0=>?_) (λh0=>?_)
   ·exists #[λσ' H'=>∃(m:Int) (y:Option V) (a' c':Int),σ'=[some (.ref p),some (.int n),some (.int m),y,none,none,none]/\H' p=some (.lst [.int a',.int b,.int c',.ref q])/\0<=a'/\0<=c'/\c'<=cs.9/\cM p H H',?_,?_]
    ·exists #[_,_,rfl,.inl (bJ.of hq),?_];exists jC (λh1=>?_) (λh1=>?_)
     ·have h1':c < cs.9:=by simpa using of_decide_eq_true h1
      obtain ⟨z,hz⟩:∃z,cs[c.toNat]?=some z:=#[_,ai ()];have hz0:0<=z:=hcs z (ao hz);exists cy (bJ.of hq) (v:=.int z) ?_ ?_
      ·have:=eO (xs:=cs.map V.int) (j:=c.toNat) (v:=.int z) (by rw[ay,hz];rfl);rwa [Int.toNat_of_nonneg hc] at this
      exists jC (λh2=>?_) (λh2=>?_)
      ·exists #[_,_,z,c+1,rfl,aK,hz0,(),(),(cM.set hp).trans (cM.set aK)]
      ·exists #[_,_,a,c+1,rfl,aK,ha,(),(),cM.set hp]
     ·exists #[_,_,a,c,rfl,hp,ha,hc,hcl,cM.refl _]
    ·rintro σ' H' ⟨m,y,a',c',rfl,hp',ha',hc',hcl',u'⟩;exists #[_,_,a',_,c',rfl,aK,ha',hc',hcl',u'.trans (cM.set hp')]
   ·exists #[_,_,a,b,c,rfl,hp,ha,hc,hcl,cM.refl _]
  ·rintro σ' H' ⟨x,y,a',b',c',rfl,hp',ha',hc',hcl',u'⟩;have hq':H' q=some (.lst (cs.map V.int)):=u'.1 q _ hq nqp
   have sn:Sz 8999000 n:=by
    show n.natAbs < 2^8999000
    exact bx (show n.natAbs < 2^64 by lia) (aF () ())
   exists jC (λh0=>?_) (λh0=>?_)
   ·exists fD (show (0:Int) < n from hn) ?_;exists fD (show oB _ _ from #[(),sn]) ?_;exists k _ _ (nD _ ()) (jQ _ hn) #[q,_,b',c',cs,aK,by rw[a7 nqp];exact hq',?_,hc',hcl',hcs] (u'.trans (cM.set hp'));rw[bK _ ()];exact Int.ediv_nonneg ha' ()
   ·exists jC (λh1=>?_) (λh1=>?_)
    ·exists fD (show (0:Int) < n from hn) ?_;exact k _ _ (nD _ ()) (jQ _ hn) #[q,a',b',c',cs,hp',hq',ha',hc',hcl',hcs] u'
    ·exists fD (show oB _ _ from #[(),by show (3:Nat) < 2^8999000;exact bx (show 3 < 2^2 by decide) (aF () ())]) ?_;exists fD (show (0:Int) < n from hn) ?_;exact k _ _ (nD _ ()) (jQ _ hn) #[q,a',b',c',cs,hp',hq',ha',hc',hcl',hcs] u'
theorem Dt:∃x1 x2 x3 x4 x5 x6 x7 x8 x9 x10 x11 x12 x13 x14 x15 x16:Expr,x1=(Expr.Constant (Const.int 0) 0 #[303,16,303,17])/\x2=(Expr.Constant (Const.int 1) 0 #[303,19,303,20])/\x3=(Expr.Constant (Const.int 1) 0 #[303,22,303,23])/\x4=(Expr.Constant (Const.int 1) 0 #[303,25,303,26])/\x5=(Expr.Constant (Const.int 2) 0 #[303,28,303,29])/\x6=(Expr.Constant (Const.int 2) 0 #[303,31,303,32])/\x7=(Expr.Constant (Const.int 3) 0 #[303,34,303,35])/\x8=(Expr.Constant (Const.int 4) 0 #[303,37,303,38])/\x9=(Expr.Constant (Const.int 0) 0 #[304,17,304,18])/\x10=(Expr.Constant (Const.int 1) 0 #[304,20,304,21])/\x11=(Expr.Constant (Const.int 1) 0 #[304,23,304,24])/\x12=(Expr.Constant (Const.int 1) 0 #[304,26,304,27])/\x13=(Expr.Constant (Const.int 2) 0 #[304,29,304,30])/\x14=(Expr.Constant (Const.int 2) 0 #[304,32,304,33])/\x15=(Expr.Constant (Const.int 3) 0 #[304,35,304,36])/\x16=(Expr.Constant (Const.int 4) 0 #[304,38,304,39])/\fN mX=[ (Stmt.Assign (targets:=[(Expr.Name "_law_n" #[300,4,300,10])]) (value:=(Expr.Call (func:=(Expr.Name "_law_take" #[300,13,300,22])) (args:=[ (Expr.Name "_law_bag_here" #[300,23,300,36]),(Expr.Constant (Const.int 5) 0 #[300,38,300,39])]) (keywords:=[]) (pos:=#[300,13,300,40]))) (pos:=#[300,4,300,40])),(Stmt.If (test:=(Expr.Compare (left:=(Expr.Call (func:=(Expr.Name "_law_take" #[301,7,301,16])) (args:=[ (Expr.Name "_law_bag_here" #[301,17,301,30]),(Expr.Constant (Const.int 8) 0 #[301,32,301,33])]) (keywords:=[]) (pos:=#[301,7,301,34]))) (ops:=[PySem.CmpOp.Eq]) (comparators:=[(Expr.Constant (Const.int 7) 0 #[301,38,301,39])]) (pos:=#[301,7,301,39]))) (body:=[ (Stmt.Assign (targets:=[(Expr.Name "_law_n" #[302,8,302,14])]) (value:=(Expr.Constant (Const.int 5) 0 #[302,17,302,18])) (pos:=#[302,8,302,18]))]) (orelse:=[]) (pos:=#[301,4,302,18])),(Stmt.Assign (targets:=[(Expr.Name "_law_ins" #[303,4,303,12])]) (value:=(Expr.Subscript (value:=(Expr.List (elts:=[x1,x2,x3,x4,x5,x6,x7,x8]) (pos:=#[303,15,303,39]))) (slice:=(Expr.Call (func:=(Expr.Name "_law_take" #[303,40,303,49])) (args:=[ (Expr.Name "_law_bag_here" #[303,50,303,63]),(Expr.Constant (Const.int 8) 0 #[303,65,303,66])]) (keywords:=[]) (pos:=#[303,40,303,67]))) (pos:=#[303,15,303,68]))) (pos:=#[303,4,303,68])),(Stmt.Assign (targets:=[(Expr.Name "_law_outs" #[304,4,304,13])]) (value:=(Expr.Subscript (value:=(Expr.List (elts:=[x9,x10,x11,x12,x13,x14,x15,x16]) (pos:=#[304,16,304,40]))) (slice:=(Expr.Call (func:=(Expr.Name "_law_take" #[304,41,304,50])) (args:=[ (Expr.Name "_law_bag_here" #[304,51,304,64]),(Expr.Constant (Const.int 8) 0 #[304,66,304,67])]) (keywords:=[]) (pos:=#[304,41,304,68]))) (pos:=#[304,16,304,69]))) (pos:=#[304,4,304,69])),(Stmt.If (test:=(Expr.Compare (left:=(Expr.Name "_law_n" #[305,7,305,13])) (ops:=[PySem.CmpOp.Eq]) (comparators:=[(Expr.Constant (Const.int 5) 0 #[305,17,305,18])]) (pos:=#[305,7,305,18]))) (body:=[ (Stmt.Assign (targets:=[ (Expr.Tuple (elts:=[(Expr.Name "_law_ins" #[306,8,306,16]),(Expr.Name "_law_outs" #[306,18,306,27])]) (k:=0) (pos:=#[306,8,306,27]))]) (value:=(Expr.Tuple (elts:=[ (Expr.Call (func:=(Expr.Name "min" #[306,31,306,34])) (args:=[ (Expr.Name "_law_ins" #[306,35,306,43]),(Expr.Constant (Const.int 2) 0 #[306,45,306,46])]) (keywords:=[]) (pos:=#[306,31,306,47])),(Expr.Call (func:=(Expr.Name "min" #[306,49,306,52])) (args:=[ (Expr.Name "_law_outs" #[306,53,306,62]),(Expr.Constant (Const.int 2) 0 #[306,64,306,65])]) (keywords:=[]) (pos:=#[306,49,306,66]))]) (k:=0) (pos:=#[306,30,306,67]))) (pos:=#[306,8,306,67]))]) (orelse:=[]) (pos:=#[305,4,306,67])),(Stmt.Assign (targets:=[(Expr.Name "_law_wide" #[307,4,307,13])]) (value:=(Expr.Subscript (value:=(Expr.List (elts:=[ (Expr.Constant (Const.int 4) 0 #[307,17,307,18]),(Expr.Constant (Const.int 4) 0 #[307,20,307,21]),(Expr.Constant (Const.int 9) 0 #[307,23,307,24]),(Expr.Constant (Const.int 1000000) 0 #[307,26,307,33])]) (pos:=#[307,16,307,34]))) (slice:=(Expr.Call (func:=(Expr.Name "_law_take" #[307,35,307,44])) (args:=[ (Expr.Name "_law_bag_here" #[307,45,307,58]),(Expr.Constant (Const.int 4) 0 #[307,60,307,61])]) (keywords:=[]) (pos:=#[307,35,307,62]))) (pos:=#[307,16,307,63]))) (pos:=#[307,4,307,63])),(Stmt.If (test:=(Expr.Compare (left:=(Expr.Name "_law_wide" #[308,7,308,16])) (ops:=[PySem.CmpOp.Gt]) (comparators:=[(Expr.Constant (Const.int 9) 0 #[308,19,308,20])]) (pos:=#[308,7,308,20]))) (body:=[ (Stmt.Assign (targets:=[(Expr.Name "_law_n" #[309,8,309,14])]) (value:=(Expr.Call (func:=(Expr.Name "min" #[309,17,309,20])) (args:=[ (Expr.Name "_law_n" #[309,21,309,27]),(Expr.Constant (Const.int 2) 0 #[309,29,309,30])]) (keywords:=[]) (pos:=#[309,17,309,31]))) (pos:=#[309,8,309,31]))]) (orelse:=[]) (pos:=#[308,4,309,31])),(Stmt.Return (value:=(some (Expr.Tuple (elts:=[ (Expr.Name "_law_n" #[310,12,310,18]),(Expr.Name "_law_ins" #[310,20,310,28]),(Expr.Name "_law_outs" #[310,30,310,39]),(Expr.Name "_law_wide" #[310,41,310,50])]) (k:=0) (pos:=#[310,11,310,51])))) (pos:=#[310,4,310,51]))]:=#[_,_,_,_,_,_,_,_,_,_,_,_,_,_,_,_,rfl,rfl,rfl,rfl,rfl,rfl,rfl,rfl,rfl,rfl,rfl,rfl,rfl,rfl,rfl,rfl,by with_unfolding_all rfl]
theorem gH:ba ["_law_bag_here","_law_n","_law_ins","_law_outs","_law_wide"] ["_law_bag_here"] (aM mX):=by walk_at "d"
theorem Dg (T:Txt K mg Z) (ptree:P.given.tree=none):cQ P w K mg base iJ 2 Z.ye Z.xS ["_law_bag_here"] Li:=by
 have aS:=eF (P:=P) (w:=w) (base:=base) T ptree;refine T.pW.F.ok gH (λvs H Q E h=>?_) (λcdv A outer s H vs Q E hr h=>?_)
 ·obtain b|rfl|_:=h;rfl
 ·obtain b|rfl|hB|k:=h;obtain x1|x2|x3|x4|x5|x6|x7|x8|x9|x10|x11|x12|x13|x14|x15|x16|hx1|hx2|hx3|hx4|hx5|hx6|hx7|hx8|hx9|hx10|hx11|hx12|hx13|hx14|hx15|hx16|hbd:=Dt;rw[hbd]
  refine #[_,(au (aZ (i:=1) gH.nd rfl (Or.inl rfl) (cK aS hr T.aV (aa (pv 0) (aa ak ag))))
   (ka (dO (bC ik (cK aS hr T.aV (aa (pv 0) (aa ak ag))) ak (bI _)) (az (aZ (i:=1) gH.nd rfl (Or.inl rfl) ak)) ck)
   (au (aZ (i:=2) gH.nd rfl (Or.inl rfl) (aU bz (d6 (c6 hx1 ak (c6 hx2 ak (c6 hx3 ak (c6 hx4 ak (c6 hx5 ak (c6 hx6 ak (c6 hx7 ak (c6 hx8 ak ag))))))))) (cK aS hr T.aV (aa (pv 0) (aa ak ag)))))
   (au (aZ (i:=3) gH.nd rfl (Or.inl rfl) (aU bz (d6 (c6 hx9 ak (c6 hx10 ak (c6 hx11 ak (c6 hx12 ak (c6 hx13 ak (c6 hx14 ak (c6 hx15 ak (c6 hx16 ak ag))))))))) (cK aS hr T.aV (aa (pv 0) (aa ak ag)))))
   (ka (dO (bC ik (pv 1) ak (bI _)) (az (Nu (i:=2) (j:=3) rfl gH.nd rfl rfl () rfl rfl (aa (bG (qR rfl) (by rfl) T.min PyProof.Rows.boot_min (aa (pv 2) (aa ak ag))) (aa (bG (qR rfl) (by rfl) T.min PyProof.Rows.boot_min (aa (pv 3) (aa ak ag))) ag)) rfl)) ck)
   (au (aZ (i:=4) gH.nd rfl (Or.inl rfl) (aU bz (d6 (aa ak (aa ak (aa ak (aa ak ag))))) (cK aS hr T.aV (aa (pv 0) (aa ak ag)))))
   (ka (dO (bC xy (pv 4) ak (bI _)) (az (aZ (i:=1) gH.nd rfl (Or.inl rfl) (bG (qR rfl) (by rfl) T.min PyProof.Rows.boot_min (aa (pv 1) (aa ak ag))))) ck)
   (az (a8 (cP (aa (pv 1) (aa (pv 2) (aa (pv 3) (aa (pv 4) ag)))))))))))))),?_]
  refine aX (σ:=[some (.ref b),none,none,none,none]) rfl ?_;exists #[b,5,rfl,hB,(),(),λn H1 n0 n1 B1 u1=>?_];obtain n|rfl:=cO n0;exists #[λσ' H'=>(∃n:Nat,σ'=[some (.ref b),some (.int n),none,none,none]/\n<=5)/\iq H' b/\cM b H H',?_,?_]
  ·exists #[b,8,rfl,B1,(),(),λv H2 v0 v1 B2 u2=>?_];exists jC (λ_=>?_) (λ_=>?_)
   ·exists #[#[5,rfl,()],B2,u1.trans u2]
   ·exists #[#[n,rfl,()],B2,u1.trans u2]
  clear n0 n1 u1 B1;rintro σ' H1 ⟨⟨n,rfl,n5⟩,B1,u1⟩;exists dw λl0 H2 s2 n2 g2=>?_
  exists #[b,8,rfl,B1.same s2,(),(),λv H3 v0 v1 B3 u3=>?_];have g3:=u3.other (λz=>B1.at (by rw[<- z];exact n2)) g2;obtain x|ex|mx|_:=kT (xs:=[V.int 0,V.int 1,V.int 1,V.int 1,V.int 2,V.int 2,V.int 3,V.int 4]) v0 (by simpa using v1)
  obtain ⟨i,rfl,hi⟩:∃z:Nat,x=.int z/\z<=4:=by
   simp only[aI,aT,or_false] at mx;rcases mx with rfl | rfl | rfl | rfl | rfl | rfl | rfl | rfl
   ·exact #[0,rfl,()]
   ·exact #[1,rfl,()]
   ·exact #[1,rfl,()]
   ·exact #[1,rfl,()]
   ·exact #[2,rfl,()]
   ·exact #[2,rfl,()]
   ·exact #[3,rfl,()]
   ·exact #[4,rfl,()]
  exists cy (bJ.of g3) ex ?_;clear ex mx g3 g2;exists dw λl1 H4 s4 n4 g4=>?_
  exists #[b,8,rfl,B3.same s4,(),(),λt H5 t0 t1 B5 u5=>?_];have g5:=u5.other (λz=>B3.at (by rw[<- z];exact n4)) g4;obtain x|ex|mx|_:=kT (xs:=[V.int 0,V.int 1,V.int 1,V.int 1,V.int 2,V.int 2,V.int 3,V.int 4]) t0 (by simpa using t1)
  obtain ⟨o,rfl,ho⟩:∃z:Nat,x=.int z/\z<=4:=by
   simp only[aI,aT,or_false] at mx;rcases mx with rfl | rfl | rfl | rfl | rfl | rfl | rfl | rfl
   ·exact #[0,rfl,()]
   ·exact #[1,rfl,()]
   ·exact #[1,rfl,()]
   ·exact #[1,rfl,()]
   ·exact #[2,rfl,()]
   ·exact #[2,rfl,()]
   ·exact #[3,rfl,()]
   ·exact #[4,rfl,()]
  exists cy (bJ.of g5) ex ?_;clear ex mx g5 g4;have u15:=(((u1.same s2).trans u3).same s4).trans u5;exists #[λσ' H'=>(∃i o:Nat,σ'=[some (.ref b),some (.int n),some (.int i),some (.int o),none]/\i<=4/\o<=4/\(n=5->i<=2/\o<=2))/\iq H' b/\cM b H H',?_,?_]
  ·exists jC (λh0=>?_) (λh0=>?_)
   ·exists #[#[min i 2,min o 2,?_,(),(),λ_=>#[(),()]],B5,u15];have e1:(if (2:Int) < (i:Int) then (2:Int) else (i:Int))=((min i 2:Nat):Int):=by split <;> lia
    have e2:(if (2:Int) < (o:Int) then (2:Int) else (o:Int))=((min o 2:Nat):Int):=by split <;> lia
    rw[<- e1,<- e2];rfl
   ·exists #[#[i,o,rfl,hi,ho,λz=>absurd (decide_eq_true (show (n:Int)=5 by lia)) h0],B5,u15]
  clear hi ho u15 B5 u5 u3 u1;rintro σ' H5 ⟨⟨i,o,rfl,hi,ho,h5⟩,B5,u5⟩;exists dw λl2 H6 s6 n6 g6=>?_
  exists #[b,4,rfl,B5.same s6,(),(),λv H7 v0 v1 B7 u7=>?_];have g7:=u7.other (λz=>B5.at (by rw[<- z];exact n6)) g6;obtain x|ex|mx|_:=kT (xs:=[V.int 4,V.int 4,V.int 9,V.int 1000000]) v0 (by simpa using v1)
  obtain ⟨w,rfl,hw⟩:∃w:Nat,x=.int w/\(w=4\/w=9\/w=1000000):=by
   simp only[aI,aT,or_false] at mx;rcases mx with rfl | rfl | rfl | rfl
   ·exact #[4,rfl,.inl rfl]
   ·exact #[4,rfl,.inl rfl]
   ·exact #[9,rfl,.inr (.inl rfl)]
   ·exact #[1000000,rfl,.inr (.inr rfl)]
  exists cy (bJ.of g7) ex ?_;have u07:=(u5.same s6).trans u7;exists #[λσ' H'=>(∃n:Nat,σ'=[some (.ref b),some (.int n),some (.int i),some (.int o),some (.int w)]/\n<=5/\(w=4\/w=9\/(w=1000000/\n<=2))/\(n=5->i<=2/\o<=2))/\iq H' b/\cM b H H',?_,?_]
  ·exists jC (λh0=>?_) (λh0=>?_)
   ·exists #[#[min n 2,?_,(),(),λz=>()],B7,u07];have e1:(if (2:Int) < (n:Int) then (2:Int) else (n:Int))=((min n 2:Nat):Int):=by split <;> lia
    rw[<- e1];rfl
   ·exists #[#[n,rfl,n5,?_,h5],B7,u07];rcases hw with z | z | z
    ·exact .inl z
    ·exact .inr (.inl z)
    ·exact absurd (decide_eq_true (show (9:Int) < (w:Int) by lia)) h0
  ·clear h5 n5;rintro σ' H8 ⟨⟨n',rfl,n5,hwn,h5⟩,B8,u8⟩;exists b6 λr H9 s9 g9=>?_
   exact k r n' i o w H9 g9 n5 hi ho hwn h5 (B8.same s9) (u8.same s9)
theorem jv:ba ["_law_bag_here","_law_n","_law_move_here","_law_at","_law_put","_law_first","_law_look"] ["_law_bag_here","_law_n"] (aM ur):=by walk_at "d"
theorem xD (T:Txt K mg Z) (ptree:P.given.tree=none):cQ P w K mg base iJ 2 Z.Ai Z.zT ["_law_bag_here","_law_n"] (Gx K):=by
 have aS:=eF (P:=P) (w:=w) (base:=base) T ptree;refine T.kL.F.ok jv (λvs H Q E h=>?_) (λcdv A outer s H vs Q E hr h=>?_)
 ·obtain b|n|rfl|_:=h;rfl
 ·obtain b|n|rfl|hB|n1|n8|k:=h
  refine #[_,(au (l7 2 ["_law_i"] ["_law_n"] [1] jv.nd rfl rfl (cC rfl T.range (aa (pv 1) ag)) (λ_=>(aN (i:=0) (show ND9 ["_law_i","_law_n"] by decide +kernel) rfl (Or.inr rfl) (Or.inl rfl))) (λ_=>cb) (λ_=>(b8 ["_law_j"] ["_law_i"] [0] (cC rfl T.range (aa (pv 1) ag)) (λ_=>(aN (i:=0) (show ND9 ["_law_j","_law_i"] by decide +kernel))) (λ_=>cb) (λ_=>(cP (aa (eI qS (by rfl) T.int PyProof.Rows.boot_int (aa (jM ik (pv 0) (bA gN (pv 1) ak) (bI _)) ag)) (aa ak ag)))))))
   (au (iE (b8 ["_law_j"] ["_law_bag_here"] [0] (cC rfl T.range (aa (pv 1) ag)) (λ_=>(aN (i:=0) (show ND9 ["_law_j","_law_bag_here"] by decide +kernel))) (λ_=>cb) (λ_=>(cP (aa (bA nV (cK aS hr T.aV (aa (pv 1) (aa ak ag))) ak) (aa ak ag))))) (jk (pv 2) (bA nV (pv 1) ak) set_list))
   (au (aZ (i:=3) jv.nd rfl (Or.inr rfl) (aU bz (d6 (aa (bA nV (pv 1) ak) (aa (cK aS hr T.aV (aa (pv 0) (aa (pv 1) ag))) ag))) (cK aS hr T.aV (aa (pv 0) (aa ak ag)))))
   (au (aZ (i:=4) jv.nd rfl (Or.inl rfl) (d6 (aa (b8 ["_law_j"] ["_law_at"] [3] (cC rfl T.range (aa (pv 1) ag)) (λ_=>(aN (i:=0) (show ND9 ["_law_j","_law_at"] by decide +kernel))) (λ_=>cb) (λ_=>(cP (aa (eI qS (by rfl) T.int PyProof.Rows.boot_int (aa (jM ik (pv 0) (pv 1) (bI _)) ag)) (aa ak ag))))) ag)))
   (au (aZ (i:=5) jv.nd rfl (Or.inr rfl) (aU bz (d6 (aa ak (aa ak (aa (cK aS hr T.aV (aa (pv 0) (aa (pv 1) ag))) ag)))) (cK aS hr T.aV (aa (pv 0) (aa ak ag)))))
   (au (aZ (i:=6) jv.nd rfl (Or.inl rfl) (d6 (aa (b8 ["_law_j"] ["_law_first"] [5] (cC rfl T.range (aa (pv 1) ag)) (λ_=>(aN (i:=0) (show ND9 ["_law_j","_law_first"] by decide +kernel))) (λ_=>cb) (λ_=>(cP (aa (eI qS (by rfl) T.int PyProof.Rows.boot_int (aa (jM ik (pv 0) (pv 1) (bI _)) ag)) (aa ak ag))))) ag)))
   (az (a8 (cP (aa (pv 2) (aa (pv 4) (aa (pv 6) ag)))))))))))),?_]
  refine aX (σ:=[some (.ref b),some (.int n),none,none,none,none,none]) rfl ?_
  have bit:∀{z:Int},∀y∈(List.range n).map (λ(j:Nat)=>(((if decide ((j:Int)=z)=true then 1 else 0:Int)):Rat)),Fr 1 1 y:=λy hy=>by
   obtain j|_|rfl:=av.mp hy;exact UY (by split <;> simp)
  exists #[(),(),?_];refine kh (n:=n) (dF K H) (λ(i:Nat)=>(List.range n).map λ(j:Nat)=>(((if decide ((j:Int)=(i:Int)+1)=true then 1 else 0:Int)):Rat)) () (λa b=>a.same b) ?_ ?_
  ·rintro i Hb NY NN hi sa k1;exists #[(),(),?_];refine kh (n:=n) (bS K) (λ(j:Nat)=>(((if decide ((j:Int)=(i:Int)+1)=true then 1 else 0:Int)):Rat)) () (λa b=>a.same b) ?_ ?_
   ·rintro j Hz NY2 NN2 hj sz k2;exists b6 λt Hy sy gy=>?_
    exact k2 _ _ sy (bS.mk gy rfl)
   ·rintro ys Hz t ht sz g pr nx;exact k1 _ _ sz #[t,rfl,sa.none ht,ys,g,pr]
  rintro ys H1 mm hm s1 g1 pr1 nx1;have G1:bQ K H H1 mm ((List.range n).map λ(i:Nat)=>(List.range n).map λ(j:Nat)=>(((if decide ((j:Int)=(i:Int)+1)=true then 1 else 0:Int)):Rat)):=#[ys,g1,pr1,oO nx1];clear g1 pr1 nx1;have B1:=hB.same s1;have mb:mm≠b:=λz=>hB.at (by rw[<- z];exact hm)
  obtain q0|I0|xq|gq0:=hB.inner;have mq:mm≠q0:=λz=>by rw[<- z,hm] at gq0;cases gq0
  exists #[(),(),?_];refine y7 (n:=n) (b:=b) (bS K) (Fr 1 1) B1 () (λa u B=>a.upto u B) ?_ ?_
  ·rintro j Ha NY NN hj ua Ba k1;exists #[b,3,rfl,Ba,(),(),λv Hb v0 v1 Bb ub=>?_];exists b6 λt Hc sc gc=>?_
   exact k1 _ ((v - 1:Int):Rat) _ (ub.same sc) (Bb.same sc) (Fr.int ()) (bS.mk gc rfl)
  rintro ys2 cs H2 q2 hq2 u2 B2 g2 lc hc pr2 _;have u02:=(s1.upto (p:=b)).trans u2;have nq2:H q2=none:=s1.none hq2;obtain us|gu|pu:=(G1.upto u2 B1 mb hB.at).toE;have lu:=pu.9;rw[af,bu] at lu
  have q2m:q2≠mm:=λz=>by
   obtain _|gg|_:=id G1;rw[z,gg] at hq2;cases hq2
  walk_at "w";rw[show ((n:Int) - 1)=((n - 1:Nat):Int) by lia];refine gZ gu (iu ()) rfl ?_;have G3:bQ K H (upd H2 mm (.lst (us.set (n - 1) (.ref q2)))) mm (((List.range n).map λ(i:Nat)=>(List.range n).map λ(j:Nat)=>(((if decide ((j:Int)=(i:Int)+1)=true then 1 else 0:Int)):Rat)).set (n - 1) cs):=bQ.ofE aK (wI (Paired.imp' (λ_ _ z=>Mf.updL z gu (λq h=>h.2)) pu) (n - 1) #[q2,rfl,#[nq2,q2m],cu.updL #[ys2,g2,pr2] gu q2m]) (λq h=>h.1) (λq h=>h.2);have B3:iq (upd H2 mm (.lst (us.set (n - 1) (.ref q2)))) b:=B2.upd (u02.2 _ I0) mb mq;have u03:cM b H (upd H2 mm (.lst (us.set (n - 1) (.ref q2)))):=u02.after hm;obtain ⟨mv,emv⟩:∃mv,mv=((List.range n).map λ(i:Nat)=>(List.range n).map λ(j:Nat)=>(((if decide ((j:Int)=(i:Int)+1)=true then 1 else 0:Int)):Rat)).set (n - 1) cs:=#[_,rfl];have lmv:mv.9=n:=by rw[emv,eQ,af,bu]
  have hmv:∀xs∈mv,xs.9=n/\∀y∈xs,Fr 1 1 y:=λxs hx=>by
   rw[emv] at hx;rcases eh hx with hx | rfl
   ·obtain i|_|rfl:=av.mp hx;exact #[by rw[af,bu],bit]
   ·exact #[lc,hc]
  rw[<- emv] at G3;generalize upd H2 mm (.lst (us.set (n - 1) (.ref q2)))=H3 at G3 B3 u03 ⊢;clear emv pu gu G1 u2 pr2 g2 B2;exists #[b,n,rfl,B3,(),(),λa1 H4 a10 a11 B4 u4=>?_];exists dw λl1 H5 s5 nl1 g5=>?_
  exists #[b,2,rfl,B4.same s5,(),(),λv H6 v0 v1 B6 u6=>?_];have g6:=u6.other (λz=>B4.at (by rw[<- z];exact nl1)) g5;obtain x|ex|mx|_:=kT (xs:=[V.int ((n:Int) - 1),V.int a1]) v0 (by simpa using v1)
  obtain ⟨at',rfl⟩:∃a:Int,x=.int a:=by
   simp only[aI,aT,or_false] at mx;rcases mx with rfl | rfl
   ·exact #[_,rfl]
   ·exact #[_,rfl]
  exists cy (bJ.of g6) ex ?_;have u36:=(u4.same s5).trans u6;have G6:=G3.upto u36 B3 mb hB.at;have u06:=u03.trans u36;clear ex mx g6 g5 G3 u4 u6;exists #[(),(),?_];refine kh (n:=n) (bS K) (λ(j:Nat)=>(((if decide ((j:Int)=at')=true then 1 else 0:Int)):Rat)) () (λa b=>a.same b) ?_ ?_
  ·rintro j Hz NY2 NN2 hj sz k2;exists b6 λt Hy sy gy=>?_
   exact k2 _ _ sy (bS.mk gy rfl)
  rintro ys7 H7 q7 hq7 s7 g7 pr7 _;have R7:cu K H7 q7 _:=#[ys7,g7,pr7];exists dw λp8 H8 s8 n8' g8=>?_
  have s68:=s7.trans s8;have q78:q7≠p8:=λz=>by rw[z,n8'] at g7;cases g7
  have np8:H p8=none:=u06.none B6 (s7.none n8');have nq7:H q7=none:=u06.none B6 hq7
  have GP:bQ K H H8 p8 [(List.range n).map λ(j:Nat)=>(((if decide ((j:Int)=at')=true then 1 else 0:Int)):Rat)]:=#[_,g8,.cons #[q7,rfl,nq7,R7.same s8] .nil,λz=>by
   rw[bg] at z;cases z;exact q78 rfl]
  have B8:=B6.same s68;have u08:=u06.same s68;have G8:=G6.same s68;have pb:p8≠b:=λz=>hB.at (by rw[<- z];exact np8)
  exists #[b,n,rfl,B8,(),(),λa2 H9 a20 a21 B9 u9=>?_];exists dw λl2 Ha sa nl2 ga=>?_
  exists #[b,3,rfl,B9.same sa,(),(),λv' Hb v0' v1' Bb ub=>?_];have gb:=ub.other (λz=>B9.at (by rw[<- z];exact nl2)) ga;obtain x|ex|mx|_:=kT (xs:=[V.int 0,V.int 0,V.int a2]) v0' (by simpa using v1')
  obtain ⟨fi,rfl⟩:∃a:Int,x=.int a:=by
   simp only[aI,aT,or_false] at mx;rcases mx with rfl | rfl | rfl
   ·exact #[_,rfl]
   ·exact #[_,rfl]
   ·exact #[_,rfl]
  exists cy (bJ.of gb) ex ?_;have u8b:=(u9.same sa).trans ub;have Gb:=G8.upto u8b B8 mb hB.at;have GPb:=GP.upto u8b B8 pb hB.at;have u0b:=u08.trans u8b;clear ex mx gb ga G8 GP u9 ub;exists #[(),(),?_];refine kh (n:=n) (bS K) (λ(j:Nat)=>(((if decide ((j:Int)=fi)=true then 1 else 0:Int)):Rat)) () (λa b=>a.same b) ?_ ?_
  ·rintro j Hz NY2 NN2 hj sz k2;exists b6 λt Hy sy gy=>?_
   exact k2 _ _ sy (bS.mk gy rfl)
  rintro ysc Hc qc hqc sc gc prc _;have Rc:cu K Hc qc _:=#[ysc,gc,prc];exists dw λpd Hd sd nd gd=>?_
  have sbd:=sc.trans sd;have qcd:qc≠pd:=λz=>by rw[z,nd] at gc;cases gc
  have npd:H pd=none:=u0b.none Bb (sc.none nd);have nqc:H qc=none:=u0b.none Bb hqc
  have GL:bQ K H Hd pd [(List.range n).map λ(j:Nat)=>(((if decide ((j:Int)=fi)=true then 1 else 0:Int)):Rat)]:=#[_,gd,.cons #[qc,rfl,nqc,Rc.same sd] .nil,λz=>by
   rw[bg] at z;cases z;exact qcd rfl]
  exists b6 λr He se ge=>?_
  have sbe:=sbd.trans se;refine k r mv _ _ He #[mm,p8,pd,ge,hm,np8,npd,Gb.same sbe,GPb.same sbe,GL.same se] lmv rfl rfl #[(),by simp,by simp,λxs hx=>by rw[(hmv xs hx).1,lmv],λxs hx=>?_,λxs hx=>?_] (λxs hx=>(hmv xs hx).2) (λxs hx=>?_) (λxs hx=>?_) (Bb.same sbe) (u0b.same sbe)
  ·rw[bg.mp hx,af,bu,lmv]
  ·rw[bg.mp hx,af,bu,lmv]
  ·rw[bg.mp hx];exact bit
  ·rw[bg.mp hx];exact bit
theorem j7:ba ["_law_top","_law_bottom","_law_one","_law_other"] ["_law_top","_law_bottom"] (aM wC):=by walk_at "d"
theorem kf (T:Txt K mg Z) (ptree:P.given.tree=none):cQ P w K mg base iJ 1 Z.CM Z.Cp ["_law_top","_law_bottom"] SJ:=by
 refine T.hZ.F.ok j7 (λvs H Q E h=>?_) (λcdv A outer s H vs Q E hr h=>?_)
 ·obtain t|b|rfl|_:=h;rfl
 ·obtain t|b|rfl|hb|hs|k:=h
  refine #[_,(au (aZ (i:=2) j7.nd rfl (Or.inl rfl) (bG xY (by rfl) T.abs PyProof.Rows.boot_abs (aa (pv 0) ag)))
   (au (aZ (i:=3) j7.nd rfl (Or.inl rfl) (pv 1))
   (au (By PassesOwn.never (bC zB (pv 2) ak (bI _))
    (az (Nu (i:=2) (j:=3) rfl j7.nd rfl rfl () rfl rfl (aa (bA pQ (pv 3) (pv 2)) (aa (pv 2) ag)) rfl)))
   (az (a8 (cP (aa (bA (hJ rfl j7 rfl rfl rfl ptree (oU hr)) (pv 0) (pv 3)) (aa (bA (hJ rfl j7 rfl rfl rfl ptree (oU hr)) (pv 1) (pv 3)) ag)))))))),?_]
  refine aX (σ:=[some (.int t),some (.int b),none,none]) rfl ?_;walk_at "w"
  refine Ex (λσ' H'=>∃(u v:Int),σ'=[some (.int t),some (.int b),some (.int u),some (.int v)]/\H'=H/\0<=u/\0 < v/\Int.gcd u v=Int.gcd t b) (λσ' _=>match σ' with | [_,_,some (.int u),_]=>u.natAbs | _=>0) #[_,b,rfl,rfl,by split <;> lia,hb,by
   split
   ·rw[Int.neg_gcd]
   ·rfl] ?_
  rintro σ' H' ⟨u,v,rfl,rfl,hu,hv,hg⟩;exists jC (λh=>?_) (λh=>?_)
  ·have hu0:u≠0:=λz=>by subst z;simp at h
   exists fD (show (0:Int) < u by lia) ?_;walk_at "w";have h1:=nD v hu0;have h2:=jQ v (show 0 < u by lia);exact #[#[v % u,u,rfl,rfl,h1,(),by rw[mG,Ol,mG];exact hg],by show (v % u).natAbs < u.natAbs;lia]
  ·have hu0:u=0:=by
    by_cases z:u=0
    ·exact z
    ·exfalso;apply h;simp [z]
   subst hu0
   have e:v=g t b:=by
    unfold g;rw[<- hg,Int.gcd_zero_left]
    lia
   have hgs:Sz 8999000 v:=hs.le (by
    rw[e];have h1:(g t b).natAbs=Int.gcd t b:=by unfold g;simp
    rw[h1];exact ks () (by have:=fV (a:=t) (b:=b);exact gI.mpr this |> λz=>by simpa using z))
   exists fD (show oB _ _ from #[(),hgs]) ?_;exists fD (show oB _ _ from #[(),hgs]) ?_;exists b6 λr H' s' h'=>?_
   rw[bK _ (),bK _ (),e] at h';exact k r H' s' h'
theorem GK:ba ["_law_one","_law_other"] ["_law_one","_law_other"] (aM wA):=by walk_at "d"
theorem mJ (T:Txt K mg Z) (ptree:P.given.tree=none):cQ P w K mg base iJ 2 Z.CK Z.Cm ["_law_one","_law_other"] (rD K (λx y=>x+y)):=by
 have fX:=kf (P:=P) (w:=w) (base:=base) T ptree;refine T.hR.F.ok GK (λvs H Q E h=>?_) (λcdv A outer s H vs Q E hr h=>?_)
 ·obtain p|q|a|b|c|d|rfl|hp|hq|hb|hd|sa|sb|sc|sd|k:=AO h;rfl
 ·obtain p|q|a|b|c|d|rfl|hp|hq|hb|hd|sa|sb|sc|sd|k:=AO h;refine #[_,(az (a8 (cK fX hr T.hZ (aa (bA gN (bA cH (aU bP (pv 0) ak) (aU bP (pv 1) ak)) (bA cH (aU bP (pv 1) ak) (aU bP (pv 0) ak))) (aa (bA cH (aU bP (pv 0) ak) (aU bP (pv 1) ak)) ag))))),?_];refine aX (σ:=[some (.ref p),some (.ref q)]) rfl ?_;have hbd:0 < b*d:=fj hb hd;have sbd:Sz 8999000 (b*d):=(sb.mul sd).mono ();exists fD (show fO _ _ from .inr #[_,_,sa,sd,()]) ?_;exists fD (show fO _ _ from .inr #[_,_,sc,sb,()]) ?_;exists fD (show fO _ _ from .inr #[_,_,sb,sd,()]) ?_;walk_at "w";exists #[_,_,rfl,hbd,sbd,k]
theorem EO:ba ["_law_one","_law_other"] ["_law_one","_law_other"] (aM uj):=by walk_at "d"
theorem xC (T:Txt K mg Z) (ptree:P.given.tree=none):cQ P w K mg base iJ 3 Z.Ae Z.zP ["_law_one","_law_other"] (Gu K):=by
 have gP:=mJ (P:=P) (w:=w) (base:=base) T ptree;refine T.ni.F.ok EO (λvs H Q E h=>?_) (λcdv A outer s H vs Q E hr h=>?_)
 ·obtain p|q|xs|ys|rfl|_:=h;rfl
 ·obtain p|q|xs|ys|rfl|hp|hq|hl|hz|h1|h2|kk:=h;refine #[_,(az (a8 (b8 ["_law_k"] ["_law_one","_law_other"] [0,1] (cC rfl T.range (aa (bG bw (by rfl) T.len bc (aa (pv 0) ag)) ag)) (λ_=>(aN (i:=0) (show ND9 ["_law_k","_law_one","_law_other"] by decide +kernel))) (λ_=>cb) (λ_=>(cK gP hr T.hR (aa (aU (mL K (by rfl)) (pv 1) (pv 0)) (aa (aU (mL K (by rfl)) (pv 2) (pv 0)) ag))))))),?_];refine aX (σ:=[some (.ref p),some (.ref q)]) rfl ?_;obtain us|gu|qu:=id hp;obtain ws|gw|qw:=id hq;have lu:=qu.9;exists #[_,_,rfl,.inl (bJ.of gu),?_];exists #[(),(),?_];refine kh (n:=us.9) (bS K) (λi=>xs.getD i 0+ys.getD i 0) () (λa b=>a.same b) ?_ ?_
  ·rintro i H' NY NN hi s k1;have ix:i < xs.9:=()
   have iy:i < ys.9:=()
   obtain vx|ex|nx:=Kt (Paired.imp' (λ_ _ z=>z.same s) qu) ix;obtain vy|ey|ny:=Kt (Paired.imp' (λ_ _ z=>z.same s) qw) iy;exists cy (bJ.of (s _ _ gu)) ex ?_;exists cy (bJ.of (s _ _ gw)) ey ?_;exists #[_,_,_,_,rfl,nx,ny,h1 _ (getD_mem ix),h2 _ (getD_mem iy),λr3 H3 s3 n3=>k1 _ _ s3 n3]
  ·rintro ys' H' l hl' s g pr nx;exact kk l H' hl' s #[ys',g,by rw[DB ()];rw[<- lu] at pr;exact pr]
theorem EN:ba ["_law_one","_law_other"] ["_law_one","_law_other"] (aM ui):=by walk_at "d"
theorem mZ (T:Txt K mg Z) (ptree:P.given.tree=none):cQ P w K mg base iJ 2 Z.Ad Z.zO ["_law_one","_law_other"] (rD K (λx y=>x*y)):=by
 have fX:=kf (P:=P) (w:=w) (base:=base) T ptree;refine T.hX.F.ok EN (λvs H Q E h=>?_) (λcdv A outer s H vs Q E hr h=>?_)
 ·obtain p|q|a|b|c|d|rfl|hp|hq|hb|hd|sa|sb|sc|sd|k:=Km h;rfl
 ·obtain p|q|a|b|c|d|rfl|hp|hq|hb|hd|sa|sb|sc|sd|k:=Km h;refine #[_,(az (a8 (cK fX hr T.hZ (aa (bA cH (aU bP (pv 0) ak) (aU bP (pv 1) ak)) (aa (bA cH (aU bP (pv 0) ak) (aU bP (pv 1) ak)) ag))))),?_];refine aX (σ:=[some (.ref p),some (.ref q)]) rfl ?_;have hbd:0 < b*d:=fj hb hd;have sbd:Sz 8999000 (b*d):=(sb.mul sd).mono ();exists fD (show fO _ _ from .inr #[_,_,sa,sc,()]) ?_;exists fD (show fO _ _ from .inr #[_,_,sb,sd,()]) ?_;walk_at "w";exists #[_,_,rfl,hbd,sbd,k]
theorem IP:ba ["_law_by_here","_law_row_here"] ["_law_by_here","_law_row_here"] (aM yG):=by walk_at "d"
theorem BQ (T:Txt K mg Z) (ptree:P.given.tree=none):cQ P w K mg base iJ 3 Z.Ej Z.D3 ["_law_by_here","_law_row_here"] (M5 K):=by
 have ie:=mZ (P:=P) (w:=w) (base:=base) T ptree;refine T.sN.F.ok IP (λvs H Q E h=>?_) (λcdv A outer s H vs Q E hr h=>?_)
 ·obtain u|q|c|ys|rfl|_:=h;rfl
 ·obtain u|q|c|ys|rfl|hc|sc|hq|hz|h2|kk:=h;refine #[_,(az (a8 (b8 ["_law_one"] ["_law_by_here"] [0] (b7 (pv 1)) (λ_=>(aN (i:=0) (show ND9 ["_law_one","_law_by_here"] by decide +kernel))) (λ_=>cb) (λ_=>(cK ie hr T.hX (aa (pv 1) (aa (pv 0) ag))))))),?_];refine aX (σ:=[some u,some (.ref q)]) rfl ?_;obtain us|gu|qu:=id hq;exists #[#[_,bJ.of gu],?_];refine cL (K:=K) (F:=bS K) (bS K) (λy=>c*y) gu qu hz (λa b=>a.same b) (λa b=>a.same b) ?_ ?_
  ·rintro i y x H' NY NN en s hx k;exists #[_,_,_,_,rfl,hc.same s,hx,sc,h2 y (ao en),λr H2 s2 h2'=>k _ _ s2 h2']
  ·rintro ys' H' r hr s g pr nx;exact kk r H' hr s #[ys',g,pr]
theorem fz:ba ["_law_bag_here","_law_move_here","_law_put","_law_look","_law_n","_law_turn","_law_i","_law_j","_law_by_here","_law_less_here","_law_row_here"] ["_law_bag_here","_law_move_here","_law_put","_law_look"] (aM rN):=by walk_at "d"
theorem vH (T:Txt K mg Z) (ptree:P.given.tree=none):cQ P w K mg base iJ 4 Z.yi Z.xW ["_law_bag_here","_law_move_here","_law_put","_law_look"] (DL K):=by
 have aS:=eF (P:=P) (w:=w) (base:=base) T ptree;have uZ:=xC (P:=P) (w:=w) (base:=base) T ptree;have zo:=BQ (P:=P) (w:=w) (base:=base) T ptree;have gP:=mJ (P:=P) (w:=w) (base:=base) T ptree;have ie:=mZ (P:=P) (w:=w) (base:=base) T ptree;refine T.ma.F.ok fz (λvs H Q E h=>?_) (λcdv A outer s H vs Q E hr h=>?_)
 ·obtain b|m|p|l|q0|n|WV|μ|A|us|ws|vs|rfl|_:=h;rfl
 ·obtain b|m|p|l|q0|n|WV|μ|A|us|ws|vs|rfl|MA|X|n8|i4|o4|M0|M1|⟨M,eM⟩|V1|hA|k:=h
  refine #[_,(au (aZ (i:=4) fz.nd rfl (Or.inl rfl) (bG bw (by rfl) T.len bc (aa (pv 1) ag)))
   (au (dO (PW.pt (lC (bC vF (pv 4) ak (bI _)) (jT (bC ik (cK aS hr T.aV (aa (pv 0) (aa ak ag))) ak (bI _))))) (az (a8 (cP (aa (pv 1) (aa (pv 2) (aa (pv 3) ag)))))) ck)
   (au (dW PassesOwn.never rfl (cC rfl T.range (aa (bA gN ak (cK aS hr T.aV (aa (pv 0) (aa ak ag)))) ag)) (aN (i:=5) fz.nd)
    (au (aZ (i:=6) fz.nd rfl (Or.inl rfl) (cK aS hr T.aV (aa (pv 0) (aa (pv 4) ag))))
   (au (aZ (i:=7) fz.nd rfl (Or.inl rfl) (bA pQ (bA gN (bA gN (pv 6) ak) (cK aS hr T.aV (aa (pv 0) (aa (bA nV (pv 4) ak) ag)))) (pv 4)))
   (au (aZ (i:=8) fz.nd rfl (Or.inl rfl) (cP (aa (aU bz (d6 (aa ak (aa (vC pB ak) (aa ak (aa (vC pB ak) ag))))) (cK aS hr T.aV (aa (pv 0) (aa ak ag)))) (aa ak ag))))
   (au (aZ (i:=9) fz.nd rfl (Or.inl rfl) (cP (aa (bA nV ak (aU bP (pv 8) ak)) (aa ak ag))))
   (au (iE (cK uZ hr T.ni (aa (aU bz (pv 1) (pv 6)) (aa (cK zo hr T.sN (aa (pv 8) (aa (aU bz (pv 1) (pv 7)) ag))) ag))) (jk (pv 1) (pv 6) set_list))
   (au (dW PassesOwn.never rfl (b7 (bA pR (pv 1) (pv 3))) (aN (i:=10) fz.nd)
    (az (iE (cK gP hr T.hR (aa (aU bz (pv 10) (pv 7)) (aa (cK ie hr T.hX (aa (pv 9) (aa (aU bz (pv 10) (pv 6)) ag))) ag))) (jk (pv 10) (pv 7) set_list))))
   (az (dW PassesOwn.never rfl (b7 (pv 2)) (aN (i:=10) fz.nd)
    (az (iE (cK gP hr T.hR (aa (aU bz (pv 10) (pv 6)) (aa (cK ie hr T.hX (aa (pv 8) (aa (aU bz (pv 10) (pv 7)) ag))) ag))) (jk (pv 10) (pv 6) set_list))))))))))))
   (az (a8 (cP (aa (pv 1) (aa (pv 2) (aa (pv 3) ag))))))))),?_]
  refine aX (σ:=[some (.ref b),some (.ref m),some (.ref p),some (.ref l),none,none,none,none,none,none,none]) rfl ?_;have done:∀r us' H' t,t<=3->H' r=some (.tup [.ref m,.ref p,.ref l])->kY K A H' n (λx=>Fr (μ x) (9^t*WV)) m p l b q0 us' ws vs->jE A b m H H'->Q (.ref r) H':=λr us' H' t ht g x kp=>k r us' H' g (x.weak λ_ _ y h=>h.mono (aE _ (aF () ht))) kp
  have X0:kY K A H n (λx=>Fr (μ x) (9^0*WV)) m p l b q0 us ws vs:=X.weak λ_ _ y h=>h.mono (by simp)
  clear X k;have gu:=X0.gm;have lu:=X0.lm;exists #[_,_,rfl,.inl (bJ.of gu),?_];rw[lu];clear gu lu;have kp0:jE A b m H H:=λ_ _ h _ _ _=>h
  exists jC (λh0=>?_) (λh0=>?_)
  ·exists b6 λr H' s' g'=>?_
   exact done r us H' 0 () g' (X0.same s') (kp0.same s')
  have n2:2<=n:=by
   rcases jO n 2 with z | z
   ·exact absurd (decide_eq_true (show (n:Int) < 2 by lia)) h0
   ·exact z
  exists #[b,2,rfl,X0.bag,(),(),λv H1 v0 v1 B1 u1=>?_];have X1:=X0.upto MA u1 B1;have kp1:=kp0.upto u1;exists jC (λh1=>?_) (λh1=>?_)
  ·exists b6 λr H' s' g'=>?_
   exact done r us H' 0 () g' (X1.same s') (kp1.same s')
  exists #[b,3,rfl,B1,(),(),λc H2 c0 c1 B2 u2=>?_];have X2:=X1.upto MA u2 B2;have kp2:=kp1.upto u2;clear X0 X1 kp0 kp1 u1 u2 B1;exists #[(),(),?_];refine eH (n:=(1+c).toNat) (λt σ' H'=>∃(x1 x2 x3 x4 x5 x6:Option V) (us:List V),σ'=[some (.ref b),some (.ref m),some (.ref p),some (.ref l),some (.int n),x1,x2,x3,x4,x5,x6]/\kY K A H' n (λx=>Fr (μ x) (9^t*WV)) m p l b q0 us ws vs/\jE A b m H H') #[none,none,none,none,none,none,us,rfl,X2,kp2] ?_ ?_
  ·rintro t σ' H' ht ⟨x1,x2,x3,x4,x5,x6,us,rfl,X,kp⟩;have t3:t<=2:=()
   exists #[b,n,rfl,X.bag,(),(),λii Ha i0 i1 Ba ua=>?_];obtain ii|rfl:=cO i0;have Xa:=X.upto MA ua Ba;have kpa:=kp.upto ua;exists #[b,_,rfl,Ba,(),(),λd Hb d0 d1 Bb ub=>?_];have Xb:=Xa.upto MA ub Bb;have kpb:=kpa.upto ub;exists fD (show (0:Int) < n by lia) ?_;have j0:=nD ((ii:Int)+1+d) (show (n:Int)≠0 by lia);have j1:=jQ ((ii:Int)+1+d) (show (0:Int) < n by lia);generalize ((ii:Int)+1+d) % (n:Int)=jj at j0 j1 ⊢;obtain jj|rfl:=cO j0;exists dw λl0 Hc sc nc gc=>?_
   exists #[b,4,rfl,Bb.same sc,(),(),λv' Hd v0' v1' Bd ud=>?_];have gd:=ud.other (λz=>Bb.at (by rw[<- z];exact nc)) gc;obtain x|ex|mx|_:=kT (xs:=[V.int 1,V.int (-1),V.int 2,V.int (-2)]) v0' (by simpa using v1')
   obtain ⟨z,rfl,hz⟩:∃z:Int,x=.int z/\z.natAbs<=2:=by
    simp only[aI,aT,or_false] at mx;rcases mx with rfl | rfl | rfl | rfl
    ·exact #[1,rfl,()]
    ·exact #[-1,rfl,()]
    ·exact #[2,rfl,()]
    ·exact #[-2,rfl,()]
   have Xd:=(Xb.same sc).upto MA ud Bd;have kpd:=(kpb.same sc).upto ud;exists cy (bJ.of gd) ex ?_;exists b6 λbt He se ge=>?_
   exists b6 λlt Hf sf gf=>?_
   have Xf:=(Xd.same se).same sf;have kpf:=(kpd.same se).same sf;have nb:bS K Hf ((z:Int):Rat) (.ref bt):=bS.mk (sf _ _ ge) rfl;have nl:bS K Hf ((0 - z:Int):Rat) (.ref lt):=bS.mk gf rfl;clear X Xa Xb Xd kp kpa kpb kpd ua ub ud sc gc gd ex mx ge gf se sf Ba Bb Bd nc;have gu:=Xf.gm;have lu:=Xf.lm
   have ru:∀x∈us,ip K A Hf n (Fr M (9^t*WV)) x:=λx hx=>by
    have:=Xf.row x (by simp [hx]);rwa [eM x (Xf.apart.1 x hx).1 (Xf.apart.1 x hx).2] at this
   have hM:0 < M/\M<=2^800:=by
    have hx:us[ii]'()∈us:=bo _;have:=eM _ (Xf.apart.1 _ hx).1 (Xf.apart.1 _ hx).2;rw[<- this];exact #[M0 _,M1 _]
   have e1:us[ii]?=some (us[ii]'()):=by simp
   have e2:us[jj]?=some (us[jj]'()):=by simp
   obtain q1|z1|qs1|w1|a1|g1|k1|p1|l1|c1:=(ru _ (ao e1)).at;obtain q2|z2|qs2|w2|a2|g2|k2|p2|l2|c2:=(ru _ (ao e2)).at;rw[w1] at e1;rw[w2] at e2;generalize eW:9^t*WV=W at *
   have W9:9*W<=2^140:=by rw[<- eW];exact Qm () V1 ()
   have sz9M:∀{x:Rat} {U:Nat},U<=9*W->Fr M U x->lh x:=λhU h=>KA hM.1 hM.2 (aj hU W9) h
   have sz9:∀{x:Rat} {U:Nat} {v:V},U<=9*W->Fr (μ v) U x->lh x:=λhU h=>KA (M0 _) (M1 _) (aj hU W9) h
   exists cy (bJ.of gu) (eO e1) ?_;exists cy (bJ.of gu) (eO e2) ?_;exists #[_,q2,_,qs2,rfl,nb,EB (),#[z2,g2,p2],(),λy hy=>sz9M () (c2 y hy),λr1 Hg n1 sg R1=>?_];exists #[q1,r1,qs1,_,rfl,#[z1,sg _ _ g1,Paired.imp' (λ_ _ y=>y.same sg) p1],R1,by rw[af,l1,l2],(),λy hy=>sz9M () (c1 y hy),λy hy=>?_,λr2 Hh n2' sh R2=>?_]
   ·obtain y'|hy'|rfl:=av.mp hy;exact AY hz (c2 y' hy') hM.1 hM.2 ()
   have sfh:=sg.trans sh
   have new:V.ref r2∉us++vs++ws:=λz=>by
    obtain q'|_|_|e'|_|g'|_:=((Xf.same sg).row _ z).at;cases e';rw[n2'] at g';cases g'
   have Xh:=(Xf.same sfh).weak (C':=λx y=>(x∈ws->Fr (μ x) W y)/\Fr (μ x) (3*W) y) λx _ y h=>#[λ_=>h,h.mono ()]
   have kph:=kpf.same sfh;have guh:=sfh _ _ gu;have ar2:A r2:=(kpf.same sg).new hA (Xf.same sg).bag (by rw[sg _ _ gu];simp) n2'
   have rp2:ip K A Hh n (λy=>(V.ref r2∈ws->Fr (μ (.ref r2)) W y)/\Fr (μ (.ref r2)) (3*W) y) (.ref r2):=by
    rw[eM (.ref r2) (λz=>new (aw.mpr (.inr z))) (λz=>new (aw.mpr (.inl (aw.mpr (.inr z)))))];refine #[r2,_,rfl,ar2,R2,by rw[bM,af];lia,λy hy=>#[λz=>absurd (aw.mpr (.inr z)) new,?_]];obtain j'|hj'|e:=bX hy;rw[gX,Mx] at e;rw[<- e];exact Fx hz (c1 _ (bo _)) (c2 _ (bo _))
   exists gZ guh (iu ()) rfl ?_;have Xi:=Xh.set MA rp2 new ii;have kpi:=kph.upd (o:=.lst (us.set ii (.ref r2))) (q:=m) (.inr rfl);have nli:bS K (upd Hh m (.lst (us.set ii (.ref r2)))) ((0 - z:Int):Rat) (.ref lt):=(nl.same sfh).updL guh;have nbi:bS K (upd Hh m (.lst (us.set ii (.ref r2)))) ((z:Int):Rat) (.ref bt):=(nb.same sfh).updL guh;generalize upd Hh m (.lst (us.set ii (.ref r2)))=Hi at Xi kpi nli nbi ⊢;generalize us.set ii (.ref r2)=um at Xi;clear nb nl Xf kpf gu ru e1 e2 g1 p1 g2 p2 R1 R2 Xh kph guh rp2 sg sh sfh new;have gm:=Xi.gm;have lm:=Xi.lm;have gl:=Xi.gl;have nd:=Xi.nd;obtain nd1|nd2|nd3:=dC.mp nd;exists pP gm gl (aL (bD ())) λcl Hj sj nj gj=>?_
   have kpj:=kpi.same sj
   have rows:∀x∈um++vs,∀q,x=V.ref q->q≠cl:=λx hx q e y=>by
    obtain q'|zs|_|e'|_|g'|_:=(Xi.row x (aw.mpr (.inl hx))).at;rw[e] at e';cases e';rw[y,nj] at g';cases g'
   have Xj:=(Xi.same sj).weak (C':=λx y=>(x∈ws->Fr (μ x) W y)/\(x∈(um++vs).drop 0->Fr (μ x) (3*W) y)/\Fr (μ x) (9*W) y) λx _ y h=>#[h.1,λ_=>h.2,h.2.mono ()]
   have lj:bS K Hj ((0 - z:Int):Rat) (.ref lt):=nli.same sj;have bj:bS K Hj ((z:Int):Rat) (.ref bt):=nbi.same sj;clear Xi kpi nli nbi;refine #[_,rfl,#[_,bJ.of gj],?_];refine ib (K:=K) (a:=cl) (xs:=um++vs) (λs σ' H'=>∃x6:Option V,σ'=[some (.ref b),some (.ref m),some (.ref p),some (.ref l),some (.int n),some (.int t),some (.int ii),some (.int jj),some (.ref bt),some (.ref lt),x6]/\kY K A H' n (λx y=>(x∈ws->Fr (μ x) W y)/\(x∈(um++vs).drop s->Fr (μ x) (3*W) y)/\Fr (μ x) (9*W) y) m p l b q0 um ws vs/\jE A b m H H'/\H' cl=some (.lst (um++vs))/\bS K H' ((0 - z:Int):Rat) (.ref lt)/\bS K H' ((z:Int):Rat) (.ref bt)) #[_,rfl,Xj,kpj,gj,lj,bj] (λs σ' H' _ #[_,_,_,_,e,_]=>bJ.of e) ?_ ?_
   ·rintro s x σ' Hk hx ⟨y6,rfl,Xk,kpk,gk,lk,bk⟩;have hs:s < (um++vs).9:=(aR.mp hx).1;have mx:=ao hx
    have xd:x∈(um++vs).drop s:=by
     rw[eo hs,(aR.mp hx).2];exact .head _
    have xd2:x∉(um++vs).drop (s+1):=λz=>by
     have:=nd1.sublist (List.drop_sublist s _);rw[eo hs,dd,(aR.mp hx).2] at this;exact this.1 z
    have xw:x∉ws:=λz=>nd3 x mx x z rfl
    have rx:=Xk.row x (aw.mpr (.inl mx));obtain q|zs|qs|rfl|aq|gq|lq|pq|lq2|cq:=rx.at;have qcl:=rows _ mx q rfl;obtain vj|ej|nj':=Kt pq (j:=jj) ();obtain vi|ei|ni':=Kt pq (j:=ii) ();have cj:=(cq _ (getD_mem (xs:=qs) (i:=jj) ())).2.1 xd;have ci:=(cq _ (getD_mem (xs:=qs) (i:=ii) ())).2.1 xd;exists cy (bJ.of gq) ej ?_;exists cy (bJ.of gq) ei ?_;exists #[_,_,_,_,rfl,lk,ni',EB (),sz9 () ci,λr3 Hl sl n3=>?_];exists #[_,_,_,_,rfl,nj'.same sl,n3,sz9 () cj,AY () ci (M0 _) (M1 _) (),λr4 Hm sm n4=>?_];have slm:=sl.trans sm;exists gZ (slm _ _ gq) (iu ()) rfl ?_;refine #[_,rfl,?_,(kpk.same slm).upd (.inl aq),by rw[a7 qcl.symm];exact slm _ _ gk,(lk.same slm).updL (slm _ _ gq),(bk.same slm).updL (slm _ _ gq)];refine ((Xk.same slm).weak λx' _ y h=>#[h.1,λz=>h.2.1 ?_,h.2.2]).put MA aq (slm _ _ gq) n4 #[λz=>absurd z xw,λz=>absurd z xd2,?_] jj
    ·rw[eo hs];exact .tail _ z
    ·exact (Fx () cj ci).mono ()
   ·rintro σ' Hk ⟨y6,rfl,Xk,kpk,gk,lk,bk⟩;have gp:=Xk.gp;have Xk2:=Xk.weak (C':=λx y=>(x∈ws.drop 0->Fr (μ x) W y)/\Fr (μ x) (9*W) y) λx _ y h=>#[λz=>h.1 (by simpa using z),h.2.2]
    clear Xk;exists #[#[_,bJ.of gp],?_];refine ib (K:=K) (a:=p) (xs:=ws) (λs σ' H'=>∃x6:Option V,σ'=[some (.ref b),some (.ref m),some (.ref p),some (.ref l),some (.int n),some (.int t),some (.int ii),some (.int jj),some (.ref bt),some (.ref lt),x6]/\kY K A H' n (λx y=>(x∈ws.drop s->Fr (μ x) W y)/\Fr (μ x) (9*W) y) m p l b q0 um ws vs/\jE A b m H H'/\bS K H' ((z:Int):Rat) (.ref bt)) #[_,rfl,Xk2,kpk,bk] (λs σ' H' _ #[_,_,X,_]=>bJ.of X.gp) ?_ ?_
    ·rintro s x σ' Hl hx ⟨w6,rfl,Xl,kpl,bl⟩;have hs:s < ws.9:=(aR.mp hx).1;have mx:=ao hx
     have xd:x∈ws.drop s:=by
      rw[eo hs,(aR.mp hx).2];exact .head _
     have xd2:x∉ws.drop (s+1):=λz=>by
      have:=nd2.sublist (List.drop_sublist s _);rw[eo hs,dd,(aR.mp hx).2] at this;exact this.1 z
     have rx:=Xl.row x (aw.mpr (.inr mx));obtain q|zs|qs|rfl|aq|gq|lq|pq|lq2|cq:=rx.at;obtain vj|ej|nj':=Kt pq (j:=jj) ();obtain vi|ei|ni':=Kt pq (j:=ii) ();have cj:=(cq _ (getD_mem (xs:=qs) (i:=jj) ())).1 xd;have ci:=(cq _ (getD_mem (xs:=qs) (i:=ii) ())).1 xd;exists cy (bJ.of gq) ei ?_;exists cy (bJ.of gq) ej ?_;exists #[_,_,_,_,rfl,bl,nj',EB (),sz9 () cj,λr3 Hm sm n3=>?_];exists #[_,_,_,_,rfl,ni'.same sm,n3,sz9 () ci,AY () cj (M0 _) (M1 _) (),λr4 Hn sn n4=>?_];have smn:=sm.trans sn;exists gZ (smn _ _ gq) (iu ()) rfl ?_;refine #[_,rfl,?_,(kpl.same smn).upd (.inl aq),(bl.same smn).updL (smn _ _ gq)];refine ((Xl.same smn).weak λx' _ y h=>#[λz=>h.1 ?_,h.2]).put MA aq (smn _ _ gq) n4 #[λz=>absurd z xd2,?_] ii
     ·rw[eo hs];exact .tail _ z
     ·exact (Fx () ci cj).mono ()
    ·rintro σ' Hl ⟨w6,rfl,Xl,kpl,bl⟩;refine #[_,_,_,_,_,_,um,rfl,Xl.weak λ_ _ y h=>h.2.mono ?_,kpl];rw[<- eW,jf,d5 (9^t) 9,dM];exact ar _
  ·rintro σ' H' ⟨x1,x2,x3,x4,x5,x6,us',rfl,X,kp⟩;exists b6 λr H2' s' g'=>?_
   exact done r us' H2' _ () g' (X.same s') (kp.same s')
theorem eC:ba ["_law_bag_here","_law_one","_law_other","_law_ahead","_law_behind","_law_found","_law_k"] ["_law_bag_here"] (aM lG):=by walk_at "d"
theorem xB (T:Txt K mg Z) (ptree:P.given.tree=none):cQ P w K mg base iJ 5 Z.qY Z.qM ["_law_bag_here"] (Pt K):=by
 have oZ:=xD (P:=P) (w:=w) (base:=base) T ptree;have aS:=eF (P:=P) (w:=w) (base:=base) T ptree;have tu:=vH (P:=P) (w:=w) (base:=base) T ptree;refine T.kK.F.ok eC (λvs H Q E h=>?_) (λcdv A outer s H vs Q E hr h=>?_)
 ·obtain b|rfl|_:=h;rfl
 ·obtain b|rfl|hB|k:=h
  refine #[_,(au (aZ (i:=1) eC.nd rfl (Or.inl rfl) (cK oZ hr T.kL (aa (pv 0) (aa ak ag))))
   (au (aZ (i:=2) eC.nd rfl (Or.inl rfl) (cK oZ hr T.kL (aa (pv 0) (aa (bA gN ak (cK aS hr T.aV (aa (pv 0) (aa ak ag)))) ag))))
   (au (aZ (i:=3) eC.nd rfl (Or.inr rfl) (bA NF (d6 (aa (cP (aa ak (aa ak ag))) ag)) ak))
   (au (aZ (i:=4) eC.nd rfl (Or.inr rfl) (bA NF (d6 (aa (cP (aa ak (aa ak ag))) ag)) (bG bw (by rfl) T.len bc (aa (aU bP (pv 2) ak) ag))))
   (au (aZ (i:=5) eC.nd rfl (Or.inl rfl) (d6 ag))
   (au (dW PassesOwn.never rfl (cC rfl T.range (aa ak ag)) (aN (i:=6) eC.nd)
    (az (i8 (vD cN cX cW jB (pv 5) (aa (bA pR (b8 ["_law_row_here"] ["_law_behind"] [4] (b7 (aU bP (pv 1) (pv 6))) (λ_=>(aN (i:=0) (show ND9 ["_law_row_here","_law_behind"] by decide +kernel))) (λ_=>cb) (λ_=>(bA pR (pv 0) (pv 1)))) (b8 ["_law_row_here"] ["_law_ahead"] [3] (b7 (aU bP (pv 2) (pv 6))) (λ_=>(aN (i:=0) (show ND9 ["_law_row_here","_law_ahead"] by decide +kernel))) (λ_=>cb) (λ_=>(bA pR (pv 1) (pv 0))))) ag)))))
   (az (a8 (cK tu hr T.ma (aa (pv 0) (aa (aU bz (pv 5) ak) (aa (aU bz (pv 5) ak) (aa (aU bz (pv 5) ak) ag))))))))))))),?_]
  refine aX (σ:=[some (.ref b),none,none,none,none,none,none]) rfl ?_;obtain q0|I0|xq|gq0:=hB.inner;exists #[b,3,rfl,hB,(),(),λr1 mv1 pt1 lk1 H1 P1 lm1 lp1 ll1 D1 fm1 fp1 fl1 B1 u1=>?_];exists #[b,3,rfl,B1,(),(),λv H2 v0 v1 B2 u2=>?_];obtain v|rfl:=cO v0;have u02:=u1.trans u2;walk_at "w";rw[show ((3:Int)+(v:Int))=((3+v:Nat):Int) by lia];refine #[b,3+v,rfl,B2,(),(),λr2 mv2 pt2 lk2 H3 P2 lm2 lp2 ll2 D2 fm2 fp2 fl2 B3 u3=>?_];have u03:=u02.trans u3;have P1c:=(P1.upto (u2.trans u3) B1 hB.at);have P2c:fG K H H3 r2 mv2 pt2 lk2:=P2.weak λq h=>u02.none B2 h
  exists b6 λt0 H4 s4 g4=>?_
  exists dw λa1 H5 s5 n5 g5=>?_
  exists Ng (k:=3) g5 () λah H6 s6 n6 g6=>?_
  have s36:=(s4.trans s5).trans s6;obtain m1|p1|l1|gt1|m1n|p1n|l1n|Gm1|Gp1|Gl1:=P1c.same s36;obtain m2|p2|l2|gt2|m2n|p2n|l2n|Gm2|Gp2|Gl2:=P2c.same s36;have N0:bS K H6 0 (V.ref t0):=bS.mk (q:=0) ((s5.trans s6) _ _ g4) rfl;exists b6 λt1 H7 s7 g7=>?_
  exists dw λa2 H8 s8 n8' g8=>?_
  have s68:=s7.trans s8;have gt2':=s68 _ _ gt2;obtain um2|gm2|qm2|_:=id (Gm2.same s68);have lum2:=qm2.9;exists #[_,_,rfl,.inl (bJ.of gm2),?_];rw[<- lum2,lm2];exists Ng (k:=3+v) g8 () λbh H9 s9 n9 g9=>?_
  have s69:=s68.trans s9;have s39:=s36.trans s69;have N1:bS K H9 0 (V.ref t1):=bS.mk (q:=0) ((s8.trans s9) _ _ g7) rfl;have u09:=u03.same s39;have B9:=B3.same s39;have g6':=s69 _ _ g6;have N0':=N0.same s69;exists dw λfd H10 s10 n10 g10=>?_
  have X1:∀i:Nat,i < 3->∃q1 R1 q2 R2,[V.ref m1,V.ref p1,V.ref l1][i]?=some (V.ref q1)/\bQ K H H9 q1 R1/\(∀xs∈R1,xs.9=3/\∀y∈xs,Fr 1 1 y)/\[V.ref m2,V.ref p2,V.ref l2][i]?=some (V.ref q2)/\bQ K H H9 q2 R2/\(∀xs∈R2,xs.9=3+v/\∀y∈xs,Fr 1 1 y)/\R1.9<=100/\R2.length<=100/\[6+v,2,2][i]?=some (R1.9+R2.length):=λi hi=>by
   rcases (show i=0\/i=1\/i=2 by lia) with rfl | rfl | rfl
   ·exact #[m1,mv1,m2,mv2,rfl,Gm1.same s69,λxs hx=>#[by rw[D1.mw xs hx,lm1],fm1 xs hx],rfl,Gm2.same s69,λxs hx=>#[by rw[D2.mw xs hx,lm2],fm2 xs hx],(),(),by rw[lm1,lm2,show 3+(3+v)=6+v by lia];rfl]
   ·exact #[p1,pt1,p2,pt2,rfl,Gp1.same s69,λxs hx=>#[by rw[D1.pw xs hx,lm1],fp1 xs hx],rfl,Gp2.same s69,λxs hx=>#[by rw[D2.pw xs hx,lm2],fp2 xs hx],(),(),by rw[lp1,lp2];rfl]
   ·exact #[l1,lk1,l2,lk2,rfl,Gl1.same s69,λxs hx=>#[by rw[D1.lw xs hx,lm1],fl1 xs hx],rfl,Gl2.same s69,λxs hx=>#[by rw[D2.lw xs hx,lm2],fl2 xs hx],(),(),by rw[ll1,ll2];rfl]
  exists #[(),(),?_];refine eH (n:=3) (λi σ' H'=>aA H9 H'/\∃x6 L,σ'=[some (.ref b),some (.ref r1),some (.ref r2),some (.ref ah),some (.ref bh),some (.ref fd),x6]/\VW K H9 H' (6+v) fd L/\L.9=i/\∀(j:Nat) (e:Addr×List V),L[j]?=some e->[6+v,2,2][j]?=some e.2.9) #[s10,none,[],rfl,#[g10,n10,(λ_ z=>nomatch z),jG,(λ_ z=>nomatch z),jG],rfl,λj e h=>by simp at h] ?_ ?_
  ·rintro i σ' H' hi ⟨s',x6,L,rfl,T,lL,hL⟩;obtain q1|R1|q2|R2|e1|G1|w1|e2|G2|w2|b1|b2|hlen:=X1 i hi;have gt1':=s' _ _ (s69 _ _ gt1);have gt2'':=s' _ _ (s69 _ _ gt2);obtain ux1|gx1|qx1|_:=id (G1.same s');have gb:=s' _ _ g9;have ga:=s' _ _ g6';exists #[.inl #[rfl,_,bJ.of T.gf],?_];exists IV (nG.of gt1') (eO e1) ?_;exists #[#[_,bJ.of gx1],?_];refine D5 (K:=K) (F:=dF K H) (λH'' c x=>∃q,x=V.ref q/\cu K H'' q c) (λr=>r++List.replicate (3+v) 0) gx1 qx1 () (λa b=>a.same b) (λa b=>by obtain q|e|r:=a;exact #[q,e,r.same b]) (λa=>by obtain q|e|_|gg|_:=a;exact #[q,e,by rw[gg];exact λz=>nomatch z]) ?_ ?_
   ·rintro j ns x Hi NY NN en si ⟨q,rfl,_,zs,gz,qz⟩ k1;have ws:=(w1 ns (ao en)).1;have lz:=qz.9;exists pP gz (si _ _ gb) (aL (bD (by rw[c8];lia))) λc Hj sj nj gj=>?_
    exact k1 _ _ sj #[c,rfl,_,gj,cA (Paired.imp' (λ_ _ z=>z.same sj) qz) (wH (((N1.same s').same si).same sj) _)] #[c,rfl,nj]
   rintro ys1 Ha c1 hc1 sa ga1 nd1 ne1 pr1;obtain ux2|gx2|qx2|_:=id ((G2.same s').same sa);have gt2a:=sa _ _ gt2'';exists IV (nG.of gt2a) (eO e2) ?_;exists #[#[_,bJ.of gx2],?_];refine D5 (K:=K) (F:=dF K H) (λH'' c x=>∃q,x=V.ref q/\cu K H'' q c) (λr=>List.replicate 3 0++r) gx2 qx2 () (λa b=>a.same b) (λa b=>by obtain q|e|r:=a;exact #[q,e,r.same b]) (λa=>by obtain q|e|_|gg|_:=a;exact #[q,e,by rw[gg];exact λz=>nomatch z]) ?_ ?_
   ·rintro j ns x Hi NY NN en si ⟨q,rfl,_,zs,gz,qz⟩ k1;have ws:=(w2 ns (ao en)).1;have lz:=qz.9;exists pP ((sa.trans si) _ _ ga) gz (aL (bD (by rw[c8];lia))) λc Hj sj nj gj=>?_
    exact k1 _ _ sj #[c,rfl,_,gj,cA (wH ((((N0'.same s').same sa).same si).same sj) _) (Paired.imp' (λ_ _ z=>z.same sj) qz)] #[c,rfl,nj]
   rintro ys2 Hb c2 hc2 sb gb2 nd2 ne2 pr2;have sab:=sa.trans sb;have ly1:=pr1.9;have ly2:=pr2.9;rw[af] at ly1 ly2;exists pP (sb _ _ ga1) gb2 (aL (bD ())) λqn Hc sc nc gc=>?_
   have sac:=sab.trans sc;have gfc:=sac _ _ T.gf;exists jA gfc (bD (by rw[af];lia)) ?_
   have rP:∀{c:List Rat} {x:V},(∃q,x=V.ref q/\cu K Hb q c)->(∃q,x=V.ref q/\H' q=none)->c.9=6+v->(∀y∈c,Fr 1 1 y)->ip K (λz=>H' z=none/\z≠qn) Hc (6+v) (Fr 1 1) x:=λ#[q,e,r] #[q',e',nq] hl hf=>by
    rw[e] at e';cases e';exact #[q,_,e,#[nq,λz=>by obtain _|gg|_:=r;rw[z,nc] at gg;cases gg],r.same sc,hl,hf]
   refine #[(s'.trans sac).after n10,some (.int i),L++[(qn,ys1++ys2)],rfl,T.snoc s' sac (sab.none nc) gc ?_ (λx hx=>?_),by rw[aB,eJ,lL],λj e he=>?_]
   ·refine dC.mpr #[nd1,nd2,λx hx y hy z=>?_];obtain _|_|q|e|_|gg|_:=dN pr1 hx;obtain q'|e'|nq|_:=ne2 y hy;rw[<- z,e] at e';cases e';rw[nq] at gg;cases gg
   ·rcases aw.mp hx with hx | hx
    ·obtain c|mc|q|e|r:=dN pr1 hx;obtain ns|mn|rfl:=av.mp mc;obtain q'|e'|nq|_:=ne1 x hx;refine rP #[q,e,r.same sb] #[q',e',nq] (by rw[aB,c8,(w1 ns mn).1];lia) λy hy=>?_
     rcases aw.mp hy with hy | hy
     ·exact (w1 ns mn).2 y hy
     ·rw[(List.mem_replicate.mp hy).2];exact Fr.zero
    ·obtain c|mc|q|e|r:=dN pr2 hx;obtain ns|mn|rfl:=av.mp mc;obtain q'|e'|nq|_:=ne2 x hx;refine rP #[q,e,r] #[q',e',sa.none nq] (by rw[aB,c8,(w2 ns mn).1];lia) λy hy=>?_
     rcases aw.mp hy with hy | hy
     ·rw[(List.mem_replicate.mp hy).2];exact Fr.zero
     ·exact (w2 ns mn).2 y hy
   ·rcases jO j L.9 with z | z
    ·rw[gG z] at he;exact hL j e he
    ·have hj:=(aR.mp he).1;rw[aB,eJ] at hj;have ej:j=L.9:=()
     subst ej;rw[fQ (ar _),Nat.sub_self] at he;cases he;rw[lL,hlen,aB,ly1,ly2]
  ·rintro σ' H' ⟨s',x6,L,rfl,T,lL,hL⟩
   obtain ⟨⟨m,us⟩,⟨p,ws⟩,⟨l,vs⟩,rfl⟩:∃a b c,L=[a,b,c]:=by
    rcases L with _ | ⟨a,_ | ⟨b,_ | ⟨c,_ | ⟨d,L⟩⟩⟩⟩
    ·cases lL
    ·cases lL
    ·cases lL
    ·exact #[a,b,c,rfl]
    ·simp at lL
   have lu:us.9=6+v:=by have:=hL 0 _ rfl;simpa using this.symm
   have lw:ws.9=2:=by have:=hL 1 _ rfl;simpa using this.symm
   have lv:vs.9=2:=by have:=hL 2 _ rfl;simpa using this.symm
   have gf:=T.gf;obtain mn|mf|gm:=T.ls (m,us) (by simp);obtain pn|pf|gp:=T.ls (p,ws) (by simp);obtain ln|lf|gl:=T.ls (l,vs) (by simp);have nd:=T.nd;have rw':=T.rows;have rd:=T.rd;clear T hL;have gf:H' fd=some (.lst [.ref m,.ref p,.ref l]):=gf;have nd:[m,p,l].Nodup:=nd;have rd:(us++(ws++(vs++[]))).Nodup:=rd;have u0':=u09.same s';have B':=B9.same s';have hm0:H m=none:=u09.none B9 mn;have hp0:H p=none:=u09.none B9 pn;have hl0:H l=none:=u09.none B9 ln;obtain ⟨A,eA⟩:∃A:Addr->Prop,A=λq=>H q=none/\q≠m/\q≠p/\q≠l:=#[_,rfl]
   have mkA:∀{q},H q=none->q≠m->q≠p->q≠l->A q:=λh1 h2 h3 h4=>by rw[eA];exact #[h1,h2,h3,h4]
   have unA:∀{q},A q->H q=none/\q≠m/\q≠p/\q≠l:=λh=>by rw[eA] at h;exact h
   have nb:∀{q},H q=none->q≠b:=λh z=>hB.at (by rw[<- z];exact h)
   have MA:Ie A m p l b q0:=#[λz=>(unA z).2.1 rfl,λz=>(unA z).2.2.1 rfl,λz=>(unA z).2.2.2 rfl,λz=>hB.at (unA z).1,(λz=>by have z1:=(unA z).1;rw[gq0] at z1;cases z1),nb hm0,nb hp0,nb hl0,by intro z;subst z;simp at nd,by intro z;subst z;simp at nd,λz=>by rw[<- z,hm0] at gq0;cases gq0];have X:kY K A H' (6+v) (λ_=>Fr 1 1) m p l b q0 us ws vs:=#[B',u0'.2 _ I0,gm,gp,gl,lu,λx hx=>?_,?_]
   ·exists #[b,m,p,l,q0,6+v,1,λ_=>1,A,us,ws,vs,rfl,MA,X,(),(),(),λ_=>Nat.zero_lt_one,λ_=>v7,#[1,λ_ _ _=>rfl],(),λq hq=>?_,λr us' H'' g Y kp=>?_]
    ·exact mkA (u0'.none B' hq) (λz=>by rw[z,gm] at hq;cases hq) (λz=>by rw[z,gp] at hq;cases hq) (λz=>by rw[z,gl] at hq;cases hq)
    ·obtain mv|Gm|lmv|hmv:=lP (H0:=H) (n:=6+v) (C:=Fr 1 (9^3*1)) (m:=6+v) #[us',Y.gm,Y.lm,MA.am,λx hx=>Y.row x (by simp [hx])] λq h=>(unA h).1
     obtain pt|Gp|lpt|hpt:=lP (H0:=H) (n:=6+v) (C:=Fr 1 (9^3*1)) (m:=2) #[ws,Y.gp,lw,MA.ap,λx hx=>Y.row x (by simp [hx])] λq h=>(unA h).1
     obtain lk|Gl|llk|hlk:=lP (H0:=H) (n:=6+v) (C:=Fr 1 (9^3*1)) (m:=2) #[vs,Y.gl,lv,MA.al,λx hx=>Y.row x (by simp [hx])] λq h=>(unA h).1
     refine k r mv pt lk H'' #[m,p,l,g,hm0,hp0,hl0,Gm,Gp,Gl] () #[(),(),(),λxs hx=>by rw[(hmv xs hx).1,lmv],λxs hx=>by rw[(hpt xs hx).1,lmv],λxs hx=>by rw[(hlk xs hx).1,lmv]] (λxs hx=>(hmv xs hx).2) (λxs hx=>(hpt xs hx).2) (λxs hx=>(hlk xs hx).2) Y.bag #[λc' u e n1=>kp c' u (u0'.1 _ _ e n1) n1 (λz=>by have:=(unA z).1;rw[e] at this;cases this) (λz=>by rw[z,hm0] at e;cases e),λq h=>by rw[<- Inner.inj I0 h];exact Y.inn]
   ·have hx:∃e∈[(m,us),(p,ws),(l,vs)],x∈e.2:=by
     rcases aw.mp hx with hx | hx
     ·rcases aw.mp hx with hx | hx
      ·exact #[(m,us),by simp,hx]
      ·exact #[(l,vs),by simp,hx]
     ·exact #[(p,ws),by simp,hx]
    obtain e|he|hx:=hx;refine (rw' e he x hx).weak (λq hq=>?_) (λ_ w=>w);obtain ⟨h1,_⟩|h2:=hq;have h2:q∉[m,p,l]:=h2;simp only[aI,aT,or_false,not_or] at h2;exact mkA (u09.none B9 h1) h2.1 h2.2.1 h2.2.2
   ·rw[tO] at rd
    have e:(us++vs++ws).Perm (us++(ws++vs)):=by
     rw[cV];exact List.Perm.append_left _ List.perm_append_comm
    exact e.nodup_iff.mpr rd
theorem tV:ba ["_law_bag_here","_law_wide","_law_way"] ["_law_bag_here","_law_wide"] (aM pJ):=by walk_at "d"
theorem BM (T:Txt K mg Z) (ptree:P.given.tree=none):cQ P w K mg base iJ 2 Z.vU Z.vN ["_law_bag_here","_law_wide"] (A5 K):=by
 have aS:=eF (P:=P) (w:=w) (base:=base) T ptree;have fX:=kf (P:=P) (w:=w) (base:=base) T ptree;refine T.nX.F.ok tV (λvs H Q E h=>?_) (λcdv A outer s H vs Q E hr h=>?_)
 ·obtain b|w|rfl|_:=h;rfl
 ·obtain b|w|rfl|hB|w0|w1|k:=h
  refine #[_,(au (aZ (i:=2) tV.nd rfl (Or.inl rfl) (cK aS hr T.aV (aa (pv 0) (aa ak ag))))
   (au (dO (bC vF (pv 2) ak (bI _)) (az (a8 (cP (aa ak (aa ak ag))))) ck)
   (au (dO (bC vF (pv 2) ak (bI _)) (az (a8 (cP (aa (bA nV (cK aS hr T.aV (aa (pv 0) (aa ak ag))) ak) (aa ak ag))))) ck)
   (au (dO (bC ik (pv 2) ak (bI _)) (az (a8 (cK fX hr T.hZ (aa (bA nV (cK aS hr T.aV (aa (pv 0) (aa ak ag))) ak) (aa (bA gN ak (cK aS hr T.aV (aa (pv 0) (aa ak ag)))) ag))))) ck)
   (az (a8 (cK fX hr T.hZ (aa (bA nV (cK aS hr T.aV (aa (pv 0) (aa (bA gN (bA cH ak (pv 1)) ak) ag))) (pv 1)) (aa (bA gN ak (cK aS hr T.aV (aa (pv 0) (aa (pv 1) ag)))) ag))))))))),?_]
  refine aX (σ:=[some (.ref b),some (.int w),none]) rfl ?_;exists #[b,8,rfl,hB,(),(),λv H1 v0 v1 B1 u1=>?_];exists jC (λh0=>?_) (λh0=>?_)
  ·exists b6 λr H2 s2 g2=>?_
   exact k r 0 _ #[bW _,by show 1<=_;lia] (bS.mk g2 rfl) (B1.same s2) (u1.same s2)
  exists jC (λh1=>?_) (λh1=>?_)
  ·exists #[b,7,rfl,B1,(),(),λa H2 a0 a1 B2 u2=>?_];exists b6 λr H3 s3 g3=>?_
   exact k r ((a - 3:Int):Rat) _ #[by show (a - 3).natAbs<=_;lia,by show 1<=_;lia] (bS.mk g3 rfl) (B2.same s3) ((u1.trans u2).same s3)
  exists jC (λh2=>?_) (λh2=>?_)
  ·exists #[b,13,rfl,B1,(),(),λa H2 a0 a1 B2 u2=>?_];exists #[b,6,rfl,B2,(),(),λc H3 c0 c1 B3 u3=>?_];exists #[_,_,rfl,(),(II ()).mono (),λr H4 s4 g4=>?_];obtain q|e|d|_:=Jm (t:=a - 6) (b:=1+c) (W:=max w 6) () () ();exact k r q _ d (bS.mk g4 e) (B3.same s4) (((u1.trans u2).trans u3).same s4)
  exists #[b,_,rfl,B1,(),(),λa H2 a0 a1 B2 u2=>?_];exists #[b,_,rfl,B2,(),(),λc H3 c0 c1 B3 u3=>?_];exists #[_,_,rfl,(),(II ()).mono (),λr H4 s4 g4=>?_];obtain q|e|d|_:=Jm (t:=a - w) (b:=1+c) (W:=max w 6) () () ();exact k r q _ d (bS.mk g4 e) (B3.same s4) (((u1.trans u2).trans u3).same s4)
theorem GN:ba ["_law_bag_here","_law_many","_law_wide"] ["_law_bag_here","_law_many","_law_wide"] (aM wB):=by walk_at "d"
theorem oM (T:Txt K mg Z) (ptree:P.given.tree=none):cQ P w K mg base iJ 3 Z.CL Z.Cn ["_law_bag_here","_law_many","_law_wide"] (GA K):=by
 have Dy:=BM (P:=P) (w:=w) (base:=base) T ptree;refine T.jn.F.ok GN (λvs H Q E h=>?_) (λcdv A outer s H vs Q E hr h=>?_)
 ·obtain b|m|w|rfl|_:=h;rfl
 ·obtain b|m|w|rfl|hB|hm|w0|w1|k:=h;refine #[_,(az (a8 (b8 ["_law_k"] ["_law_bag_here","_law_wide"] [0,2] (cC rfl T.range (aa (pv 1) ag)) (λ_=>(aN (i:=0) (show ND9 ["_law_k","_law_bag_here","_law_wide"] by decide +kernel))) (λ_=>cb) (λ_=>(cK Dy hr T.nX (aa (pv 1) (aa (pv 2) ag))))))),?_];refine aX (σ:=[some (.ref b),some (.int m),some (.int w)]) rfl ?_;exists #[(),(),?_];refine y7 (n:=m) (bS K) (Dr (max w 6)) hB hm (λa u B=>a.upto u B) ?_ ?_
  ·rintro i H' NY NN hi u B k1;exists #[b,w,rfl,B,w0,w1,λr x H2 hx h2 B2 u2=>k1 _ x _ u2 B2 hx h2]
  ·rintro ys cs H' p hp u B g lc hc pr nx;exact k p cs H' hp #[ys,g,pr] lc hc B u
theorem kz:ba ["_law_bag_here","_law_n","_law_way","_law_first","_law_wide","_law_move_here","_law_i","_law_row_here","_law_j"] ["_law_bag_here","_law_n","_law_way","_law_first","_law_wide"] (aM uo):=by walk_at "d"
theorem Fg (T:Txt K mg Z) (ptree:P.given.tree=none):cQ P w K mg base iJ 4 Z.Ag Z.zR ["_law_bag_here","_law_n","_law_way","_law_first","_law_wide"] (Gw K):=by
 have js:=oM (P:=P) (w:=w) (base:=base) T ptree;have aS:=eF (P:=P) (w:=w) (base:=base) T ptree;refine T.sI.F.ok kz (λvs H Q E h=>?_) (λcdv A outer s H vs Q E hr h=>?_)
 ·obtain b|n|w|way|first|rfl|_:=h;rfl
 ·obtain b|n|w|way|first|rfl|hB|n8|w0|w1|k:=h
  refine #[_,(au (aZ (i:=5) kz.nd rfl (Or.inl rfl) (d6 ag))
   (au (dW PassesOwn.never rfl (cC rfl T.range (aa (pv 1) ag)) (aN (i:=6) kz.nd)
    (au (aZ (i:=7) kz.nd rfl (Or.inl rfl) (cK js hr T.jn (aa (pv 0) (aa (pv 1) (aa (pv 4) ag)))))
   (au (dW PassesOwn.never rfl (cC rfl T.range (aa (pv 1) ag)) (aN (i:=8) kz.nd)
    (ka (dO (PW.pt (kE (bC ik (pv 2) ak (bI _)) (l5 (bC xy (cK aS hr T.aV (aa (pv 0) (aa ak ag))) ak (bI _))))) (az (iE (cP (aa ak (aa ak ag))) (jk (pv 7) (pv 8) set_list))) ck)
   (ka (dO (PW.pt (kE (bC ik (pv 2) ak (bI _)) (l5 (bC vF (bA gN (pv 6) ak) (pv 1) (bI _))))) (az (iE (cP (aa (eI qS (by rfl) T.int PyProof.Rows.boot_int (aa (jM ik (pv 8) (bA gN (pv 6) ak) (bI _)) ag)) (aa ak ag))) (jk (pv 7) (pv 8) set_list))) ck)
   (ka (dO (PW.pt (lC (PW.pt (kE (bC ik (pv 2) ak (bI _)) (kE (bC BH (pv 6) (pv 3) (bI _)) (l5 (bC vF (pv 8) (pv 3) (bI _)))))) (jT (PW.pt (kE (bC ik (pv 2) ak (bI _)) (kE (bC vF (pv 6) (pv 3) (bI _)) (l5 (bC BH (pv 8) (pv 3) (bI _))))))))) (az (iE (cP (aa ak (aa ak ag))) (jk (pv 7) (pv 8) set_list))) ck)
   (az (dO (bC ik (pv 2) ak (bI _)) (az (iE (cP (aa (bA cH (aU bz (d6 (aa ak (aa ak (aa (vC pB ak) (aa ak ag))))) (bA pQ (pv 3) ak)) (eI qS (by rfl) T.int PyProof.Rows.boot_int (aa (jM ik (pv 6) (pv 8) (bI _)) ag))) (aa ak ag))) (jk (pv 7) (pv 8) set_list))) ck))))))
   (az (i8 (vD cN cX cW jB (pv 5) (aa (pv 7) ag)))))))
   (az (a8 (pv 5))))),?_]
  refine aX (σ:=[some (.ref b),some (.int n),some (.int way),some (.int first),some (.int w),none,none,none,none]) rfl ?_;have W1:1<=max w 6:=()
  exists dw λr H1 s1 n1 g1=>?_
  have rb:r≠b:=λz=>hB.at (by rw[<- z];exact n1)
  obtain q0|I0|xs0|gq0:=hB.inner;have I1:Inner H1 b q0:=(s1.upto (p:=b)).2 _ I0;obtain ⟨A,eA⟩:∃A:Addr->Prop,A=λq=>H q=none/\q≠r:=#[_,rfl]
  have nb:¬A b:=by rw[eA];exact λz=>hB.at z.1
  have nr:¬A r:=by rw[eA];exact λz=>z.2 rfl
  have nq:¬A q0:=by rw[eA];exact λz=>by have z1:=z.1;rw[gq0] at z1;cases z1
  have rq:r≠q0:=λz=>by rw[<- z,n1] at gq0;cases gq0
  exists #[(),(),?_];refine eH (n:=n) (λi σ' H'=>∃(x1 x2 x3:Option V) (us:List V),σ'=[some (.ref b),some (.int n),some (.int way),some (.int first),some (.int w),some (.ref r),x1,x2,x3]/\H' r=some (.lst us)/\us.9=i/\us.Nodup/\(∀x∈us,ip K A H' n (Dr (max w 6)) x)/\iq H' b/\Inner H' b q0/\cM b H H') #[none,none,none,[],rfl,g1,rfl,jG,(λ_ z=>nomatch z),hB.same s1,I1,s1.upto] ?_ ?_
  ·rintro i σ' H' hi ⟨x1,x2,x3,us,rfl,gu,lu,nd,ru,B',I',u'⟩;exists #[b,n,w,rfl,B',(),w0,w1,λp xs Ha np Ra la da Ba ua=>?_];have hp0:H p=none:=u'.none B' np
   have pn:V.ref p∉us:=λz=>by
    obtain q'|_|_|e'|_|g'|_:=(ru _ z).at;cases e';rw[np] at g';cases g'
   have ap':H p=none/\p≠r:=#[hp0,λz=>by rw[z,gu] at np;cases np];have ap:A p:=by rw[eA];exact ap'
   have X0:KY K A n (Dr (max w 6)) r p b q0 us H Ha:=#[ua.other rb gu,λx hx=>(ru x hx).upto ua B' nb,#[p,xs,rfl,ap,Ra,la,da],Ba,ua.2 _ I',u'.trans ua];clear ru Ra gu;exists #[(),(),?_];refine eH (n:=n) (λj σ' H'=>(∃x3,σ'=[some (.ref b),some (.int n),some (.int way),some (.int first),some (.int w),some (.ref r),some (.int i),some (.ref p),x3])/\KY K A n (Dr (max w 6)) r p b q0 us H H') #[#[_,rfl],X0] ?_ ?_
   ·rintro j σ' Hj hj ⟨⟨x3,rfl⟩,X⟩;exists #[λσ' H'=>σ'=[some (.ref b),some (.int n),some (.int way),some (.int first),some (.int w),some (.ref r),some (.int i),some (.ref p),some (.int j)]/\KY K A n (Dr (max w 6)) r p b q0 us H H',?_,?_]
    ·exists jC (λ_=>?_) (λ_=>?_)
     ·exists #[b,3,rfl,X.bag,(),(),λd Hd d0 d1 Bd ud=>?_];replace X:=X.upto ud Bd nb rb
      repeat' (first | walk_at "rd" | refine jC (λ_=>?_) (λ_=>?_))
      all_goals first
       | exact ⟨rfl,X⟩
       | (refine b6 λt Hb sb gb=>?_;walk_at "w";obtain zs|gz|lz|Xz:=(X.same sb).put ap nr nb nq hp0 (bS.mk (q:=0) gb rfl) (uM (i:=0) (bW _) W1) j;refine gZ gz (iu ()) rfl ?_;exact #[rfl,Xz])
     ·exists #[rfl,X]
    clear X;rintro σ' Hj ⟨rfl,X⟩;refine #[λσ' H'=>σ'=[some (.ref b),some (.int n),some (.int way),some (.int first),some (.int w),some (.ref r),some (.int i),some (.ref p),some (.int j)]/\KY K A n (Dr (max w 6)) r p b q0 us H H',?_,?_]
    ·repeat' (first | walk_at "rd" | refine jC (λ_=>?_) (λ_=>?_))
     all_goals first
      | exact ⟨rfl,X⟩
      | (refine b6 λt Hb sb gb=>?_;walk_at "w";obtain zs|gz|lz|Xz:=(X.same sb).put ap nr nb nq hp0 (bS.mk (q:=((if decide ((j:Int)=(i:Int)+1)=true then (1:Int) else 0:Int):Rat)) gb rfl) (uM (by split <;> lia) W1) j;refine gZ gz (iu ()) rfl ?_;exact #[rfl,Xz])
    clear X;rintro σ' Hj ⟨rfl,X⟩;refine #[λσ' H'=>σ'=[some (.ref b),some (.int n),some (.int way),some (.int first),some (.int w),some (.ref r),some (.int i),some (.ref p),some (.int j)]/\KY K A n (Dr (max w 6)) r p b q0 us H H',?_,?_]
    ·repeat' (first | walk_at "rd" | refine jC (λ_=>?_) (λ_=>?_))
     all_goals first
      | exact ⟨rfl,X⟩
      | (refine b6 λt Hb sb gb=>?_;walk_at "w";obtain zs|gz|lz|Xz:=(X.same sb).put ap nr nb nq hp0 (bS.mk (q:=0) gb rfl) (uM (i:=0) (bW _) W1) j;refine gZ gz (iu ()) rfl ?_;exact #[rfl,Xz])
    clear X;rintro σ' Hj ⟨rfl,X⟩;exists jC (λ_=>?_) (λ_=>?_)
    ·exists dw λl0 Hc sc nc gc=>?_
     walk_at "w";obtain x|ex|mx|_:=kT (xs:=[V.int 2,V.int 1,V.int (-1),V.int 0]) (i:=first % 4) (nD _ ()) (by have:=jQ first (show (0:Int) < 4 by decide);simpa using this)
     obtain ⟨z,rfl,hz⟩:∃z:Int,x=.int z/\z.natAbs<=2:=by
      simp only[aI,aT,or_false] at mx;rcases mx with rfl | rfl | rfl | rfl
      ·exact #[2,rfl,()]
      ·exact #[1,rfl,()]
      ·exact #[-1,rfl,()]
      ·exact #[0,rfl,()]
     refine cy (bJ.of gc) ex ?_;exists fD (KN () ()) ?_;exists b6 λt Hb sb gb=>?_
     walk_at "w";obtain zs|gz|lz|Xz:=((X.same sc).same sb).put ap nr nb nq hp0 (bS.mk (q:=((z*(if decide ((i:Int)=(j:Int))=true then (1:Int) else 0):Int):Rat)) gb rfl) (uM (by split <;> lia) W1) j;refine gZ gz (iu ()) rfl ?_;exact #[#[_,rfl],Xz]
    ·exists #[#[_,rfl],X]
   ·rintro σ' Hj ⟨⟨x3,rfl⟩,X⟩;exists #[.inl #[rfl,_,bJ.of X.gr],?_];exists jA X.gr (bD ()) ?_;refine #[_,_,_,us++[.ref p],rfl,aK,by simp [lu],rT nd pn,λx hx=>?_,X.bag.upd X.inn rb rq,X.inn.upd rb,X.up.after n1];rcases aw.mp hx with hx | hx
    ·exact (X.ru x hx).other X.gr nr
    ·have e:x=V.ref p:=by simpa using hx
     rw[e];exact X.rp.other X.gr nr
  ·rintro σ' H' ⟨x1,x2,x3,us,rfl,gu,lu,nd,ru,B',I',u'⟩;exists k r us H' n1 gu lu nd (by rw[eA] at ru;exact ru) B' u'
theorem fv:ba ["_law_bag_here","_law_n","_law_ins","_law_outs","_law_wide","_law_way","_law_first","_law_move_here","_law_put","_law_look","_law_k","_law_row_here"] ["_law_bag_here","_law_n","_law_ins","_law_outs","_law_wide"] (aM rM):=by walk_at "d"
theorem Dk (T : Txt K mg Z) (ptree : P.given.tree = none) : cQ P w K mg base iJ 5 Z.yh Z.xV ["_law_bag_here", "_law_n", "_law_ins", "_law_outs", "_law_wide"] (DJ K) := by
  have aS := eF (P := P) (w := w) (base := base) T ptree;have Im := Fg (P := P) (w := w) (base := base) T ptree;have js := oM (P := P) (w := w) (base := base) T ptree;have tu := vH (P := P) (w := w) (base := base) T ptree;refine T.pY.F.ok fv (λvs H Q E h => ?_) (λcdv A outer s H vs Q E hr h => ?_)
  · obtain b|n|i|o|w|c|rfl|_:= h;rfl
  · obtain b|n|i|o|w|c|rfl|hB|n8|i4|o4|w0|w1|hc|hc20|hcM|k:= h
    refine #[_, (au (aZ (i := 5) fv.nd rfl (Or.inl rfl) (cK aS hr T.aV (aa (pv 0) (aa ak ag))))
      (au (aZ (i := 6) fv.nd rfl (Or.inl rfl) (cK aS hr T.aV (aa (pv 0) (aa (bA gN (pv 1) ak) ag))))
      (au (aZ (i := 7) fv.nd rfl (Or.inl rfl) (cK Im hr T.sI (aa (pv 0) (aa (pv 1) (aa (pv 5) (aa (pv 6) (aa (pv 4) ag)))))))
      (au (l7 8 ["_law_k"] ["_law_bag_here", "_law_n", "_law_wide"] [0, 1, 4] fv.nd rfl rfl (cC rfl T.range (aa (pv 2) ag)) (λ_ => (aN (i := 0) (show List.Nodup (α := PySem.Str) ["_law_k", "_law_bag_here", "_law_n", "_law_wide"] by decide +kernel))) (λ_ => cb) (λ_ => (cK js hr T.jn (aa (pv 1) (aa (pv 2) (aa (pv 3) ag))))))
      (au (l7 9 ["_law_k"] ["_law_bag_here", "_law_n", "_law_wide"] [0, 1, 4] fv.nd rfl rfl (cC rfl T.range (aa (pv 3) ag)) (λ_ => (aN (i := 0) (show List.Nodup (α := PySem.Str) ["_law_k", "_law_bag_here", "_law_n", "_law_wide"] by decide +kernel))) (λ_ => cb) (λ_ => (cK js hr T.jn (aa (pv 1) (aa (pv 2) (aa (pv 3) ag))))))
      (au (dW PassesOwn.never rfl (cC rfl T.range (aa (pv 1) ag)) (aN (i := 10) fv.nd)
        (au (dW PassesOwn.never rfl (b7 (pv 8)) (aN (i := 11) fv.nd)
        (az (dO (PW.pt (lC (PW.pt (kE (bC ik (pv 5) ak (bI _)) (l5 (bC BH (pv 10) (pv 6) (bI _))))) (jT (PW.pt (kE (bC ik (pv 5) ak (bI _)) (kE (bC vF (bA gN (pv 10) ak) (pv 1) (bI _)) (l5 (bC ik (cK aS hr T.aV (aa (pv 0) (aa ak ag))) ak (bI _))))))))) (az (iE (cP (aa ak (aa ak ag))) (jk (pv 11) (pv 10) set_list))) ck)))
      (az (dW PassesOwn.never rfl (b7 (pv 9)) (aN (i := 11) fv.nd)
        (az (dO (PW.pt (lC (PW.pt (kE (bC ik (pv 5) ak (bI _)) (l5 (bC BH (pv 10) (pv 6) (bI _))))) (jT (PW.pt (kE (bC ik (pv 5) ak (bI _)) (kE (bC xy (pv 10) ak (bI _)) (l5 (bC ik (cK aS hr T.aV (aa (pv 0) (aa ak ag))) ak (bI _))))))))) (az (iE (cP (aa ak (aa ak ag))) (jk (pv 11) (pv 10) set_list))) ck))))))
      (az (a8 (cK tu hr T.ma (aa (pv 0) (aa (pv 7) (aa (pv 8) (aa (pv 9) ag))))))))))))), ?_]
    refine aX (σ := [some (.ref b), some (.int n), some (.int i), some (.int o), some (.int w), none, none, none, none, none, none, none]) rfl ?_;have W1 : 1 ≤ max w 6 := by lia
    obtain q0|I0|xs0|gq0:= hB.inner;exists #[b, 6, rfl, hB, by decide, by decide, λway H1 a0 a1 B1 u1 => ?_];exists #[b, _, rfl, B1, by lia, by lia, λfirst H2 f0 f1 B2 u2 => ?_];have u02 := u1.trans u2;exists #[b, n, w, way, first, rfl, B2, n8, w0, w1, λm us H3 nm0 gm lm ndm rm B3 u3 => ?_];have u03 := u02.trans u3;exists #[(), by lia, ?_];refine D7 (n := i) (b := b) (dF K H3) (λxs => xs.9 = n /\ ∀ x ∈ xs, Dr (max w 6) x) B3 () (λa u B => a.upto u B B3.at) (λ#[q, e, _, _, g, _] => #[q, e, by rw [g]; exact λz => nomatch z]) ?_ ?_
    · rintro s H' NY NN hi u B k1;exists #[b, n, w, rfl, B, by lia, w0, w1, λr xs H2 nr R lx dx B2 u2 => k1 _ xs _ u2 B2 #[lx, dx] #[r, rfl, u.none B nr, R] #[r, rfl, nr]]
    rintro ws puts H4 p np u4 B4 gp lp ndp hp pr4 nx4;have u04 := u03.trans u4;exists #[(), by lia, ?_];refine D7 (n := o) (b := b) (dF K H4) (λxs => xs.9 = n /\ ∀ x ∈ xs, Dr (max w 6) x) B4 () (λa u B => a.upto u B B4.at) (λ#[q, e, _, _, g, _] => #[q, e, by rw [g]; exact λz => nomatch z]) ?_ ?_
    · rintro s H' NY NN hi u B k1;exists #[b, n, w, rfl, B, by lia, w0, w1, λr xs H2 nr R lx dx B2 u2 => k1 _ xs _ u2 B2 #[lx, dx] #[r, rfl, u.none B nr, R] #[r, rfl, nr]]
    rintro vs looks H5 l nl u5 B5 gl ll ndl hl pr5 nx5;have u05 := u04.trans u5;have hm0 : H m = none := u02.none B2 nm0;have hp0 : H p = none := u03.none B3 np;have hl0 : H l = none := u04.none B4 nl;have mb : m ≠ b := λz => B2.at (by rw [<- z]; exact nm0)
    have pb : p ≠ b := λz => B3.at (by rw [<- z]; exact np)
    have lb : l ≠ b := λz => B4.at (by rw [<- z]; exact nl)
    have gm4 := u4.other mb gm;have gm5 := u5.other mb gm4;have gp5 := u5.other pb gp;have mp : m ≠ p := λz => by rw [z, np] at gm; cases gm
    have ml : m ≠ l := λz => by rw [z, nl] at gm4; cases gm4
    have pl : p ≠ l := λz => by rw [z, nl] at gp; cases gp
    have mq : m ≠ q0 := λz => Inner.at B2 (u02.2 _ I0) (by rw [<- z]; exact nm0)
    obtain ⟨A, eA⟩ : ∃ A : Addr → Prop, A = λq => H q = none /\ q ≠ m /\ q ≠ p /\ q ≠ l := #[_, rfl]
    have mkA : ∀ {q}, H q = none → q ≠ m → q ≠ p → q ≠ l → A q := λh1 h2 h3 h4 => by rw [eA]; exact #[h1, h2, h3, h4]
    have unA : ∀ {q}, A q → H q = none /\ q ≠ m /\ q ≠ p /\ q ≠ l := λh => by rw [eA] at h; exact h
    have MA : Ie A m p l b q0 := #[λz => (unA z).2.1 rfl, λz => (unA z).2.2.1 rfl, λz => (unA z).2.2.2 rfl, λz => hB.at (unA z).1, (λz => by have z1 := (unA z).1; rw [gq0] at z1; cases z1), mb, pb, lb, mp, ml, mq];clear eA;have lws : ws.9 = i := by rw [<- pr4.9]; exact lp
    have lvs : vs.9 = o := by rw [<- pr5.9]; exact ll
    have alM : ∀ q, V.ref q ∈ us → H3 q ≠ none /\ q ≠ b /\ H4 q ≠ none := λq hq => by
      obtain q'|qs|e|⟨a1, a2⟩|r|z:= rm _ hq;cases e;have qb : q ≠ b := λy => B2.at (by rw [<- y]; exact a1)
      obtain xq|gq|_:= id r;obtain xq4|gq4|_:= r.upto u4 B3 qb;exact #[(by rw [gq]; exact λz => nomatch z), qb, (by rw [gq4]; exact λz => nomatch z)]
    have alP : ∀ q, V.ref q ∈ ws → H3 q = none /\ H4 q ≠ none := λq hq => by
      obtain _|_|q'|e|a|_|g|_:= dN pr4 hq;cases e;exact #[a, by rw [g]; exact λz => nomatch z]
    have alL : ∀ q, V.ref q ∈ vs → H4 q = none := λq hq => by
      obtain _|_|q'|e|a|_:= dN pr5 hq;cases e;exact a
    have isR : ∀ x, x ∈ us \/ x ∈ ws \/ x ∈ vs → ∃ q, x = V.ref q := λx hx => by
      rcases hx with hx | hx | hx
      · obtain q|_|e|_:= rm x hx; exact #[q, e]
      · obtain _|_|q|e|_:= dN pr4 hx; exact #[q, e]
      · obtain _|_|q|e|_:= dN pr5 hx; exact #[q, e]
    have nd : (us ++ vs ++ ws).Nodup := by
      refine dC.mpr #[dC.mpr #[ndm, ndl, λx hx y hy e => ?_], ndp, λx hx y hy e => ?_]
      · subst e;obtain q|rfl:= isR x (.inl hx);exact (alM q hx).2.2 (alL q hy)
      · subst e;obtain q|rfl:= isR x (.inr (.inl hy));rcases aw.mp hx with hx | hx
        · exact (alM q hx).1 (alP q hy).1
        · exact (alP q hy).2 (alL q hx)
    have X5 : JF K A n (Dr (max w 6)) m p l b q0 us ws vs H H5 := by
      refine #[#[B5, u05.2 _ I0, gm5, gp5, gl, lm, λx hx => ?_, nd], gp5, gl, λc u e n1 _ _ => u05.1 c u e n1];rcases aw.mp hx with hx | hx
      · rcases aw.mp hx with hx | hx
        · obtain q|qs|e|⟨a1, a2⟩|r|z:= rm x hx;obtain xq|gq|_:= id r;have qb : q ≠ b := λy => B2.at (by rw [<- y]; exact a1)
          have r4 := r.upto u4 B3 qb;obtain xq4|gq4|_:= id r4;exact #[q, qs, e, mkA (u02.none B2 a1) a2 (λy => by rw [y, np] at gq; cases gq) (λy => by rw [y, nl] at gq4; cases gq4), r4.upto u5 B4 qb, z]
        · refine Nf (A := A) pr5 hl (λq hq a b' => ?_) x hx;exact mkA (u04.none B4 a) (λy => by rw [y, gm4] at a; cases a) (λy => by rw [y, gp] at a; cases a) (λy => oO nx5 (by rw [<- y]; exact hq))
      · refine ip.upto (Nf (A := A) pr4 hp (λq hq a b' => ?_) x hx) u5 B4 MA.ab;exact mkA (u03.none B3 a) (λy => by rw [y, gm] at a; cases a) (λy => oO nx4 (by rw [<- y]; exact hq)) (λy => b' (by rw [y]; exact nl))
    clear alM alP alL isR rm pr4 pr5 nx4 nx5 gm gm4 gm5 gp gp5 gl hp hl;exists #[(), by lia, ?_];refine eH (n := n) (λkk σ' H' => (∃ x1 x2, σ' = [some (.ref b), some (.int n), some (.int i), some (.int o), some (.int w), some (.int way), some (.int first), some (.ref m), some (.ref p), some (.ref l), x1, x2]) /\ JF K A n (Dr (max w 6)) m p l b q0 us ws vs H H') #[#[_, _, rfl], X5] ?_ ?_
    · rintro kk σ' Hj hk ⟨⟨x1, x2, rfl⟩, X⟩;exists #[#[_, bJ.of X.gp], ?_];refine ib (K := K) (a := p) (xs := ws) (λs σ' H' => (∃ x2, σ' = [some (.ref b), some (.int n), some (.int i), some (.int o), some (.int w), some (.int way), some (.int first), some (.ref m), some (.ref p), some (.ref l), some (.int kk), x2]) /\ JF K A n (Dr (max w 6)) m p l b q0 us ws vs H H') #[#[_, rfl], X] (λs σ' H' _ #[_, e] => bJ.of e.gp) ?_ ?_
      · rintro s x σ' Hk hx ⟨⟨y2, rfl⟩, X⟩;have mx := ao hx;obtain q|_|rfl|_:= X.row (.inl mx)
        repeat' (first | walk_at "rd" | refine jC (λ_ => ?_) (λ_ => ?_))
        all_goals first
          | exact ⟨⟨_, rfl⟩, X⟩
          | (refine b6 λt Hb sb gb => ?_; walk_at "w"; obtain zs|gz|lz|Xz:= (X.same sb).put MA (.inl mx) (bS.mk (q := 0) gb rfl) (uM (i := 0) (bW _) W1) kk; refine gZ gz (iu ()) rfl ?_; exact #[#[_, rfl], Xz])
          | (refine ⟨b, 2, rfl, X.mix.bag, by decide, by decide, λd Hd d0 d1 Bd ud => ?_⟩
             replace X := X.upto MA ud Bd
             repeat' (first | walk_at "rd" | refine jC (λ_ => ?_) (λ_ => ?_))
             all_goals first
               | exact ⟨⟨_, rfl⟩, X⟩
               | (refine b6 λt Hb sb gb => ?_
                  walk_at "w";obtain zs|gz|lz|Xz:= (X.same sb).put MA (.inl mx) (bS.mk (q := 0) gb rfl) (uM (i := 0) (bW _) W1) kk;refine gZ gz (iu ()) rfl ?_;exact #[#[_, rfl], Xz]))
      · rintro σ' Hk ⟨⟨y2, rfl⟩, X⟩;exists #[#[_, bJ.of X.gl], ?_];refine ib (K := K) (a := l) (xs := vs) (λs σ' H' => (∃ x2, σ' = [some (.ref b), some (.int n), some (.int i), some (.int o), some (.int w), some (.int way), some (.int first), some (.ref m), some (.ref p), some (.ref l), some (.int kk), x2]) /\ JF K A n (Dr (max w 6)) m p l b q0 us ws vs H H') #[#[_, rfl], X] (λs σ' H' _ #[_, e] => bJ.of e.gl) ?_ ?_
        · rintro s x σ' Hk hx ⟨⟨y2, rfl⟩, X⟩;have mx := ao hx;obtain q|_|rfl|_:= X.row (.inr mx)
          repeat' (first | walk_at "rd" | refine jC (λ_ => ?_) (λ_ => ?_))
          all_goals first
            | exact ⟨⟨_, rfl⟩, X⟩
            | (refine b6 λt Hb sb gb => ?_; walk_at "w"; obtain zs|gz|lz|Xz:= (X.same sb).put MA (.inr mx) (bS.mk (q := 0) gb rfl) (uM (i := 0) (bW _) W1) kk; refine gZ gz (iu ()) rfl ?_; exact #[#[_, rfl], Xz])
            | (refine ⟨b, 2, rfl, X.mix.bag, by decide, by decide, λd Hd d0 d1 Bd ud => ?_⟩
               replace X := X.upto MA ud Bd
               repeat' (first | walk_at "rd" | refine jC (λ_ => ?_) (λ_ => ?_))
               all_goals first
                 | exact ⟨⟨_, rfl⟩, X⟩
                 | (refine b6 λt Hb sb gb => ?_
                    walk_at "w";obtain zs|gz|lz|Xz:= (X.same sb).put MA (.inr mx) (bS.mk (q := 0) gb rfl) (uM (i := 0) (bW _) W1) kk;refine gZ gz (iu ()) rfl ?_;exact #[#[_, rfl], Xz]))
        · rintro σ' Hk ⟨⟨y2, rfl⟩, X⟩;exact #[#[_, _, rfl], X]
    · rintro σ' Hj ⟨⟨x1, x2, rfl⟩, X⟩
      obtain ⟨M1, M2, M3, V0, a1, a2, a3, V2, hcs, R1, R2, R3⟩ : ∃ M1 M2 M3 V0 : Nat, (0 < M1 /\ M1 ≤ 2 ^ 800) /\ (0 < M2 /\ M2 ≤ 2 ^ 800) /\ (0 < M3 /\ M3 ≤ 2 ^ 800) /\ V0 ≤ 2 ^ 20 /\ ((w ≤ 9 /\ M1 = 2520 /\ M2 = 2520 /\ M3 = 2520 /\ V0 = 9) \/ (9 < w /\ M1 ≤ 2 ^ (c * (n * n)) /\ M2 ≤ 2 ^ (c * (i * n)) /\ M3 ≤ 2 ^ (c * (o * n)) /\ V0 = 2 ^ c)) /\ (∀ x ∈ us, ip K A Hj n (Fr M1 V0) x) /\ (∀ x ∈ ws, ip K A Hj n (Fr M2 V0) x) /\ ∀ x ∈ vs, ip K A Hj n (Fr M3 V0) x := by
        by_cases w9 : w ≤ 9
        · have XM := X.mix.weak (C' := λ_ => Fr 2520 9) λ_ _ y h => TV #[aj h.1 (), aj h.2 ()] (AV _)
          have z : 0 < 2520 /\ 2520 ≤ 2 ^ 800 := #[(), aj (show 2520 ≤ 2 ^ 12 by decide) (aF () ())];exact #[2520, 2520, 2520, 9, z, z, z, by decide, .inl #[w9, rfl, rfl, rfl, rfl], λx hx => XM.row x (by simp [hx]), λx hx => XM.row x (by simp [hx]), λx hx => XM.row x (by simp [hx])]
        · obtain M1|M2|M3|a1|a2|a3|b1|b2|b3|R1|R2|R3:= (X.mix.weak (C' := λ_ => Dr (2 ^ c)) λ_ _ y h => #[aj h.1 hc, aj h.2 hc]).fr3;rw [lws] at b2;rw [lvs] at b3;have up : ∀ {M k : Nat}, M ≤ 2 ^ (c * k) → k ≤ (n + i + o) * n → M ≤ 2 ^ 800 := λh hk => aj h (aF () (aj (cg _ hk) hcM))
          exact #[M1, M2, M3, 2 ^ c, #[a1, up b1 (aE _ ())], #[a2, up b2 (aE _ ())], #[a3, up b3 (aE _ ())], aF () hc20, .inr #[(), b1, b2, b3, rfl], R1, R2, R3]
      obtain μ|e2|e3|e1|e4:= NO ws vs M1 M2 M3;obtain ap1|ap2:= X.mix.apart
      have XM : kY K A Hj n (λx => Fr (μ x) V0) m p l b q0 us ws vs := by
        refine #[X.mix.bag, X.mix.inn, X.mix.gm, X.mix.gp, X.mix.gl, X.mix.lm, λx hx => ?_, X.mix.nd];rcases aw.mp hx with hx | hx
        · rcases aw.mp hx with hx | hx
          · rw [e1 x (ap1 x hx).1 (ap1 x hx).2]; exact R1 x hx
          · rw [e3 x hx (ap2 x hx)]; exact R3 x hx
        · rw [e2 x hx]; exact R2 x hx
      have p1 : ∀ x, 0 < μ x := λx => by
        rcases e4 x with e | e | e
        · rw [e]; exact a1.1
        · rw [e]; exact a2.1
        · rw [e]; exact a3.1
      have p2 : ∀ x, μ x ≤ 2 ^ 800 := λx => by
        rcases e4 x with e | e | e
        · rw [e]; exact a1.2
        · rw [e]; exact a2.2
        · rw [e]; exact a3.2
      have gmj := X.mix.gm;exists #[b, m, p, l, q0, n, V0, μ, A, us, ws, vs, rfl, MA, XM, n8, by lia, by lia, p1, p2, #[M1, e1], V2, λq hq => ?_, λr us' H' g Y kp => ?_]
      · refine mkA ?_ (λz => by rw [z, gmj] at hq; cases hq) (λz => by rw [z, X.gp] at hq; cases hq) (λz => by rw [z, X.gl] at hq; cases hq);cases e : H q with
        | none => rfl
        | some u =>
          have := X.kp q u e (λz => X.mix.bag.at (by rw [<- z]; exact hq)) (λz => by have := (unA z).1; rw [e] at this; cases this) (λz => by rw [z, hm0] at e; cases e);rw [hq] at this; cases this
      · obtain yp1|yp2:= Y.apart;obtain mv|Gm|lmv|hmv:= lP (H0 := H) (n := n) (C := Fr M1 (9 ^ 3 * V0)) (m := n) #[us', Y.gm, Y.lm, MA.am, λx hx => by have := Y.row x (by simp [hx]); rwa [e1 x (yp1 x hx).1 (yp1 x hx).2] at this] λq h => (unA h).1
        obtain pt|Gp|lpt|hpt:= lP (H0 := H) (n := n) (C := Fr M2 (9 ^ 3 * V0)) (m := i) #[ws, Y.gp, lws, MA.ap, λx hx => by have := Y.row x (by simp [hx]); rwa [e2 x hx] at this] λq h => (unA h).1
        obtain lk|Gl|llk|hlk:= lP (H0 := H) (n := n) (C := Fr M3 (9 ^ 3 * V0)) (m := o) #[vs, Y.gl, lvs, MA.al, λx hx => by have := Y.row x (by simp [hx]); rwa [e3 x hx (yp2 x hx)] at this] λq h => (unA h).1
        refine k r mv pt lk H' #[m, p, l, g, hm0, hp0, hl0, Gm, Gp, Gl] lmv lpt llk #[(), by lia, by lia, λxs hx => by rw [(hmv xs hx).1, lmv], λxs hx => by rw [(hpt xs hx).1, lmv], λxs hx => by rw [(hlk xs hx).1, lmv]] #[M1, M2, M3, 9 ^ 3 * V0, a1.1, a2.1, a3.1, λxs hx => (hmv xs hx).2, λxs hx => (hpt xs hx).2, λxs hx => (hlk xs hx).2, ?_] Y.bag #[λc' u e n1 => (X.kp.trans kp) c' u e n1 (λz => by have := (unA z).1; rw [e] at this; cases this) (λz => by rw [z, hm0] at e; cases e), λq h => by rw [<- Inner.inj I0 h]; exact Y.inn];rcases hcs with ⟨b1, b2, b3, b4, b5⟩ | ⟨b1, b2, b3, b4, b5⟩
        · exact .inl #[b1, b2, b3, b4, by rw [b5]]
        · exact .inr #[b1, b2, b3, b4, by rw [b5]]
theorem jh:ba ["_law_bag_here","_law_n","_law_ins","_law_outs","_law_wide"] ["_law_bag_here"] (aM pI):=by walk_at "d"
theorem BK (T:Txt K mg Z) (ptree:P.given.tree=none):cQ P w K mg base iJ 6 Z.vT Z.vM ["_law_bag_here"] (Pw K):=by
 have FU:=Dg (P:=P) (w:=w) (base:=base) T ptree;have aS:=eF (P:=P) (w:=w) (base:=base) T ptree;have zi:=xB (P:=P) (w:=w) (base:=base) T ptree;have oZ:=xD (P:=P) (w:=w) (base:=base) T ptree;have FX:=Dk (P:=P) (w:=w) (base:=base) T ptree;refine T.nW.F.ok jh (λvs H Q E h=>?_) (λcdv A outer s H vs Q E hr h=>?_)
 ·obtain b|rfl|_:=h;rfl
 ·obtain b|rfl|hB|k:=h
  refine #[_,(au (iE (cK FU hr T.pW (aa (pv 0) ag)) (yK rfl (cZ (aN (i:=1) jh.nd) (cZ (aN (i:=2) jh.nd) (cZ (aN (i:=3) jh.nd) (cZ (aN (i:=4) jh.nd) kF))))))
   (au (dO (bC ik (cK aS hr T.aV (aa (pv 0) (aa ak ag))) ak (bI _)) (au (dO (bC ik (cK aS hr T.aV (aa (pv 0) (aa ak ag))) ak (bI _)) (az (a8 (cP (aa (cK zi hr T.kK (aa (pv 0) ag)) (aa ak ag))))) ck)
   (az (a8 (cP (aa (cK oZ hr T.kL (aa (pv 0) (aa (bA gN ak (cK aS hr T.aV (aa (pv 0) (aa ak ag)))) ag))) (aa ak ag)))))) ck)
   (az (a8 (cP (aa (cK FX hr T.pY (aa (pv 0) (aa (pv 1) (aa (pv 2) (aa (pv 3) (aa (pv 4) ag)))))) (aa (bG (qR rfl) (by rfl) T.min PyProof.Rows.boot_min (aa (pv 4) (aa ak ag))) ag))))))),?_]
  refine aX (σ:=[some (.ref b),none,none,none,none]) rfl ?_;have sf:∀{mv pt lk:LR9} {M V1:Nat},0 < M->M<=2^400->V1<=2^30->GF M V1 mv->GF M V1 pt->GF M V1 lk->Mu mv pt lk:=λh0 h1 h2 a b c=>#[_,_,h0,h1,aj h2 (aF () ()),a,b,c]
  exists #[b,rfl,hB,λr n i o w H1 g1 n5 i4 o4 hw h5 B1 u1=>?_];exists #[b,16,rfl,B1,(),(),λv H2 v0 v1 B2 u2=>?_];have u02:=u1.trans u2;exists jC (λh0=>?_) (λh0=>?_)
  ·exists #[b,2,rfl,B2,(),(),λv2 H3 _ _ B3 u3=>?_];have u03:=u02.trans u3;exists jC (λh1=>?_) (λh1=>?_)
   ·exists #[b,rfl,B3,λr4 mv pt lk H4 P4 l6 D fm fp fl B4 u4=>?_];exists b6 λt H5 s5 g5=>?_
    exact k t r4 4 0 13 mv pt lk H5 g5 ((P4.weak λq h=>u03.none B3 h).same s5) D (sf () v7 () fm fp fl) (AH (n0:=8) () () D.n8 () fm fp ()) (.inl #[(),(),(),(),(),fm,fp,aj (aE _ (show mv.9+4<=12 by have:=D.n8;lia)) ()]) () () (B4.same s5) ((u03.trans u4).same s5)
   ·exists #[b,3,rfl,B3,(),(),λv3 H4 v30 v31 B4 u4=>?_];obtain v3|rfl:=cO v30;have u04:=u03.trans u4;walk_at "w";rw[show ((6:Int)+(v3:Int))=((6+v3:Nat):Int) by lia];refine #[b,6+v3,rfl,B4,(),(),λr4 mv pt lk H5 P5 lm _ _ D fm fp fl B5 u5=>?_];exists b6 λt H6 s6 g6=>?_
    exact k t r4 4 0 4 mv pt lk H6 g6 ((P5.weak λq h=>u04.none B4 h).same s6) D (sf () v7 () fm fp fl) (AH (n0:=8) () () D.n8 () fm fp ()) (.inl #[(),(),(),(),(),(λxs hx x hx'=>(fm xs hx x hx').mono ()),(λxs hx x hx'=>(fp xs hx x hx').mono ()),aj (aE _ (show mv.9+4<=12 by have:=D.n8;lia)) ()]) () () (B5.same s6) ((u04.trans u5).same s6)
  ·obtain ⟨c,hc,hc20,hcM⟩:∃c:Nat,max w 6<=2^c/\c<=20/\c*((n+i+o)*n)<=800/\(9 < w->c=20/\(n+i+o)*n<=20/\n<=2):=by
    have m1:(n+i+o)*n<=13*5:=aH () n5;rcases hw with rfl | rfl | ⟨rfl,n2⟩
    ·exact #[4,(),(),(),λz=>()]
    ·exact #[4,(),(),(),λz=>()]
    ·have m2:(n+i+o)*n<=10*2:=aH () n2;exact #[20,(),(),(),λ_=>#[rfl,(),n2]]
   obtain hcM|hbig:=hcM;exists #[b,n,i,o,w,c,rfl,B2,(),i4,o4,(),(),hc,hc20,hcM,λr4 mv pt lk H4 P4 lm lp ll D PF B4 u4=>?_];have hmin:(if (1000:Int) < (w:Int) then (1000:Int) else (w:Int))=((min w 1000:Nat):Int):=by split <;> lia
   have PG:=PF;obtain M|V1|M0|fm|fp|fl|hcs:=PF.n
   obtain ⟨a',c',KF,SF⟩:∃a' c',Uj mv pt a' c'/\Mu mv pt lk:=by
    rcases hcs with ⟨w9,rfl,rfl⟩ | ⟨w9,M1,rfl⟩
    ·exact #[12,16,AH (n0:=5) () () () () fm fp (),sf () (aj (show 2520<=2^12 by decide) (aF () ())) () fm fp fl]
    ·obtain rfl|e1|e2:=hbig w9;have M4:M<=2^400:=aj M1 (aF () ());exact #[400,32,AH (n0:=2) M0 M4 () () fm fp (),sf M0 M4 () fm fp fl]
   have RG:Rg mv pt (min w 1000):=by
    obtain M1|M2|M3|V1|a1|a2|a3|f1|f2|f3|hc':=PG;rcases hc' with ⟨w9,rfl,rfl,_,rfl⟩ | ⟨w9,b1,b2,_,rfl⟩
    ·exact .inr (.inl #[(),(),(),(),(),(),f1,f2,aj (aE _ (show mv.9+4<=9 by lia)) ()])
    ·obtain rfl|e1|e2:=hbig w9;have q1:n*n<=2*2:=aH e2 e2;have q2:i*n<=4*2:=aH i4 e2;have w6:w=1000000:=()
     exact .inr (.inr #[(),(),M1,M2,a1,a2,aj b1 (aF () ()),aj b2 (aF () ()),f1,f2,aj (aE _ (show mv.9+4<=6 by lia)) ()])
   exists b6 λt H5 s5 g5=>?_
   rw[hmin] at g5;exact k t r4 (min w 1000) a' c' mv pt lk H5 g5 ((P4.weak λq h=>u02.none B2 h).same s5) D SF KF RG () () (B4.same s5) ((u02.trans u4).same s5)
theorem EI:ba ["thing","at","most"] ["thing","at","most"] (aM tX):=by walk_at "d"
theorem E7 (T:Txt K mg Z) (ptree:P.given.tree=none):cQ P w K mg base iJ 1 Z.zZ Z.zH ["thing","at","most"] JX:=by
 refine T.kI.F.ok EI (λvs H Q E h=>?_) (λcdv A outer s H vs Q E hr h=>?_)
 ·obtain p|xs|a|m|rfl|_:=h;rfl
 ·obtain p|xs|a|m|rfl|gx|hm|k:=h
  refine #[_,(au (dO (jU (iY (yL rfl T.isinstance PyProof.Rows.boot_list T.list (pv 0)))) (az Nv) ck)
   (az (dO (bC xy (bG bw (by rfl) T.len bc (aa (pv 0) ag)) (pv 2) (bI _)) (az Nv) ck))),?_]
  refine aX (σ:=[some (.ref p),some (.int a),some (.int m)]) rfl ?_;exists #[_,_,.lst gx,rfl,?_];exists #[_,_,rfl,.inl (bJ.of gx),?_];walk_at "w";rw[decide_eq_false (show ¬m < (xs.9:Int) by lia)];exists k
theorem GJ:ba ["thing"] ["thing"] (aM wy):=by walk_at "d"
theorem GZ (T:Txt K mg Z) (ptree:P.given.tree=none):cQ P w K mg base iJ 1 Z.CJ Z.Ck ["thing"] Lf:=by
 refine T.oR.F.ok GJ (λvs H Q E h=>?_) (λcdv A outer s H vs Q E hr h=>?_)
 ·obtain i|rfl|_:=h;rfl
 ·obtain i|rfl|k:=h;refine #[_,(az (a8 (E5 (yL rfl T.isinstance PyProof.Rows.boot_int T.int (pv 0)) (E2 (Tj (yL rfl T.isinstance PyProof.Rows.boot_bool T.bool (pv 0))))))),?_];refine aX (σ:=[some (.int i)]) rfl ?_;exists #[_,_,.int i,rfl,?_];exists #[_,_,.int i,rfl,?_];exists k
theorem i5:ba ["one","other","rest"] ["one","other"] (aM lE):=by walk_at "d"
theorem ja (T:Txt K mg Z) (ptree:P.given.tree=none):cQ P w K mg base iJ 1 Z.qX Z.qK ["one","other"] UX:=by
 refine T.fM.F.ok i5 (λvs H Q E h=>?_) (λcdv A outer s H vs Q E hr h=>?_)
 ·obtain a|b|rfl|_:=h;rfl
 ·obtain a|b|rfl|k:=h
  refine #[_,(au (By PassesOwn.never (bC zB (pv 1) ak (bI _))
    (au (aZ (i:=2) i5.nd rfl (Or.inl rfl) (bA Qn (pv 0) (pv 1)))
   (au (aZ (i:=0) i5.nd rfl (Or.inl rfl) (pv 1))
   (az (aZ (i:=1) i5.nd rfl (Or.inl rfl) (pv 2))))))
   (az (a8 (bG xY (by rfl) T.abs PyProof.Rows.boot_abs (aa (pv 0) ag))))),?_]
  refine aX (σ:=[some (.int a),some (.int b),none]) rfl ?_;exists Ex (λσ' H'=>∃(u v:Int) (r:Option V),σ'=[some (.int u),some (.int v),r]/\H'=H/\Int.gcd u v=Int.gcd a b) (λσ' _=>match σ' with | [_,some (.int v),_]=>v.natAbs | _=>0) #[a,b,none,rfl,rfl,rfl] ?_;rintro σ' H' ⟨u,v,r,rfl,rfl,hg⟩;exists jC (λh=>?_) (λh=>?_)
  ·have hv:v≠0:=λz=>by subst z;simp at h
   exists fD (show v≠0 from hv) ?_;exists #[#[v,u.fmod v,_,rfl,rfl,(Oj u v).trans hg],QC u v hv]
  ·have hv:v=0:=by
    by_cases z:v=0
    ·exact z
    ·exfalso;apply h;simp [z]
   subst hv;walk_at "w"
   have e:(if u < 0 then -u else u)=g a b:=by
    unfold g;rw[<- hg,Int.gcd_zero_right]
    split <;> lia
   rw[e];exact k
theorem EK:ba ["thing"] ["thing"] (aM ue):=by walk_at "d"
theorem Fc (T:Txt K mg Z) (ptree:P.given.tree=none):cQ P w K mg base iJ 2 Z.z9 Z.zL ["thing"] (Lo K):=by
 have CU:=GZ (P:=P) (w:=w) (base:=base) T ptree;have eV:=ja (P:=P) (w:=w) (base:=base) T ptree;refine T.rX.F.ok EK (λvs H Q E h=>?_) (λcdv A outer s H vs Q E hr h=>?_)
 ·obtain x|n|rfl|_:=h;rfl
 ·obtain x|n|rfl|⟨p,rfl,hp⟩|hn|k:=h
  refine #[_,(au (dO (PW.pt (lC (jU (iY (rR rfl T.isinstance PyProof.Rows.boot_tuple T.tuple (pv 0)))) (jT (bC zB (bG bw (by rfl) T.len bc (aa (pv 0) ag)) ak (bI _))))) (az (a8 oK)) ck)
   (au (dO (PW.pt (lC (jU (iY (cK CU hr T.oR (aa (aU bP (pv 0) ak) ag)))) (jT (jU (iY (cK CU hr T.oR (aa (aU bP (pv 0) ak) ag))))))) (az (a8 oK)) ck)
   (az (a8 (E5 (jM BH (aU bP (pv 0) ak) ak (bI _)) (E2 (jM ik (cK eV hr T.fM (aa (aU bP (pv 0) ak) (aa (aU bP (pv 0) ak) ag))) ak (bI _)))))))),?_]
  refine aX (σ:=[some (.ref p)]) rfl ?_;obtain hb|hg|s1|s2:=hn;exists .inr #[p,_,_,rfl,hp,rfl,?_];exists #[_,_,rfl,.inr hp,?_];walk_at "w"
  try refine Oa ?_
  exists #[n.1,rfl,?_];exists #[n.2,rfl,?_];walk_at "w";rw[decide_eq_true (show (1:Int)<=n.2 by lia)];exists #[n.1,n.2,rfl,?_];walk_at "w";have e:g n.1 n.2=1:=by unfold g;rw[hg];rfl
  rw[e,decide_eq_true rfl];exact k _ (aA.refl _)
theorem Lr:ba ["thing","many"] ["thing","many"] (aM Bm):=by walk_at "d"
theorem LF (T:Txt K mg Z) (ptree:P.given.tree=none):cQ P w K mg base iJ 3 Z.HY Z.HM ["thing","many"] (yz K):=by
 have Ij:=Fc (P:=P) (w:=w) (base:=base) T ptree;refine T.yO.F.ok Lr (λvs H Q E h=>?_) (λcdv A outer s H vs Q E hr h=>?_)
 ·obtain p|ns|rfl|_:=h;rfl
 ·obtain p|ns|rfl|hp|hl|hn|k:=h
  refine #[_,(au (dO (PW.pt (lC (jU (iY (yL rfl T.isinstance PyProof.Rows.boot_list T.list (pv 0)))) (jT (bC zB (bG bw (by rfl) T.len bc (aa (pv 0) ag)) (pv 1) (bI _))))) (az (a8 oK)) ck)
   (az (a8 (bG (Cy rfl) (by rfl) T.all PyProof.Rows.boot_all (aa (b8 ["value"] [] [] (b7 (pv 0)) (λ_=>(aN (i:=0) (show ND9 ["value"] by decide +kernel))) (λ_=>cb) (λ_=>(cK Ij hr T.rX (aa (pv 0) ag)))) ag))))),?_]
  refine aX (σ:=[some (.ref p),some (.int ns.9)]) rfl ?_;obtain xs|gx|qx:=id hp;have lx:=qx.9;exists #[_,_,.lst gx,rfl,?_];exists #[_,_,rfl,.inl (bJ.of gx),?_];walk_at "w";rw[show ((xs.9:Nat):Int)=(ns.9:Nat) by rw[lx],decide_eq_true rfl];exists #[#[_,bJ.of gx],?_];refine eS (K:=K) (xs:=xs) (λi ys H'=>aA H H'/\ys=List.replicate i (.bl true)) (aL (bD ())) #[aA.refl _,rfl] (λi ys H' _ #[s,_]=>bJ.of (s _ _ gx)) ?_ ?_
  ·rintro i x ys H' hx hlen ⟨s,rfl⟩;obtain n|en|z:=cE qx hx;exists #[x,n,rfl,s.num z,hn n (ao en),λH2 s2=>#[s.trans s2,by rw[Ep]]]
  ·rintro ys H' hy ⟨s,rfl⟩ l hl';exists #[l,List.replicate xs.9 true,rfl,bJ.of (by rw[aK];simp),?_];have e4:(List.replicate xs.9 true).all id=true:=by simp
   rw[e4];exact k _ (s.trans (aA.new hl'))
theorem nL:ba ["things","wide","place","thing"] ["things","wide"] (aM pH):=by walk_at "d"
theorem BJ (T:Txt K mg Z) (ptree:P.given.tree=none):cQ P w K mg base iJ 4 Z.vS Z.vL ["things","wide"] (Ka K):=by
 have OS:=LF (P:=P) (w:=w) (base:=base) T ptree;refine T.jm.F.ok nL (λvs H Q E h=>?_) (λcdv A outer s H vs Q E hr h=>?_)
 ·obtain p|H0|rows|w|rfl|_:=h;rfl
 ·obtain p|H0|rows|w|rfl|hp|hl|hw|hn|k:=h
  refine #[_,(au (dW PassesOwn.never rfl (E1 rfl T.enumerate (aa (pv 0) ag)) (yK rfl (cZ (aN (i:=2) nL.nd) (cZ (aN (i:=3) nL.nd) kF)))
    (az (dO (jU (iY (cK OS hr T.yO (aa (pv 3) (aa (pv 1) ag))))) (az Nv) ck)))
   (az (a8 (b8 ["row"] [] [] (b7 (pv 0)) (λ_=>(aN (i:=0) (show ND9 ["row"] by decide +kernel))) (λ_=>cb) (λ_=>(eI (my K (by rfl)) (by rfl) T.list PyProof.Rows.boot_list (aa (pv 0) ag))))))),?_]
  refine aX (σ:=[some (.ref p),some (.int w),none,none]) rfl ?_;obtain xs|gx|qx|_:=id hp;exists #[#[_,bJ.of gx],?_];refine Hw (K:=K) (l:=p) (xs:=xs) (λi σ' H'=>aA H H'/\∃x y,σ'=[some (.ref p),some (.int w),x,y]) #[aA.refl _,none,none,rfl] (λi σ' H' _ #[s,_]=>bJ.of (s _ _ gx)) ?_ ?_
  ·rintro i x σ' H' t hx ⟨s,x1,y1,rfl⟩ ht;obtain qs|eq|q|rfl|_|Rq:=cE qx hx;have hm:=ao eq;have st:aA H' (upd H' t (.tup [.int i,.ref q])):=aA.new ht;have gt:(upd H' t (.tup [.int i,.ref q])) t=some (.tup [.int i,.ref q]):=aK;have s2:=s.trans st;generalize upd H' t (.tup [.int i,.ref q])=H2 at st gt s2 ⊢;have lq:(qs.map nm).9=w:=by rw[af];exact (hn qs hm).1
   exists #[q,_,by rw[lq],(Rq.same s2).rowK,by rw[lq];exact hw,λn hn'=>?_,λH3 s3=>?_]
   ·obtain y|hy|rfl:=av.mp hn';exact (hn qs hm).2 y hy
   exists #[s2.trans s3,_,_,rfl]
  ·rintro σ' H' ⟨s,x1,y1,rfl⟩;exists #[#[_,bJ.of (s _ _ gx)],?_];refine cL (K:=K) (F:=dF K H0) (dF K H) id (s _ _ gx) (Paired.imp' (λ_ _ z=>z.same s) qx) hl (λa b=>a.same b) (λa b=>a.same b) ?_ ?_
   ·rintro i ns x H2 NY NN en s2 ⟨u,rfl,_,zs,gz,qz⟩ k1;exists #[u,zs,rfl,.inl (bJ.of gz),λl1 hl1=>?_];exact k1 _ _ (aA.new hl1) #[l1,rfl,s.none (s2.none hl1),zs,aK,Paired.imp' (λ_ _ z=>z.same (aA.new hl1)) qz]
   ·rintro ys' H2 r hr s2 g pr nx;rw[tK] at pr nx;exact k r H2 (s.none hr) (s.trans s2) #[ys',g,pr,oO nx]
theorem we:ba ["self","move","put","look"] ["self","move","put","look"] (aM fJ):=by walk_at "d"
theorem wK (T:Txt K mg Z) (ptree:P.given.tree=none):cQ P w K mg base iJ 5 Z.kU Z.kQ ["self","move","put","look"] (J6 K Z.a_System):=by
 have uX:=E7 (P:=P) (w:=w) (base:=base) T ptree;have qi:=BJ (P:=P) (w:=w) (base:=base) T ptree;refine T.o6.ok we (λvs H Q E h=>?_) (λcdv A outer s H vs Q E hr h=>?_)
 ·obtain x|dx|p|q|r|Hb|H0|H1|H2|mv|pt|lk|rfl|_:=h;rfl
 ·obtain x|dx|p|q|r|Hb|H0|H1|H2|mv|pt|lk|rfl|nx|ndx|nex|rfl|gp|gq|gr|D|om|op|ol|k:=h
  refine #[_,(au (i8 (cK uX hr T.kI (aa (pv 1) (aa ak (aa (E3 (v:=.int 8) rfl T.mg_MOST_STATES #[_,rfl]) ag)))))
   (au (nQ (pv 0) (cK qi hr T.jm (aa (pv 1) (aa (bG bw (by rfl) T.len bc (aa (pv 1) ag)) ag))) rfl)
   (au (nQ (pv 0) (bG bw (by rfl) T.len bc (aa (fE (pv 0) rfl) ag)) rfl)
   (au (i8 (cK uX hr T.kI (aa (pv 2) (aa ak (aa (E3 (v:=.int 4) rfl T.mg_MOST_PUTS #[_,rfl]) ag)))))
   (au (nQ (pv 0) (cK qi hr T.jm (aa (pv 2) (aa (fE (pv 0) rfl) ag))) rfl)
   (au (nQ (pv 0) (bG bw (by rfl) T.len bc (aa (fE (pv 0) rfl) ag)) rfl)
   (au (i8 (cK uX hr T.kI (aa (pv 3) (aa ak (aa (E3 (v:=.int 4) rfl T.mg_MOST_LOOKS #[_,rfl]) ag)))))
   (au (nQ (pv 0) (cK qi hr T.jm (aa (pv 3) (aa (fE (pv 0) rfl) ag))) rfl)
   (az (nQ (pv 0) (bG bw (by rfl) T.len bc (aa (fE (pv 0) rfl) ag)) rfl)))))))))),?_]
  refine aX (σ:=[some (.ref x),some (.ref p),some (.ref q),some (.ref r)]) rfl ?_
  have s0:aA Hb (upd (upd Hb dx (.own x)) x (.ins Z.a_System dx [])):=λb o e=>by
   rw[a7 (fW e nx),a7 (fW e ndx)];exact e
  have hx:(upd (upd Hb dx (.own x)) x (.ins Z.a_System dx [])) x=some (.ins Z.a_System dx []):=aK;have back:∀{b},(upd (upd Hb dx (.own x)) x (.ins Z.a_System dx [])) b=none->Hb b=none:=λh=>s0.none h
  generalize upd (upd Hb dx (.own x)) x (.ins Z.a_System dx [])=Ha at s0 hx back ⊢;obtain xs|gx|qx|_:=id gp;obtain ys|gy|qy|_:=id gq;obtain zs|gz|qz|_:=id gr;have lx:=qx.9;have ly:=qy.9;have lz:=qz.9;have d1:=D.n8;have d2:=D.i4;have d3:=D.o4;exists #[p,xs,0,8,rfl,s0 _ _ gx,(),?_];exists #[_,_,rfl,.inl (bJ.of (s0 _ _ gx)),?_];exists #[p,H0,mv,mv.9,by rw[lx],gp.same s0,(),(),λws hw=>#[D.mw ws hw,om ws hw],λa H3 na s3 Ga=>?_];have hx3:=s3 _ _ hx;exists #[x,Z.a_System,dx,_,rfl,hx3,T.cl_System,T.na_move,(by show 0 < 1000;decide),?_];have e3:FZ x H3 (upd H3 x (.ins Z.a_System dx (bf "move" (.ref a) []))):=FZ.upd;have i3:vY H3 x:=#[_,_,_,hx3];have hx4:(upd H3 x (.ins Z.a_System dx (bf "move" (.ref a) []))) x=some (.ins Z.a_System dx (bf "move" (.ref a) [])):=aK;have Ga4:=Ga.exc e3 i3;have k4:aA Hb (upd H3 x (.ins Z.a_System dx (bf "move" (.ref a) []))):=(s0.trans s3).after nx;generalize upd H3 x (.ins Z.a_System dx (bf "move" (.ref a) []))=H4 at e3 hx4 Ga4 k4 ⊢;exists #[x,Z.a_System,dx,_,_,rfl,hx4,T.cl_System,T.na_move,(by rw[aQ,if_pos rfl]),?_];obtain as|ga|qa|_:=id Ga4;have la:=qa.9;exists #[_,_,rfl,.inl (bJ.of ga),?_];exists #[x,Z.a_System,dx,_,rfl,hx4,T.cl_System,T.na_states,bO d4 (by show 1 < 1000;decide),?_];rw[show ((as.9:Nat):Int)=((mv.9:Nat):Int) by rw[la]];have e4:FZ x H4 (upd H4 x (.ins Z.a_System dx (bf "states" (.int mv.9) (bf "move" (.ref a) [])))):=FZ.upd;have i4:vY H4 x:=#[_,_,_,hx4];have hx5:(upd H4 x (.ins Z.a_System dx (bf "states" (.int mv.9) (bf "move" (.ref a) [])))) x=some (.ins Z.a_System dx (bf "states" (.int mv.9) (bf "move" (.ref a) []))):=aK;have Ga5:=Ga4.exc e4 i4;have k5:aA Hb (upd H4 x (.ins Z.a_System dx (bf "states" (.int mv.9) (bf "move" (.ref a) [])))):=k4.after nx;generalize upd H4 x (.ins Z.a_System dx (bf "states" (.int mv.9) (bf "move" (.ref a) [])))=H5 at e4 hx5 Ga5 k5 ⊢;clear e3 e4 i3 i4 hx4 Ga4 ga qa;exists #[q,ys,1,4,rfl,k5 _ _ gy,(),?_];exists #[x,Z.a_System,dx,_,_,rfl,hx5,T.cl_System,T.na_states,(by rw[aQ,if_pos rfl]),?_];exists #[q,H1,pt,mv.9,rfl,gq.same k5,(),(),λws hw=>#[D.pw ws hw,op ws hw],λb H6 nb s6 Gb=>?_];have hx6:=s6 _ _ hx5;have i6:vY H6 x:=#[_,_,_,hx6];exists #[x,Z.a_System,dx,_,rfl,hx6,T.cl_System,T.na_put,bO d4 (bO (eZ d4) (by show 2 < 1000;decide)),?_];have e6:FZ x H6 (upd H6 x (.ins Z.a_System dx (bf "put" (.ref b) (bf "states" (.int mv.9) (bf "move" (.ref a) []))))):=FZ.upd;have hx7:(upd H6 x (.ins Z.a_System dx (bf "put" (.ref b) (bf "states" (.int mv.9) (bf "move" (.ref a) []))))) x=some (.ins Z.a_System dx (bf "put" (.ref b) (bf "states" (.int mv.9) (bf "move" (.ref a) [])))):=aK;have Ga7:=(Ga5.same s6).exc e6 i6;have Gb7:=(Gb.weak k5).exc e6 i6;have k7:aA Hb (upd H6 x (.ins Z.a_System dx (bf "put" (.ref b) (bf "states" (.int mv.9) (bf "move" (.ref a) []))))):=(k5.trans s6).after nx;generalize upd H6 x (.ins Z.a_System dx (bf "put" (.ref b) (bf "states" (.int mv.9) (bf "move" (.ref a) []))))=H7 at e6 hx7 Ga7 Gb7 k7 ⊢;obtain bs|gb|qb|_:=id Gb7;have lb:=qb.9;exists #[x,Z.a_System,dx,_,_,rfl,hx7,T.cl_System,T.na_put,(by rw[aQ,if_pos rfl]),?_];exists #[_,_,rfl,.inl (bJ.of gb),?_];exists #[x,Z.a_System,dx,_,rfl,hx7,T.cl_System,T.na_ins,bO d4 (bO (eZ (aj d4 (eZ d4))) (by show 3 < 1000;decide)),?_];rw[show ((bs.9:Nat):Int)=((pt.9:Nat):Int) by rw[lb]];have i7:vY H7 x:=#[_,_,_,hx7];have e7:FZ x H7 (upd H7 x (.ins Z.a_System dx (bf "ins" (.int pt.9) (bf "put" (.ref b) (bf "states" (.int mv.9) (bf "move" (.ref a) [])))))):=FZ.upd;have hx8:(upd H7 x (.ins Z.a_System dx (bf "ins" (.int pt.9) (bf "put" (.ref b) (bf "states" (.int mv.9) (bf "move" (.ref a) [])))))) x=some (.ins Z.a_System dx (bf "ins" (.int pt.9) (bf "put" (.ref b) (bf "states" (.int mv.9) (bf "move" (.ref a) []))))):=aK;have Ga8:=Ga7.exc e7 i7;have Gb8:=Gb7.exc e7 i7;have k8:aA Hb (upd H7 x (.ins Z.a_System dx (bf "ins" (.int pt.9) (bf "put" (.ref b) (bf "states" (.int mv.9) (bf "move" (.ref a) [])))))):=k7.after nx;generalize upd H7 x (.ins Z.a_System dx (bf "ins" (.int pt.9) (bf "put" (.ref b) (bf "states" (.int mv.9) (bf "move" (.ref a) [])))))=H8 at e7 hx8 Ga8 Gb8 k8 ⊢;clear e6 e7 i6 i7 hx7 Ga7 Gb7 gb qb;exists #[r,zs,2,4,rfl,k8 _ _ gz,(),?_];exists #[x,Z.a_System,dx,_,_,rfl,hx8,T.cl_System,T.na_states,(by rw[aQ,if_neg (by decide +kernel),aQ,if_neg (by decide +kernel),aQ,if_pos rfl]),?_];exists #[r,H2,lk,mv.9,rfl,gr.same k8,(),(),λws hw=>#[D.lw ws hw,ol ws hw],λc H9 nc s9 Gc=>?_];have hx9:=s9 _ _ hx8;have i9:vY H9 x:=#[_,_,_,hx9];exists #[x,Z.a_System,dx,_,rfl,hx9,T.cl_System,T.na_look,bO d4 (bO (eZ (aj d4 (eZ (aj d4 (eZ d4))))) (by show 4 < 1000;decide)),?_];have e9:FZ x H9 (upd H9 x (.ins Z.a_System dx (bf "look" (.ref c) (bf "ins" (.int pt.9) (bf "put" (.ref b) (bf "states" (.int mv.9) (bf "move" (.ref a) []))))))):=FZ.upd;have hxA:(upd H9 x (.ins Z.a_System dx (bf "look" (.ref c) (bf "ins" (.int pt.9) (bf "put" (.ref b) (bf "states" (.int mv.9) (bf "move" (.ref a) []))))))) x=some (.ins Z.a_System dx (bf "look" (.ref c) (bf "ins" (.int pt.9) (bf "put" (.ref b) (bf "states" (.int mv.9) (bf "move" (.ref a) [])))))):=aK;have GaA:=(Ga8.same s9).exc e9 i9;have GbA:=(Gb8.same s9).exc e9 i9;have GcA:=(Gc.weak k8).exc e9 i9;have kA:aA Hb (upd H9 x (.ins Z.a_System dx (bf "look" (.ref c) (bf "ins" (.int pt.9) (bf "put" (.ref b) (bf "states" (.int mv.9) (bf "move" (.ref a) []))))))):=(k8.trans s9).after nx;generalize upd H9 x (.ins Z.a_System dx (bf "look" (.ref c) (bf "ins" (.int pt.9) (bf "put" (.ref b) (bf "states" (.int mv.9) (bf "move" (.ref a) []))))))=HA at e9 hxA GaA GbA GcA kA ⊢;obtain cs|gc|qc|_:=id GcA;have lc:=qc.9;exists #[x,Z.a_System,dx,_,_,rfl,hxA,T.cl_System,T.na_look,(by rw[aQ,if_pos rfl]),?_];exists #[_,_,rfl,.inl (bJ.of gc),?_];exists #[x,Z.a_System,dx,_,rfl,hxA,T.cl_System,T.na_outs,bO d4 (bO (eZ (aj d4 (eZ (aj d4 (eZ (aj d4 (eZ d4))))))) (by show 5 < 1000;decide)),?_];rw[show ((cs.9:Nat):Int)=((lk.9:Nat):Int) by rw[lc]];have iA:vY HA x:=#[_,_,_,hxA];exact k _ (kA.after nx) #[dx,a,b,c,aK,back na,k5.none nb,k8.none nc,(GaA.exc FZ.upd iA).weak s0,GbA.exc FZ.upd iA,GcA.exc FZ.upd iA]
theorem Bi:ba ["_law_grid"] ["_law_grid"] (aM pO):=by walk_at "d"
theorem BP (T:Txt K mg Z) (ptree:P.given.tree=none):cQ P w K mg base iJ 1 Z.vX Z.vQ ["_law_grid"] (Be K):=by
 refine T.jr.F.ok Bi (λvs H Q E h=>?_) (λcdv A outer s H vs Q E hr h=>?_)
 ·obtain p|H0|rows|rfl|_:=h;rfl
 ·obtain p|H0|rows|rfl|hp|hl|hm|k:=h;refine #[_,(az (a8 (b8 ["_law_row_here"] [] [] (b7 (pv 0)) (λ_=>(aN (i:=0) (show ND9 ["_law_row_here"] by decide +kernel))) (λ_=>cb) (λ_=>(eI (my K (by rfl)) (by rfl) T.list PyProof.Rows.boot_list (aa (pv 0) ag)))))),?_];refine aX (σ:=[some (.ref p)]) rfl ?_;obtain xs|gx|qx|_:=id hp;exists #[#[_,bJ.of gx],?_];refine cL (K:=K) (F:=dF K H0) (dF K H) id gx qx hl (λa b=>a.same b) (λa b=>a.same b) ?_ ?_
  ·rintro i ns x H' NY NN en s ⟨u,rfl,_,zs,gz,qz⟩ k1;exists #[u,zs,rfl,.inl (bJ.of gz),λl1 hl1=>?_];exact k1 _ _ (aA.new hl1) #[l1,rfl,s.none hl1,zs,aK,Paired.imp' (λ_ _ z=>z.same (aA.new hl1)) qz]
  ·rintro ys' H' r hr s g pr nx;rw[tK] at pr nx;exact k r H' hr s #[ys',g,pr,oO nx]
theorem ER:ba ["_law_parts_here"] ["_law_parts_here"] (aM uq):=by walk_at "d"
theorem Fh (T:Txt K mg Z) (ptree:P.given.tree=none):cQ P w K mg base iJ 7 Z.Ah Z.zS ["_law_parts_here"] (A4 K Z.a_System):=by
 have yl:=wK (P:=P) (w:=w) (base:=base) T ptree;have qo:=BP (P:=P) (w:=w) (base:=base) T ptree;refine T.sJ.F.ok ER (λvs H Q E h=>?_) (λcdv A outer s H vs Q E hr h=>?_)
 ·obtain r|H0|mv|pt|lk|rfl|_:=h;rfl
 ·obtain r|H0|mv|pt|lk|rfl|PQ|D|F|k:=h;refine #[_,(az (a8 (Ki T.mk_System yl (hr.mono ()) rfl T.mg_System T.oW .nil kd (aa (cK qo hr T.jr (aa (aU bP (pv 0) ak) ag)) (aa (cK qo hr T.jr (aa (aU bP (pv 0) ak) ag)) (aa (cK qo hr T.jr (aa (aU bP (pv 0) ak) ag)) ag)))))),?_];refine aX (σ:=[some (.ref r)]) rfl ?_;obtain m|p|l|g|n1|n2|n3|Gm|Gp|Gl:=id PQ;have d1:=D.n8;have d2:=D.i4;have d3:=D.o4;exists #[m,H0,mv,rfl,Gm,(),λxs hx=>by rw[D.mw xs hx];lia,λa H1 na s1 Ga=>?_];have g1:=s1 _ _ g;exists #[p,H0,pt,rfl,Gp.same s1,(),λxs hx=>by rw[D.pw xs hx];lia,λb H2 nb s2 Gb=>?_];have s12:=s1.trans s2;have g2:=s12 _ _ g;exists #[l,H0,lk,rfl,Gl.same s12,(),λxs hx=>by rw[D.lw xs hx];lia,λc H3 nc s3 Gc=>?_];have s13:=s12.trans s3;walk_at "w";intro x dx nx ndx nex;exact #[x,dx,a,b,c,H3,H,H1,H2,mv,pt,lk,rfl,nx,ndx,nex,rfl,(Ga.same s2).same s3,Gb.same s3,Gc,D,F.ok.1,F.ok.2.1,F.ok.2.2,λH' s' S'=>#[rfl,k x H' (s13.none nx) (s13.trans s') (S'.weak s13)]]
theorem iU:ba ["_law_bag_here","_law_many","_law_begin","_law_found","_law_wide","_law_k"] ["_law_bag_here","_law_many","_law_begin"] (aM nO):=by walk_at "d"
theorem Au (T:Txt K mg Z) (ptree:P.given.tree=none):cQ P w K mg base iJ 2 Z.uS Z.uO ["_law_bag_here","_law_many","_law_begin"] (JV K):=by
 have aS:=eF (P:=P) (w:=w) (base:=base) T ptree;have fX:=kf (P:=P) (w:=w) (base:=base) T ptree;refine T.iV.F.ok iU (λvs H Q E h=>?_) (λcdv A outer s H vs Q E hr h=>?_)
 ·obtain b|m|be|rfl|_:=h;rfl
 ·obtain b|m|be|rfl|hB|hm|hbe|k:=h
  refine #[_,(au (aZ (i:=3) iU.nd rfl (Or.inl rfl) (d6 ag))
   (au (aZ (i:=4) iU.nd rfl (Or.inl rfl) (aU bz (d6 (aa ak (aa ak (aa ak (aa ak ag))))) (cK aS hr T.aV (aa (pv 0) (aa ak ag)))))
   (au (dW PassesOwn.never rfl (cC rfl T.range (aa (pv 1) ag)) (aN (i:=5) iU.nd)
    (az (dO (bC ik (cK aS hr T.aV (aa (pv 0) (aa ak ag))) ak (bI _)) (az (i8 (vD cN cX cW jB (pv 3) (aa (cP (aa ak (aa ak ag))) ag)))) (az (i8 (vD cN cX cW jB (pv 3) (aa (cK fX hr T.hZ (aa (bA gN (pv 2) (cK aS hr T.aV (aa (pv 0) (aa (pv 4) ag)))) (aa (bA gN ak (cK aS hr T.aV (aa (pv 0) (aa (bA (hJ rfl iU rfl rfl rfl ptree (oU hr)) (pv 4) ak) ag)))) ag))) ag)))))))
   (az (a8 (pv 3)))))),?_]
  refine aX (σ:=[some (.ref b),some (.int m),some (.int be),none,none,none]) rfl ?_;exists dw λf H1 s1 n1 g1=>?_
  exists dw λl0 H2 s2 n2 g2=>?_
  have B2:=(hB.same s1).same s2;exists #[b,4,rfl,B2,(),(),λv H3 v0 v1 B3 u3=>?_];have fb:f≠b:=λz=>hB.at (by rw[<- z];exact n1)
  have g3:=u3.other (λz=>(hB.same s1).at (by rw[<- z];exact n2)) g2;have gf:=u3.other fb (s2 _ _ g1);obtain x|ex|mx|_:=kT (xs:=[V.int 9,V.int 9,V.int 9,V.int 1000]) v0 (by simpa using v1)
  obtain ⟨w,rfl,hw⟩:∃w:Nat,x=.int w/\(w=9\/w=1000):=by
   simp only[aI,aT,or_false] at mx;rcases mx with rfl | rfl | rfl | rfl
   ·exact #[9,rfl,.inl rfl]
   ·exact #[9,rfl,.inl rfl]
   ·exact #[9,rfl,.inl rfl]
   ·exact #[1000,rfl,.inr rfl]
  obtain q0|I0|xs0|gq0:=hB.inner;have fq:f≠q0:=λz=>by rw[<- z,n1] at gq0;cases gq0
  have u03:cM b H H3:=((s1.trans s2).upto (p:=b)).trans u3;have I3:Inner H3 b q0:=u03.2 _ I0;exists cy (bJ.of g3) ex ?_;exists #[(),(),?_];refine eH (n:=m) (λi σ' H'=>∃(y:Option V) (us:List V) (ws:List Rat),σ'=[some (.ref b),some (.int m),some (.int be),some (.ref f),some (.int w),y]/\H' f=some (.lst us)/\Paired (bS K H') ws us/\ws.9=i/\(∀z∈ws,(0<=z/\(0 < be->0 < z))/\Dr 1000 z)/\iq H' b/\Inner H' b q0/\cM b H H') #[none,[],[],rfl,gf,.nil,rfl,(λ_ z=>nomatch z),B3,I3,u03] ?_ ?_
  ·rintro i σ' H' hi ⟨y,us,ws,rfl,gu,pr,lw,hd,B',I',u'⟩;have lu:=pr.9
   have fin:∀(t:V) (z:Rat) (H5:Hp),iq H5 b->cM b H' H5->bS K H5 z t->(0<=z/\(0 < be->0 < z))/\Dr 1000 z->H5 f=some (.lst us)/\us.9 < sizeLine/\∃(y:Option V) (us':List V) (ws':List Rat),[some (V.ref b),some (.int m),some (.int be),some (.ref f),some (.int w),some (.int i)]=[some (.ref b),some (.int m),some (.int be),some (.ref f),some (.int w),y]/\(upd H5 f (.lst (us++[t]))) f=some (.lst us')/\Paired (bS K (upd H5 f (.lst (us++[t])))) ws' us'/\ws'.9=i+1/\(∀z∈ws',(0<=z/\(0 < be->0 < z))/\Dr 1000 z)/\iq (upd H5 f (.lst (us++[t]))) b/\Inner (upd H5 f (.lst (us++[t]))) b q0/\cM b H (upd H5 f (.lst (us++[t]))):=λt z H5 B5 u5 nz dz=>by
    have g5:=u5.other fb gu;have I5:=u5.2 _ I';refine #[g5,bD (),_,_,ws++[z],rfl,aK,cA (Paired.imp' (λ_ _ y=>(y.upto u5 B').updL g5) pr) (.cons (nz.updL g5) .nil),by simp [lw],AN hd dz,B5.upd I5 fb fq,I5.upd fb,(u'.trans u5).after n1]
   exists #[b,2,rfl,B',(),(),λc Ha c0 c1 Ba ua=>?_];exists jC (λh0=>?_) (λh0=>?_)
   ·exists #[.inl #[rfl,_,bJ.of (ua.other fb gu)],?_];exists b6 λt Hb sb gt=>?_
    obtain e1|e2|e3:=fin (.ref t) 1 Hb (Ba.same sb) (ua.same sb) (bS.mk gt rfl) #[#[(),λ_=>()],(),()];exists jA e1 e2 ?_;exact e3
   ·exists #[.inl #[rfl,_,bJ.of (ua.other fb gu)],?_];exists #[b,_,rfl,Ba,(),(),λt Hb t0 t1 Bb ub=>?_];exists fD (show oB _ _ from #[(),by show (2:Nat) < 2^8999000;exact bx (show 2 < 2^2 by decide) (aF () ())]) ?_;rw[bK _ ()];exists #[b,_,rfl,Bb,(),(),λd Hc d0 d1 Bc uc=>?_];exists #[_,_,rfl,(),(II ()).mono (),λr Hd sd gd=>?_];obtain z|ez|dz|ze:=Jm (t:=be+t) (b:=1+d) (W:=1000) () () ();obtain e1|e2|e3:=fin (.ref r) z Hd (Bc.same sd) (((ua.trans ub).trans uc).same sd) (bS.mk gd ez) #[#[Vk ze () (),λ_=>Nw ze () ()],dz];exists jA e1 e2 ?_;exact e3
  ·rintro σ' H' ⟨y,us,ws,rfl,gu,pr,lw,hd,B',I',u'⟩;exists k f ws H' n1 #[us,gu,pr] lw hd B' u'
theorem vA:ba ["_law_bag_here","_law_parts_here","_law_n"] ["_law_bag_here","_law_parts_here"] (aM rL):=by walk_at "d"
theorem Dj (T:Txt K mg Z) (ptree:P.given.tree=none):cQ P w K mg base iJ 3 Z.yg Z.xU ["_law_bag_here","_law_parts_here"] (Gq K):=by
 have ox:=Au (P:=P) (w:=w) (base:=base) T ptree;refine T.l9.F.ok vA (λvs H Q E h=>?_) (λcdv A outer s H vs Q E hr h=>?_)
 ·obtain b|r|H0|mv|pt|lk|rfl|_:=h;rfl
 ·obtain b|r|H0|mv|pt|lk|rfl|B|nb|P|D|k:=h
  refine #[_,(au (aZ (i:=2) vA.nd rfl (Or.inl rfl) (bG bw (by rfl) T.len bc (aa (aU bP (pv 1) ak) ag)))
   (az (a8 (d6 (aa (cK ox hr T.iV (aa (pv 0) (aa (pv 2) (aa ak ag)))) (aa (cK ox hr T.iV (aa (pv 0) (aa (bG bw (by rfl) T.len bc (aa (aU bP (pv 1) ak) ag)) (aa ak ag)))) (aa (cK ox hr T.iV (aa (pv 0) (aa (pv 2) (aa ak ag)))) ag))))))),?_]
  refine aX (σ:=[some (.ref b),some (.ref r),none]) rfl ?_;have d8:=D.n8;have i4:=D.i4;obtain m|p|l|gt|mn|pn|ln|Gm|Gp|Gl:=id P;obtain um|gm|qm|_:=id Gm;have lum:=qm.9;exists #[_,_,rfl,.inl (bJ.of gm),?_];rw[<- lum];clear gm qm lum Gm Gp Gl gt mn pn ln;exists #[b,mv.9,0,rfl,B,(),(),λa1 qs H1 n1 R1 l1 w1 B1 u1=>?_];obtain m|p|l|gt|mn|pn|ln|Gm|Gp|Gl:=P.upto u1 B nb;obtain up|gp|qp|_:=id Gp;have lup:=qp.9;exists #[_,_,rfl,.inl (bJ.of gp),?_];rw[<- lup];clear gp qp lup Gm Gp Gl gt mn pn ln;exists #[b,pt.9,1,rfl,B1,(),(),λa2 rs H2 n2 R2 l2 w2 B2 u2=>?_];exists #[b,mv.9,0,rfl,B2,(),(),λa3 fs H3 n3 R3 l3 w3 B3 u3=>?_];exists dw λl4 H4 s4 n4 g4=>?_
  have bH:=B.at;have u12:=u1.trans u2;have u03:=u12.trans u3;have e2:=u1.none B1 n2;have e3:=u12.none B2 n3;have e4:=u03.none B3 n4;have a1b:a1≠b:=λz=>bH (by rw[<- z];exact n1)
  have a2b:a2≠b:=λz=>bH (by rw[<- z];exact e2)
  exact k l4 a1 a2 a3 qs rs fs H4 e4 n1 e2 e3 g4 (((R1.upto u2 B1 a1b).upto u3 B2 a1b).same s4) ((R2.upto u3 B2 a2b).same s4) (R3.same s4) #[l1,l2,l3,λw h=>#[(w1 w h).1.1,(w1 w h).2],λw h=>#[(w2 w h).1.2 (),(w2 w h).2],λw h=>#[(w3 w h).1.1,(w3 w h).2]] (B3.same s4) (u03.same s4)
theorem gM:ba ["wholes","multiple","whole"] ["wholes"] (aM kB):=by walk_at "d"
theorem wJ (T:Txt K mg Z) (ptree:P.given.tree=none):cQ P w K mg base iJ 2 Z.oY Z.oV ["wholes"] (MY K):=by
 have eV:=ja (P:=P) (w:=w) (base:=base) T ptree;refine T.jW.F.ok gM (λvs H Q E h=>?_) (λcdv A outer s H vs Q E hr h=>?_)
 ·obtain p|bs|M|rfl|_:=h;rfl
 ·obtain p|bs|M|rfl|hp|hM|sM|hb|q:=h
  refine #[_,(au (aZ (i:=1) gM.nd rfl (Or.inl rfl) ak)
   (au (dW PassesOwn.never rfl (b7 (pv 0)) (aN (i:=2) gM.nd)
    (az (aZ (i:=1) gM.nd rfl (Or.inl rfl) (bA cH (pv 1) (bA (hJ rfl gM rfl rfl rfl ptree (oU hr)) (pv 2) (cK eV hr T.fM (aa (pv 1) (aa (pv 2) ag))))))))
   (az (a8 (pv 1))))),?_]
  refine aX (σ:=[some (.ref p),none,none]) rfl ?_;exists #[#[_,hp],?_];refine ib (K:=K) (a:=p) (xs:=bs.map V.int) (λi σ' H'=>H'=H/\∃x,σ'=[some (.ref p),some (.int (yS (bs.take i) 1)),x]) #[rfl,none,rfl] (λi σ' H' _ #[e,_]=>by subst e;exact hp) ?_ ?_
  ·rintro i x σ' H' hx ⟨rfl,y,rfl⟩;rw[ay] at hx
   obtain ⟨b,eb,rfl⟩:∃b,bs[i]?=some b/\x=.int b:=by
    cases e:bs[i]? with
    | none=>rw[e] at hx;cases hx
    | some b=>rw[e] at hx;cases hx;exact #[b,rfl,rfl]
   have b1:=hb b (ao eb);have sb:Sz 4400000 b:=FC hM b1.2 sM;have ht:∀c∈bs.take i,0 < c/\c∣M:=λc hc=>hb c (cz hc)
   have msz:Sz 4400000 (yS (bs.take i) 1):=FC hM (AG () (Int.one_dvd _) ht) sM;generalize hm:yS (bs.take i) 1=m at msz ⊢;have gp:0 < g m b:=Cb ();exists #[m,b,rfl,?_];exists fD (show oB _ _ from #[(),(Wg b1.1 sb).mono ()]) ?_;rw[bK _ ()];exists fD (show fO _ _ from .inr #[_,_,msz,sb.hi (t:=m) (),()]) ?_;exists #[rfl,_,by rw[take_snoc eb,DR,hm];rfl]
  ·rintro σ' H' ⟨rfl,y,rfl⟩;walk_at "w";rw[aD (by simp)];exact q
theorem yB:ba ["row"] ["row"] (aM mS):=by walk_at "d"
theorem iF (T:Txt K mg Z) (ptree:P.given.tree=none):cQ P w K mg base iJ 3 Z.tI Z.tH ["row"] (MZ K):=by
 have yj:=wJ (P:=P) (w:=w) (base:=base) T ptree;refine T.dJ.F.ok yB (λvs H Q E h=>?_) (λcdv A outer s H vs Q E hr h=>?_)
 ·obtain p|ns|M|rfl|_:=h;rfl
 ·obtain p|ns|M|rfl|hp|hl|hz|q:=h;refine #[_,(az (a8 (cK yj hr T.jW (aa (b8 ["value"] [] [] (b7 (pv 0)) (λ_=>(aN (i:=0) (show ND9 ["value"] by decide +kernel))) (λ_=>cb) (λ_=>(aU (jc K (by rfl)) (pv 0) ak))) ag)))),?_];refine aX (σ:=[some (.ref p)]) rfl ?_;obtain xs|gx|qx:=id hp;have lx:=qx.9;exists #[#[_,bJ.of gx],?_];refine eS (K:=K) (xs:=xs) (λi ys H'=>H'=H/\ys=((ns.take i).map (·.2)).map V.int) (aL (bD ())) #[rfl,rfl] (λi ys H' _ #[e,_]=>by subst e;exact bJ.of gx) ?_ ?_
  ·rintro i x ys H' hx hlen ⟨rfl,rfl⟩;obtain n|en|r|rfl|hr1:=cE qx hx;exists #[rfl,by rw[take_snoc en];simp]
  ·rintro ys H' hy ⟨rfl,rfl⟩ l hl';exists #[l,ns.map (·.2),M,rfl,bJ.of (by rw[aK,aD ()]),hz.1,hz.2.1,λb hb=>?_,?_]
   ·obtain n|hn|rfl:=av.mp hb;exact #[(hz.2.2 n hn).1,(hz.2.2 n hn).2.1]
   ·exact q _ (aA.new hl')
theorem xm:ba ["row","bottom"] ["row","bottom"] (aM tY):=by walk_at "d"
theorem kG (T:Txt K mg Z) (ptree:P.given.tree=none):cQ P w K mg base iJ 1 Z.z5 Z.zI ["row","bottom"] (Gi K):=by
 refine T.gE.F.ok xm (λvs H Q E h=>?_) (λcdv A outer s H vs Q E hr h=>?_)
 ·obtain p|ns|M|B|rfl|_:=h;rfl
 ·obtain p|ns|M|B|rfl|hp|hl|hz|hB|sB|q:=h;refine #[_,(az (a8 (b8 ["value"] ["bottom"] [1] (b7 (pv 0)) (λ_=>(aN (i:=0) (show ND9 ["value","bottom"] by decide +kernel))) (λ_=>cb) (λ_=>(bA cH (aU (jc K (by rfl)) (pv 0) ak) (bA (hJ rfl xm rfl rfl rfl ptree (oU hr)) (pv 1) (aU (jc K (by rfl)) (pv 0) ak))))))),?_];refine aX (σ:=[some (.ref p),some (.int B)]) rfl ?_;obtain xs|gx|qx:=id hp;have lx:=qx.9;exists #[#[_,bJ.of gx],?_];refine eS (K:=K) (xs:=xs) (λi ys H'=>H'=H/\ys=(cp (ns.take i) B).map V.int) (aL (bD ())) #[rfl,rfl] (λi ys H' _ #[e,_]=>by subst e;exact bJ.of gx) ?_ ?_
  ·rintro i x ys H' hx hlen ⟨rfl,rfl⟩;obtain n|en|r|rfl|hr1:=cE qx hx;have nz:=hz.2.2 n (ao en);have sn:Sz 4400000 n.2:=FC hz.1 nz.2.1 hz.2.1;exists fD (show oB _ _ from #[(),sn.mono ()]) ?_;rw[bK _ ()]
   have sq:Sz 4400000 (B / n.2):=sB.le (by
    rw[Ur ()];exact Nat.div_le_self ..)
   exists fD (show fO _ _ from .inr #[_,_,nz.2.2,sq,()]) ?_;exact #[rfl,by rw[take_snoc en];simp [cp]]
  ·rintro ys H' hy ⟨rfl,rfl⟩ l hl';exact q l _ hl' (aA.new hl') (by rw[aK,aD ()])
theorem rF:ba ["row","bottom","tops"] ["row"] (aM t9):=by walk_at "d"
theorem xA (T:Txt K mg Z) (ptree:P.given.tree=none):cQ P w K mg base iJ 4 Z.z8 Z.zK ["row"] (MW K):=by
 have c7:=iF (P:=P) (w:=w) (base:=base) T ptree;have fH:=kG (P:=P) (w:=w) (base:=base) T ptree;refine T.nh.F.ok rF (λvs H Q E h=>?_) (λcdv A outer s H vs Q E hr h=>?_)
 ·obtain p|xs|M|rfl|_:=h;rfl
 ·obtain p|xs|M|rfl|R|x20|hM|k:=h
  refine #[_,(au (aZ (i:=1) rF.nd rfl (Or.inl rfl) (cK c7 hr T.dJ (aa (pv 0) ag)))
   (au (aZ (i:=2) rF.nd rfl (Or.inr rfl) (cK fH hr T.gE (aa (pv 0) (aa (pv 1) ag))))
   (az (a8 (cP (aa (b8 ["place"] ["tops"] [2] (cC rfl T.range (aa (bG bw (by rfl) T.len bc (aa (pv 2) ag)) ag)) (λ_=>(aN (i:=0) (show ND9 ["place","tops"] by decide +kernel) rfl (Or.inr rfl) (Or.inl rfl))) (λ_=>cb) (λ_=>(b8 ["at","top"] ["place"] [0] (Nz K rfl T.enumerate (aa (pv 1) ag)) (λ_=>(vh K 2 (cZ (aN (i:=0) (show ND9 ["at","top","place"] by decide +kernel)) (cZ (aN (i:=1) (show ND9 ["at","top","place"] by decide +kernel)) kF)))) (λ_=>cb) (λ_=>(ND (bC ik (pv 0) (pv 2) (bI _)) (pv 1) ak))))) (aa (pv 1) ag))))))),?_]
  refine aX (σ:=[some (.ref p),none,none]) rfl ?_;obtain c0|sc:=hM.bot;have lm:(xs.map nm).9=xs.9:=af ..;exists #[p,xs.map nm,M,rfl,R.rowK,(),hM,λH1 t1=>?_];exists #[p,xs.map nm,M,_,rfl,(R.same t1).rowK,(),hM,c0,sc,λr2 H2 n2 t2 g2=>?_];have t02:=t1.trans t2;generalize hz:cp (xs.map nm) (cI (xs.map nm))=zs at g2;have lz:zs.9=xs.9:=by rw[<- hz];unfold cp;rw[af,lm]
  exists #[_,_,rfl,.inl (bJ.of g2),?_];rw[af];exists #[(),(),?_];refine kh (n:=zs.9) (Dv H) (λi=>(List.range zs.9).map λj=>if j=i then zs.getD j 0 else 0) () (λa b=>a.same b) ?_ ?_
  ·rintro i Hb NY NN hi sa k1;have g2b:=sa _ _ g2;exists #[#[_,bJ.of g2b],?_];refine L9 (K:=K) (xs:=zs.map V.int) (λj ys H'=>aA Hb H'/\ys=(((List.range zs.9).map λj=>if j=i then zs.getD j 0 else 0).take j).map V.int) (aL (bD (by rw[af];lia))) #[aA.refl _,rfl] (λi ys H' _ #[s,_]=>bJ.of (s _ _ g2b)) ?_ ?_
   ·rintro j w ys3 H3 r3 hw hl3 ⟨s3,rfl⟩ hr3;rw[ay] at hw;obtain z|ez|rfl:=o9.mp hw;have jl:=(aR.mp ez).1;have sr:aA H3 (upd H3 r3 (.tup [.int j,.int z])):=aA.new hr3;have gr:(upd H3 r3 (.tup [.int j,.int z])) r3=some (.tup [.int j,.int z]):=aK;generalize upd H3 r3 (.tup [.int j,.int z])=H4 at sr gr ⊢;have e1:zs.getD j 0=z:=by rw[ae,ez];rfl
    have ee:((List.range zs.9).map λj=>if j=i then zs.getD j 0 else 0)[j]?=some (if j=i then z else 0):=by rw[ay,bY jl];show some (if j=i then zs.getD j 0 else 0)=_;rw[e1]
    exists jC (λhq=>?_) (λhq=>?_)
    ·have hq:=of_decide_eq_true hq;exists #[s3.trans sr,by rw[take_snoc ee,cn,if_pos ()];rfl]
    ·have hq:¬((j:Int)=(i:Int)):=λz=>hq (decide_eq_true z)
     exists #[s3.trans sr,by rw[take_snoc ee,cn,if_neg ()];rfl]
   rintro ys3 H3 hy ⟨s3,rfl⟩ l hl;exact k1 _ _ (s3.trans (aA.new hl)) #[l,rfl,t02.none (sa.none (s3.none hl)),by rw[aK,aD (by rw[af,af,bu];exact ar _)]]
  rintro ys H3 r nr s3 g3 pr _;exists b6 λt4 H4 s4 g4=>?_
  refine k t4 r H4 g4 ((t02.trans s3).trans s4) ?_;rw[hz];exact Iw.same #[t02.none nr,ys,g3,pr] s4
theorem xp:ba ["self","system","state_weights","put_weights","last_weights"] ["self","system","state_weights","put_weights","last_weights"] (aM gK):=by walk_at "d"
theorem xH (T:Txt K mg Z) (ptree:P.given.tree=none):cQ P w K mg base iJ 5 Z.lX Z.lU ["self","system","state_weights","put_weights","last_weights"] (Kb K Z.a_System Z.a_Costs):=by
 have uY:=xA (P:=P) (w:=w) (base:=base) T ptree;refine T.rj.ok xp (λvs H Q E h=>?_) (λcdv A outer s H vs Q E hr h=>?_)
 ·obtain A9|x|dx|sy|b1|b2|b3|Hb|H0|mv|pt|lk|qs|rs|fs|M|rfl|_:=h;rfl
 ·obtain A9|x|dx|sy|b1|b2|b3|Hb|H0|mv|pt|lk|qs|rs|fs|M|rfl|nx|ndx|nex|rfl|LA|S|R1|R2|R3|f20|hM|k:=h
  refine #[_,(au (nQ (pv 0) (pv 1) rfl)
   (au (nQ (pv 0) (eI iS (by rfl) T.list PyProof.Rows.boot_list (aa (pv 2) ag)) rfl)
   (au (nQ (pv 0) (eI iS (by rfl) T.list PyProof.Rows.boot_list (aa (pv 3) ag)) rfl)
   (au (nQ (pv 0) (eI iS (by rfl) T.list PyProof.Rows.boot_list (aa (pv 4) ag)) rfl)
   (az (nQ (pv 0) (d6 (aa (cP (aa (cK uY hr T.nh (aa (fE (pv 0) rfl) ag)) (aa (cP (aa (d6 ag) (aa ak ag))) ag))) ag)) rfl)))))),?_]
  refine aX (σ:=[some (.ref x),some (.ref sy),some (.ref b1),some (.ref b2),some (.ref b3)]) rfl ?_
  have s0:aA Hb (upd (upd Hb dx (.own x)) x (.ins Z.a_Costs dx [])):=λb o e=>by
   rw[a7 (fW e nx),a7 (fW e ndx)];exact e
  have hx:(upd (upd Hb dx (.own x)) x (.ins Z.a_Costs dx [])) x=some (.ins Z.a_Costs dx []):=aK;generalize upd (upd Hb dx (.own x)) x (.ins Z.a_Costs dx [])=Ha at s0 hx ⊢;have small:∀fs:List (Str×V),fs.9<=8->fs.9 < 1000:=λ_ h=>()
  have one:(bf ("system":Str) (.ref sy) ([]:List (Str×V))).9<=1:=d4;exists #[x,Z.a_Costs,dx,_,rfl,hx,T.cl_Costs,T.na_Costs_system,(by show 0 < 1000;decide),?_];have hx1:(upd Ha x (.ins Z.a_Costs dx (bf "system" (.ref sy) []))) x=some (.ins Z.a_Costs dx (bf "system" (.ref sy) [])):=aK;have k1:aA Hb (upd Ha x (.ins Z.a_Costs dx (bf "system" (.ref sy) []))):=s0.after nx;generalize upd Ha x (.ins Z.a_Costs dx (bf "system" (.ref sy) []))=H1 at hx1 k1 ⊢;obtain z1|g1|q1:=id R1;replace q1:=Paired.imp' (λ_ _ z=>bS.hid z LA) q1;exists #[b1,z1,rfl,.inl (bJ.of (k1 _ _ g1)),λa1 n1=>?_];have a1x:a1≠x:=λz=>by rw[z,hx1] at n1;cases n1
  have s1:aA H1 (upd H1 a1 (.lst z1)):=aA.new n1;have ga1:(upd H1 a1 (.lst z1)) a1=some (.lst z1):=aK;generalize upd H1 a1 (.lst z1)=H2 at s1 ga1 ⊢;have k1L:=k1.trans s1;have hx1L:=s1 _ _ hx1;exists #[x,Z.a_Costs,dx,_,rfl,hx1L,T.cl_Costs,T.na_Costs_state_weights,small _ (),?_];have len2:(bf "state_weights" (.ref a1) (bf "system" (.ref sy) [])).9<=2:=aj d4 ();have hx3:(upd H2 x (.ins Z.a_Costs dx (bf "state_weights" (.ref a1) (bf "system" (.ref sy) [])))) x=some (.ins Z.a_Costs dx (bf "state_weights" (.ref a1) (bf "system" (.ref sy) []))):=aK;have k3:aA Hb (upd H2 x (.ins Z.a_Costs dx (bf "state_weights" (.ref a1) (bf "system" (.ref sy) [])))):=k1L.after nx;have ga1:(upd H2 x (.ins Z.a_Costs dx (bf "state_weights" (.ref a1) (bf "system" (.ref sy) [])))) a1=some (.lst z1):=by rw[a7 a1x];exact ga1
  generalize upd H2 x (.ins Z.a_Costs dx (bf "state_weights" (.ref a1) (bf "system" (.ref sy) [])))=H3 at hx3 k3 ga1 ⊢;obtain z2|g2|q2:=id R2;replace q2:=Paired.imp' (λ_ _ z=>bS.hid z LA) q2;exists #[b2,z2,rfl,.inl (bJ.of (k3 _ _ g2)),λa2 n2=>?_];have a2x:a2≠x:=λz=>by rw[z,hx3] at n2;cases n2
  have s2:aA H3 (upd H3 a2 (.lst z2)):=aA.new n2;have ga2:(upd H3 a2 (.lst z2)) a2=some (.lst z2):=aK;generalize upd H3 a2 (.lst z2)=H4 at s2 ga2 ⊢;have k2L:=k3.trans s2;have hx2L:=s2 _ _ hx3;replace ga1:=s2 _ _ ga1;exists #[x,Z.a_Costs,dx,_,rfl,hx2L,T.cl_Costs,T.na_Costs_put_weights,small _ (),?_];have len3:(bf "put_weights" (.ref a2) (bf "state_weights" (.ref a1) (bf "system" (.ref sy) []))).9<=3:=aj d4 ();have hx5:(upd H4 x (.ins Z.a_Costs dx (bf "put_weights" (.ref a2) (bf "state_weights" (.ref a1) (bf "system" (.ref sy) []))))) x=some (.ins Z.a_Costs dx (bf "put_weights" (.ref a2) (bf "state_weights" (.ref a1) (bf "system" (.ref sy) [])))):=aK;have k5:aA Hb (upd H4 x (.ins Z.a_Costs dx (bf "put_weights" (.ref a2) (bf "state_weights" (.ref a1) (bf "system" (.ref sy) []))))):=k2L.after nx;have ga1:(upd H4 x (.ins Z.a_Costs dx (bf "put_weights" (.ref a2) (bf "state_weights" (.ref a1) (bf "system" (.ref sy) []))))) a1=some (.lst z1):=by rw[a7 a1x];exact ga1
  have ga2:(upd H4 x (.ins Z.a_Costs dx (bf "put_weights" (.ref a2) (bf "state_weights" (.ref a1) (bf "system" (.ref sy) []))))) a2=some (.lst z2):=by rw[a7 a2x];exact ga2
  generalize upd H4 x (.ins Z.a_Costs dx (bf "put_weights" (.ref a2) (bf "state_weights" (.ref a1) (bf "system" (.ref sy) []))))=H5 at hx5 k5 ga1 ga2 ⊢;obtain z3|g3|q3:=id R3;replace q3:=Paired.imp' (λ_ _ z=>bS.hid z LA) q3;exists #[b3,z3,rfl,.inl (bJ.of (k5 _ _ g3)),λa3 n3=>?_];have a3x:a3≠x:=λz=>by rw[z,hx5] at n3;cases n3
  have s3:aA H5 (upd H5 a3 (.lst z3)):=aA.new n3;have ga3:(upd H5 a3 (.lst z3)) a3=some (.lst z3):=aK;generalize upd H5 a3 (.lst z3)=H6 at s3 ga3 ⊢;have k3L:=k5.trans s3;have hx3L:=s3 _ _ hx5;replace ga1:=s3 _ _ ga1;replace ga2:=s3 _ _ ga2;exists #[x,Z.a_Costs,dx,_,rfl,hx3L,T.cl_Costs,T.na_Costs_last_weights,small _ (),?_];have len4:(bf "last_weights" (.ref a3) (bf "put_weights" (.ref a2) (bf "state_weights" (.ref a1) (bf "system" (.ref sy) [])))).9<=4:=aj d4 ();have hx7:(upd H6 x (.ins Z.a_Costs dx (bf "last_weights" (.ref a3) (bf "put_weights" (.ref a2) (bf "state_weights" (.ref a1) (bf "system" (.ref sy) [])))))) x=some (.ins Z.a_Costs dx (bf "last_weights" (.ref a3) (bf "put_weights" (.ref a2) (bf "state_weights" (.ref a1) (bf "system" (.ref sy) []))))):=aK;have k7:aA Hb (upd H6 x (.ins Z.a_Costs dx (bf "last_weights" (.ref a3) (bf "put_weights" (.ref a2) (bf "state_weights" (.ref a1) (bf "system" (.ref sy) [])))))):=k3L.after nx;have ga1:(upd H6 x (.ins Z.a_Costs dx (bf "last_weights" (.ref a3) (bf "put_weights" (.ref a2) (bf "state_weights" (.ref a1) (bf "system" (.ref sy) [])))))) a1=some (.lst z1):=by rw[a7 a1x];exact ga1
  have ga2:(upd H6 x (.ins Z.a_Costs dx (bf "last_weights" (.ref a3) (bf "put_weights" (.ref a2) (bf "state_weights" (.ref a1) (bf "system" (.ref sy) [])))))) a2=some (.lst z2):=by rw[a7 a2x];exact ga2
  have ga3:(upd H6 x (.ins Z.a_Costs dx (bf "last_weights" (.ref a3) (bf "put_weights" (.ref a2) (bf "state_weights" (.ref a1) (bf "system" (.ref sy) [])))))) a3=some (.lst z3):=by rw[a7 a3x];exact ga3
  generalize upd H6 x (.ins Z.a_Costs dx (bf "last_weights" (.ref a3) (bf "put_weights" (.ref a2) (bf "state_weights" (.ref a1) (bf "system" (.ref sy) [])))))=H7 at hx7 k7 ga1 ga2 ga3 ⊢;exists #[x,Z.a_Costs,dx,_,_,rfl,hx7,T.cl_Costs,T.na_Costs_last_weights,Qr,?_];exists #[a3,fs,M,rfl,#[z3,ga3,Paired.imp' (λ_ _ z=>z.same (a9.trans k7)) q3],f20,hM,λtw pw H8 g8 s8 G8=>?_];exists dw λe9 H9 s9 n9 g9=>?_
  exists b6 λts HA sA gA=>?_
  exists b6 λt1 HB sB gB=>?_
  exists dw λkn HC sC nC gC=>?_
  have s7C:=(((s8.trans s9).trans sA).trans sB).trans sC;have hxC:=s7C _ _ hx7;have kC:=k7.trans s7C;have xkn:x≠kn:=λz=>by rw[<- z,(((s8.trans s9).trans sA).trans sB) _ _ hx7] at nC;cases nC
  have bkn:Hb kn=none:=(((k7.trans s8).trans s9).trans (sA.trans sB)).none nC;exists #[x,Z.a_Costs,dx,_,rfl,hxC,T.cl_Costs,T.na_Costs_known,small _ (),?_];have hxD:(upd HC x (.ins Z.a_Costs dx (p5 sy a1 a2 a3 kn))) x=some (.ins Z.a_Costs dx (p5 sy a1 a2 a3 kn)):=aK;have kD:aA Hb (upd HC x (.ins Z.a_Costs dx (p5 sy a1 a2 a3 kn))):=kC.after nx;have sD:∀a o,a≠x->HB a=some o->(upd HC x (.ins Z.a_Costs dx (p5 sy a1 a2 a3 kn))) a=some o:=λa o ha h=>by rw[a7 ha];exact sC _ _ h
  have gD:(upd HC x (.ins Z.a_Costs dx (p5 sy a1 a2 a3 kn))) kn=some (.lst [.ref t1]):=by rw[a7 (Ne.symm xkn)];exact gC
  have hxB:HB x=some _:=(((s8.trans s9).trans sA).trans sB) _ _ hx7;have s7B:=((s8.trans s9).trans sA).trans sB;show Q .non (upd HC x (.ins Z.a_Costs dx (p5 sy a1 a2 a3 kn)))
  generalize upd HC x (.ins Z.a_Costs dx (p5 sy a1 a2 a3 kn))=HD at hxD kD sD gD ⊢;have nkn:∀{a o},HB a=some o->a≠kn:=λh z=>by rw[z,nC] at h;cases h
  have LB:mV A9 HB:=λa ha=>by
   obtain vs|g:=LA a ha;have ax:a≠x:=λz=>by rw[z,nx] at g;cases g
   exact #[vs,(((k7.trans s8).trans s9).trans (sA.trans sB)) _ _ g]
  have lift:∀{a o},HB a=some o->a≠x->A9 a=false->dS (p6 A9 kn) HD a=some o:=λh n n2=>gY (sD _ _ n h) (JD n2 (nkn h))
  have kH:aA (dS A9 Hb) (dS (p6 A9 kn) HD):=yV bkn (cG kD);have nA:∀{a},Hb a=none->A9 a=false:=LA.new;have na1:A9 a1=false:=nA (k1.none n1);have na2:A9 a2=false:=nA (k3.none n2);have na3:A9 a3=false:=nA (k5.none n3);refine k kn (.ref t1) HD kD bkn #[dx,sy,a1,a2,a3,gY hxD (JD (nA nx) xkn),S.same kH,#[z1,lift (s7B _ _ ga1) a1x na1,Paired.imp' (λ_ _ z=>z.same kH) q1],#[z2,lift (s7B _ _ ga2) a2x na2,Paired.imp' (λ_ _ z=>z.same kH) q2],#[z3,lift (s7B _ _ ga3) a3x na3,Paired.imp' (λ_ _ z=>z.same kH) q3]] gD ?_;have nxI:∀{a us},HB a=some (.tup us)->a≠x:=λh z=>by rw[z,hxB] at h;cases h
  have nxL:∀{a us},HB a=some (.lst us)->a≠x:=λh z=>by rw[z,hxB] at h;cases h
  obtain ng|u1|h3|h4:=G8.same ((s9.trans sA).trans sB);have h2:=((s9.trans sA).trans sB) _ _ g8;have h5:=sB _ _ gA;have h6:=(sA.trans sB) _ _ g9;have nf:∀{a},H7 a=none->A9 a=false:=λh=>nA (k7.none h)
  exact #[t1,tw,ts,pw,e9,rfl,lift gB (nxI gB) (LB.tup gB),lift h2 (nxI h2) (LB.tup h2),#[u1,lift h3 (nxL h3) (nf ng),Paired.imp' (λ_ _ #[q,e,n,g]=>#[q,e,lift g (nxL g) (nf n)]) h4],lift h5 (nxI h5) (LB.tup h5),#[[],lift h6 (nxL h6) (nf (s8.none n9)),.nil]]
theorem EM:ba ["_law_bag_here","_law_parts_here","_law_steps_here","_law_wide"] ["_law_bag_here","_law_parts_here","_law_steps_here","_law_wide"] (aM uh):=by walk_at "d"
theorem Fe (T:Txt K mg Z) (ptree:P.given.tree=none):cQ P w K mg base iJ 4 Z.Ac Z.zN ["_law_bag_here","_law_parts_here","_law_steps_here","_law_wide"] (Gs K):=by
 have js:=oM (P:=P) (w:=w) (base:=base) T ptree;refine T.rY.F.ok EM (λvs H Q E h=>?_) (λcdv A outer s H vs Q E hr h=>?_)
 ·obtain b|r|tt|w|H0|mv|pt|lk|rfl|_:=h;rfl
 ·obtain b|r|tt|w|H0|mv|pt|lk|rfl|hT|w1|w2|hB|nb|PQ|D|k:=h;refine #[_,(az (a8 (b8 ["_law_turn"] ["_law_bag_here","_law_parts_here","_law_wide"] [0,1,3] (cC rfl T.range (aa (pv 2) ag)) (λ_=>(aN (i:=0) (show ND9 ["_law_turn","_law_bag_here","_law_parts_here","_law_wide"] by decide +kernel))) (λ_=>cb) (λ_=>(cK js hr T.jn (aa (pv 1) (aa (bG (Ds K (by rfl)) (by rfl) T.len bc (aa (aU (jc K (by rfl)) (pv 2) ak) ag)) (aa (pv 3) ag)))))))),?_];refine aX (σ:=[some (.ref b),some (.ref r),some (.int tt),some (.int w)]) rfl ?_;have i4:=D.i4;exists #[(),(),?_]
  refine y7 (n:=tt) (b:=b) (dF K H) (λxs=>xs.9=pt.9/\∀x∈xs,Dr (max w 6) x) hB () (λ{H' H'' c x} a u B=>by
   obtain q|e|nq|R:=a;exact #[q,e,nq,R.upto u B (λz=>hB.at (by rw[<- z];exact nq))]) ?_ ?_
  ·rintro i Ha NY NN hi ua Ba k1;obtain m|p|l|g|n1|n2|n3|Gm|Gp|Gl:=PQ.upto ua hB nb;obtain up|gp|qp|_:=id Gp;have lup:=qp.9;exists #[_,_,rfl,.inl (bJ.of gp),?_];rw[<- lup];exists #[b,pt.9,w,rfl,Ba,(),w1,(),λq xs Hb nq R lx dx Bb ub=>?_];exact k1 _ xs _ ub Bb #[lx,dx] #[q,rfl,ua.none Ba nq,R]
  ·rintro ys cs Hz t ht uz Bz gz lc hc prz nx;exact k t cs Hz ht #[ys,gz,prz,oO nx] lc hc Bz uz
theorem jJ:ba ["_law_bag_here","_law_parts_here","_law_bottoms","_law_row_here"] ["_law_bag_here","_law_parts_here"] (aM rJ):=by walk_at "d"
theorem De (T:Txt K mg Z) (ptree:P.given.tree=none):cQ P w K mg base iJ 2 Z.yd Z.xR ["_law_bag_here","_law_parts_here"] (DH K):=by
 have aS:=eF (P:=P) (w:=w) (base:=base) T ptree;refine T.pV.F.ok jJ (λvs H Q E h=>?_) (λcdv A outer s H vs Q E hr h=>?_)
 ·obtain b|r|H0|mv|pt|lk|rfl|_:=h;rfl
 ·obtain b|r|H0|mv|pt|lk|rfl|hB|nb|PQ|D|sz|k:=h
  refine #[_,(au (aZ (i:=2) jJ.nd rfl (Or.inl rfl) (d6 (aa ak ag)))
   (au (dW PassesOwn.never rfl (b7 (bA pR (aU bP (pv 1) ak) (aU bP (pv 1) ak))) (aN (i:=3) jJ.nd)
    (az (aZ (i:=2) jJ.nd rfl (Or.inl rfl) (bA pR (pv 2) (b8 ["_law_one"] [] [] (b7 (pv 3)) (λ_=>(aN (i:=0) (show ND9 ["_law_one"] by decide +kernel))) (λ_=>cb) (λ_=>(bA gN (aU (jc K (by rfl)) (pv 0) ak) (bA cH (bA (hJ rfl jJ rfl rfl rfl ptree (oU hr)) (bG xY (by rfl) T.abs PyProof.Rows.boot_abs (aa (aU (jc K (by rfl)) (pv 0) ak) ag)) ak) ak))))))))
   (au (dO (bC xy (bG (Mc rfl) (by rfl) T.max PyProof.Rows.boot_max (aa (pv 2) ag)) ak (bI _)) (az (a8 (cK aS hr T.aV (aa (pv 0) (aa ak ag))))) ck)
   (au (dO (bC xy (bG bw (by rfl) T.len bc (aa (aU bP (pv 1) ak) ag)) ak (bI _)) (az (a8 (aU bz (d6 (aa (cK aS hr T.aV (aa (pv 0) (aa ak ag))) (aa (bG bw (by rfl) T.len bc (aa (aU bP (pv 1) ak) ag)) ag))) (cK aS hr T.aV (aa (pv 0) (aa ak ag)))))) ck)
   (au (dO (PW.pt (kE (bC vF (bG bw (by rfl) T.len bc (aa (aU bP (pv 1) ak) ag)) ak (bI _)) (l5 (bC ik (cK aS hr T.aV (aa (pv 0) (aa ak ag))) ak (bI _))))) (az (a8 (cK aS hr T.aV (aa (pv 0) (aa ak ag))))) ck)
   (az (a8 (cK aS hr T.aV (aa (pv 0) (aa (bA gN ak (bG bw (by rfl) T.len bc (aa (aU bP (pv 1) ak) ag))) ag)))))))))),?_]
  refine aX (σ:=[some (.ref b),some (.ref r),none,none]) rfl ?_;have d8:=D.n8;have i4:=D.i4;obtain m|p|l|g|n1|n2|n3|Gm|Gp|Gl:=id PQ;obtain um|gm|qm|_:=id Gm;obtain up|gp|qp|_:=id Gp;have lum:=qm.9;have lup:=qp.9;exists dw λbl0 H1 s1 nbl g1=>?_
  have g':=s1 _ _ g;exists pP (s1 _ _ gm) (s1 _ _ gp) (aL (bD ())) λcc H2 s2 nc gc=>?_
  have s02:=s1.trans s2;have qc:Paired (dF K H0 H2) (mv++pt) (um++up):=Paired.imp' (λ_ _ z=>dF.same z s02) (cA qm qp)
  have wc:∀xs∈mv++pt,xs.9=mv.9:=λxs hx=>by
   rcases aw.mp hx with hx | hx
   ·exact D.mw xs hx
   ·exact D.pw xs hx
  have lc:(mv++pt).9=(um++up).9:=qc.9;rw[aB,aB] at lc;exists #[#[_,bJ.of gc],?_];refine ib (K:=K) (a:=cc) (xs:=um++up) (λi σ' H'=>aA H2 H'/\∃bl ns y,σ'=[some (.ref b),some (.ref r),some (.ref bl),y]/\H' bl=some (.lst (ns.map V.int))/\1<=ns.9/\ns.9<=1+i*8/\∀j xs,j < i->(mv++pt)[j]?=some xs->∀x∈xs,Uu x∈ns) #[aA.refl _,bl0,[1],_,rfl,s2 _ _ g1,(),(),λj xs h=>absurd h (tM _)] (λi σ' H' _ #[e,_]=>bJ.of (e _ _ gc)) ?_ ?_
  ·rintro i v σ' H' hv ⟨e,bl,ns,y,rfl,gb,b1,b2,hn⟩;obtain xs|exs|u|rfl|_|zs|gz|qz:=cE qc hv;have mx:=ao exs;have wx:=wc xs mx;have hi:i < (um++up).9:=(aR.mp hv).1;rw[aB] at hi;exists #[#[_,bJ.of (e _ _ gz)],?_];refine cL (K:=K) (F:=bS K) (λ_ c x=>x=V.int (Uu c)) id (e _ _ gz) (Paired.imp' (λ_ _ z=>z.same e) qz) () (λa b=>a.same b) (λa _=>a) ?_ ?_
   ·rintro j c x Ha NY NN ec sa ⟨pp,rfl,hp⟩ k1;have mc:=ao ec;have szc:=sz xs mx c mc;walk_at "w"
    have e1:(if (nm c).1 < 0 then -(nm c).1 else (nm c).1)=(c.num.natAbs:Int):=by
     show (if c.num < 0 then -c.num else c.num)=_
     split <;> lia
    have e2:(c.num.natAbs:Int).fdiv 1000=(c.num.natAbs:Int) / 1000:=bK _ ();rw[e1];refine fD (show oB _ _ from #[(),bx (show (1000:Int).natAbs < 2^20 by decide) (aF () ())]) ?_;rw[e2];exists k1 _ _ (aA.refl _) rfl
   rintro ys Hb cl hcl sb gcl prl _
   have ey:ys=(xs.map Uu).map V.int:=by
    rw[tK] at prl;rw[K4];exact DP prl
   have ly:=prl.9;rw[af] at ly;have gbb:=sb _ _ gb;rw[ey] at gcl;exists pP gbb gcl (aL (bD (by rw[af,af,af];lia))) λc2 Hc sc nc2 gc2=>?_
   rw[<- cn] at gc2;refine #[(e.trans sb).trans sc,c2,ns++xs.map Uu,_,rfl,gc2,by rw[aB];lia,by rw[aB,af];lia,λj ys' hj ej x hx=>?_];rcases jO j i with z | z
   ·exact lD _ (hn j ys' z ej x hx)
   ·have:j=i:=()
    subst this;rw[exs] at ej;cases ej;exact bU _ (av.mpr #[x,hx,rfl])
  ·rintro σ' H' ⟨e,bl,ns,y,rfl,gb,b1,b2,hn⟩;have e0:=s02.trans e;have B':=hB.same e0;have PQ':=PQ.same e0;obtain m'|p'|l'|g2|_|_|_|Gm'|_|_:=id PQ'
   have em:m'=m:=by
    have:=e0 _ _ g;rw[this] at g2;cases g2;rfl
   subst em;obtain um'|gm'|qm'|_:=id Gm';have lum':=qm'.9;have u0:cM b H H':=e0.upto;exists #[bl,ns,rfl,bJ.of gb,(),λM hM hmax=>?_];exists jC (λh=>?_) (λh=>?_)
   ·exists #[b,4,rfl,B',(),(),λv H3 v0 v1 B3 u3=>?_];obtain v|rfl:=cO v0;exact k v H3 #[(),.inl ()] B3 (u0.trans u3)
   ·have M9:M<=9:=by rw[decide_eq_true_eq] at h;lia
    have sm:∀xs∈mv++pt,∀x∈xs,x.den<=9/\x.num.natAbs < 1000:=λxs hx x hx'=>by
     obtain j|hj|rfl:=bX hx;have:=hn j _ (by rw[aB,<- lum,<- lup];rw[aB] at hj;exact hj) (ai hj) x hx';exact QT (Int.le_trans (hmax _ this) M9)
    exists #[_,_,rfl,.inl (bJ.of gm'),?_];rw[<- lum'];exists jC (λh1=>?_) (λh1=>?_)
    ·have n5:5 < mv.9:=by have:=of_decide_eq_true h1;lia
     exists #[b,4,rfl,B',(),(),λv H3 v0 v1 B3 u3=>?_];obtain v|rfl:=cO v0;obtain m3|p3|l3|g3|_|_|_|Gm3|_|_:=PQ'.upto u3 B' nb;obtain um3|gm3|qm3|_:=id Gm3;have lum3:=qm3.9;exists #[_,_,rfl,.inl (bJ.of gm3),?_];rw[<- lum3];exists dw λl4 H4 s4 n4 g4=>?_
     exists #[b,2,rfl,B3.same s4,(),(),λv2 H5 v20 v21 B5 u5=>?_];have g5:=u5.other (λz=>B3.at (by rw[<- z];exact n4)) g4;obtain x|ex|mx|_:=kT (xs:=[V.int (v:Int),V.int (mv.9:Int)]) v20 (by simpa using v21);exists cy (bJ.of g5) ex ?_;have u05:=(u0.trans (u3.same s4)).trans u5;simp only[aI,aT,or_false] at mx;rcases mx with rfl | rfl
     ·exact k v H5 #[(),.inl ()] B5 u05
     ·exact k mv.9 H5 #[(),.inr #[sm,λ_=>ar _,λ_ _=>Eo _]] B5 u05
    ·have n5:mv.9<=5:=by rw[decide_eq_true_eq] at h1;lia
     exists #[_,_,rfl,.inl (bJ.of gm'),?_];rw[<- lum'];have last:∀(Hx:Hp),iq Hx b->cM b H Hx->∀(v:Nat),v < 2+mv.9->Q (.int v) Hx:=λHx Bx ux v hv=>k v Hx #[(),.inr #[sm,λz=>(),λ_ _=>()]] Bx ux
     exists jC (λh2=>?_) (λh2=>?_)
     ·have n3':mv.9 < 3:=by have:=of_decide_eq_true h2;lia
      exists #[b,8,rfl,B',(),(),λv H3 v0 v1 B3 u3=>?_];exists jC (λh3=>?_) (λh3=>?_)
      ·exists #[b,13,rfl,B3,(),(),λv4 H4 v40 v41 B4 u4=>?_];obtain v4|rfl:=cO v40;exact k v4 H4 #[(),.inr #[sm,λz=>(),λz _=>()]] B4 ((u0.trans u3).trans u4)
      ·obtain m3|p3|l3|g3|_|_|_|Gm3|_|_:=PQ'.upto u3 B' nb;obtain um3|gm3|qm3|_:=id Gm3;have lum3:=qm3.9;exists #[_,_,rfl,.inl (bJ.of gm3),?_];rw[<- lum3];walk_at "w";rw[show ((2:Int)+(mv.9:Int))=((2+mv.9:Nat):Int) by lia];refine #[b,2+mv.9,rfl,B3,(),(),λv4 H4 v40 v41 B4 u4=>?_];obtain v4|rfl:=cO v40;exact last H4 B4 ((u0.trans u3).trans u4) v4 ()
     ·exists #[_,_,rfl,.inl (bJ.of gm'),?_];rw[<- lum'];walk_at "w";rw[show ((2:Int)+(mv.9:Int))=((2+mv.9:Nat):Int) by lia];refine #[b,2+mv.9,rfl,B',(),(),λv4 H4 v40 v41 B4 u4=>?_];obtain v4|rfl:=cO v40;exact last H4 B4 (u0.trans u4) v4 ()
theorem HV:∃x1 x2 x3 x4 x5 x6 x7 x8 x9:Expr,x1=(Expr.Constant (Const.int 8) 0 #[399,60,399,61])/\x2=(Expr.Constant (Const.int 8) 0 #[399,63,399,64])/\x3=(Expr.Constant (Const.int 8) 0 #[399,66,399,67])/\x4=(Expr.Constant (Const.int 5) 0 #[399,69,399,70])/\x5=(Expr.Constant (Const.int 4) 0 #[399,72,399,73])/\x6=(Expr.Constant (Const.int 3) 0 #[399,75,399,76])/\x7=(Expr.Constant (Const.int 2) 0 #[399,78,399,79])/\x8=(Expr.Constant (Const.int 2) 0 #[399,81,399,82])/\x9=(Expr.Constant (Const.int 2) 0 #[399,84,399,85])/\fN rO=[ (Stmt.Return (value:=(some (Expr.Call (func:=(Expr.Name "min" #[399,11,399,14])) (args:=[ (Expr.Call (func:=(Expr.Name "_law_steps" #[399,15,399,25])) (args:=[(Expr.Name "_law_bag_here" #[399,26,399,39]),(Expr.Name "_law_parts_here" #[399,41,399,56])]) (keywords:=[]) (pos:=#[399,15,399,57])),(Expr.Subscript (value:=(Expr.List (elts:=[x1,x2,x3,x4,x5,x6,x7,x8,x9]) (pos:=#[399,59,399,86]))) (slice:=(Expr.Call (func:=(Expr.Name "len" #[399,87,399,90])) (args:=[ (Expr.Subscript (value:=(Expr.Name "_law_parts_here" #[399,91,399,106])) (slice:=(Expr.Constant (Const.int 0) 0 #[399,107,399,108])) (pos:=#[399,91,399,109]))]) (keywords:=[]) (pos:=#[399,87,399,110]))) (pos:=#[399,59,399,111]))]) (keywords:=[]) (pos:=#[399,11,399,112])))) (pos:=#[399,4,399,112]))]:=#[_,_,_,_,_,_,_,_,_,rfl,rfl,rfl,rfl,rfl,rfl,rfl,rfl,rfl,by with_unfolding_all rfl]
theorem GO:ba ["_law_bag_here","_law_parts_here"] ["_law_bag_here","_law_parts_here"] (aM rO):=by walk_at "d"
theorem G0 (T:Txt K mg Z) (ptree:P.given.tree=none):cQ P w K mg base iJ 3 Z.CN Z.Cq ["_law_bag_here","_law_parts_here"] (MX K):=by
 have FT:=De (P:=P) (w:=w) (base:=base) T ptree;refine T.uI.F.ok GO (λvs H Q E h=>?_) (λcdv A outer s H vs Q E hr h=>?_)
 ·obtain b|r|H0|mv|pt|lk|rfl|_:=h;rfl
 ·obtain b|r|H0|mv|pt|lk|rfl|B|nb|P|D|sz|k:=h;obtain x1|x2|x3|x4|x5|x6|x7|x8|x9|hx1|hx2|hx3|hx4|hx5|hx6|hx7|hx8|hx9|hbd:=HV;rw[hbd];refine #[_,(az (a8 (bG (qR rfl) (by rfl) T.min PyProof.Rows.boot_min (aa (cK FT hr T.pV (aa (pv 0) (aa (pv 1) ag))) (aa (aU bz (d6 (c6 hx1 ak (c6 hx2 ak (c6 hx3 ak (c6 hx4 ak (c6 hx5 ak (c6 hx6 ak (c6 hx7 ak (c6 hx8 ak (c6 hx9 ak ag)))))))))) (bG bw (by rfl) T.len bc (aa (aU bP (pv 1) ak) ag))) ag))))),?_];refine aX (σ:=[some (.ref b),some (.ref r)]) rfl ?_;have d8:=D.n8;exists #[b,r,H0,mv,pt,lk,rfl,B,nb,P,D,sz,λtt H1 hT B1 u1=>?_];obtain m|p|l|gt|mn|pn|ln|Gm|Gp|Gl:=P.upto u1 B nb;obtain um|gm|qm|_:=id Gm;have lum:=qm.9;exists dw λl2 H2 s2 n2 g2=>?_
  have gt2:=s2 _ _ gt;exists #[_,_,rfl,.inl (bJ.of (s2 _ _ gm)),?_];rw[<- lum];obtain v|ev|v8|v4|v5|v6:=TN mv.9 d8;exists cy (bJ.of g2) (eO ev) ?_;walk_at "w";rw[show (if (v:Int) < (tt:Int) then (v:Int) else (tt:Int))=((min tt v:Nat):Int) by split <;> lia];refine k (min tt v) H2 #[hT.less (),(),λh=>?_,λh=>by have:=v5 h;lia,λh=>by have:=v6 h;lia] (B1.same s2) (u1.same s2);by_cases z:4<=mv.9
  ·have:=v4 z;lia
  ·obtain ⟨_,y | ⟨_,_,y⟩⟩:=hT
   ·lia
   ·have:=y h ();lia
theorem ji:ba ["_law_weights_here","_law_puts_here","_law_total","_law_row_here","_law_k"] ["_law_weights_here","_law_puts_here"] (aM pL):=by walk_at "d"
theorem BO (T:Txt K mg Z) (ptree:P.given.tree=none):cQ P w K mg base iJ 3 Z.vW Z.vP ["_law_weights_here","_law_puts_here"] (IJ K):=by
 have gP:=mJ (P:=P) (w:=w) (base:=base) T ptree;have ie:=mZ (P:=P) (w:=w) (base:=base) T ptree;refine T.jo.F.ok ji (λvs H Q E h=>?_) (λcdv A outer s H vs Q E hr h=>?_)
 ·obtain p|q|ws|rows|H0|rfl|_:=h;rfl
 ·obtain p|q|ws|rows|H0|rfl|hp|hq|hl|hf|k:=h
  refine #[_,(au (aZ (i:=2) ji.nd rfl (Or.inl rfl) (cP (aa ak (aa ak ag))))
   (au (dW PassesOwn.never rfl (b7 (pv 1)) (aN (i:=3) ji.nd)
    (az (dW PassesOwn.never rfl (cC rfl T.range (aa (bG bw (by rfl) T.len bc (aa (pv 3) ag)) ag)) (aN (i:=4) ji.nd)
    (az (aZ (i:=2) ji.nd rfl (Or.inl rfl) (cK gP hr T.hR (aa (pv 2) (aa (cK ie hr T.hX (aa (aU bz (pv 0) (pv 4)) (aa (cK ie hr T.hX (aa (aU bz (pv 3) (pv 4)) (aa (aU bz (pv 3) (pv 4)) ag))) ag))) ag))))))))
   (az (a8 (pv 2))))),?_]
  refine aX (σ:=[some (.ref p),some (.ref q),none,none,none]) rfl ?_;obtain _|_|_|_|_|_|_|_|_|_|_|_|h8|l20:=id hf;obtain xs|gx|qx|_:=id hq;obtain us|gu|qu:=id hp;have lx:=qx.9;exists b6 λr0 H1 s1 g1=>?_
  exists #[#[_,bJ.of (s1 _ _ gx)],?_];refine ib (K:=K) (a:=q) (xs:=xs) (λi σ' H'=>aA H H'/\∃(r:V) (x y:Option V),σ'=[some (.ref p),some (.ref q),some r,x,y]/\bS K H' (mU ws (rows.take i)) r) #[s1,_,none,none,rfl,bS.mk g1 rfl] (λi σ' H' _ #[s,_]=>bJ.of (s _ _ gx)) ?_ ?_
  ·rintro i x σ' H' hx ⟨s,r,x1,y1,rfl,nr⟩;obtain qs|eq|t|rfl|_|Rt:=cE qx hx;have hm:=ao eq;obtain zs|gz|qz:=id Rt;have lz:=qz.9;have lq:=hl qs hm;exists #[_,_,rfl,.inl (bJ.of (s _ _ gz)),?_];exists #[(),(),?_];refine eH (n:=zs.9) (λj σ' H'=>aA H H'/\∃(r:V) (y:Option V),σ'=[some (.ref p),some (.ref q),some r,some (.ref t),y]/\bS K H' (mU ws (rows.take i)+d9 (ws.take j) ((ju qs).take j)) r) #[s,_,_,rfl,by rw[show d9 (ws.take 0) ((ju qs).take 0)=0 by simp [d9],dc];exact nr] ?_ ?_
   ·rintro j σ' H2 hj ⟨s2,r2,y2,rfl,n2⟩;have jw:j < ws.9:=()
    have jq:j < qs.9:=()
    obtain vw|ew|nw:=Kt (Paired.imp' (λ_ _ z=>z.same s2) qu) jw;obtain vx|ex|nx:=Kt (Paired.imp' (λ_ _ z=>z.same s2) qz) jq;obtain z1|z2|z3|z4:=hf.num hm (getD_mem jq) (getD_mem jw);exists cy (bJ.of (s2 _ _ gu)) ew ?_;exists cy (bJ.of (s2 _ _ gz)) ex ?_;exists cy (bJ.of (s2 _ _ gz)) ex ?_;exists #[_,_,_,_,rfl,nx,nx,z1,z1,λr3 H3 s3 n3=>?_];exists #[_,_,_,_,rfl,nw.same s3,n3,z2,z3,λr4 H4 s4 n4=>?_];exists #[_,_,_,_,rfl,(n2.same s3).same s4,n4,hf.take i j qs hm,z4,λr5 H5 s5 n5=>?_];exists #[((s2.trans s3).trans s4).trans s5,_,_,rfl,?_];rw[yY () (by unfold ju;rw[af];lia),<- Uy]
    have e:(ju qs).getD j 0=qs.getD j 0*qs.getD j 0:=by
     unfold ju;rw[getD_map jq,ae,ai jq];rfl
    rw[e];exact n5
   ·rintro σ' H2 ⟨s2,r2,y2,rfl,n2⟩;rw[aD (show ws.9<=zs.9 by lia),aD (show (ju qs).9<=zs.9 by unfold ju;rw[af];lia)] at n2;exact #[s2,_,_,_,rfl,by rw[take_snoc eq,Fz];exact n2]
  ·rintro σ' H' ⟨s,r,x1,y1,rfl,nr⟩;rw[aD ()] at nr;obtain t|rfl|ht:=nr;exists k _ H' s #[t,rfl,ht]
theorem oJ:ba ["_law_one","_law_other","_law_total","_law_k"] ["_law_one","_law_other"] (aM wD):=by walk_at "d"
theorem zE (T:Txt K mg Z) (ptree:P.given.tree=none):cQ P w K mg base iJ 3 Z.CO Z.Cr ["_law_one","_law_other"] (EF K):=by
 have gP:=mJ (P:=P) (w:=w) (base:=base) T ptree;have ie:=mZ (P:=P) (w:=w) (base:=base) T ptree;refine T.oS.F.ok oJ (λvs H Q E h=>?_) (λcdv A outer s H vs Q E hr h=>?_)
 ·obtain p|q|xs|ys|rfl|_:=h;rfl
 ·obtain p|q|xs|ys|rfl|hp|hq|hl|hz|⟨k1,j1,k2,j2,h1,h2,hkj⟩|kk:=h
  refine #[_,(au (aZ (i:=2) oJ.nd rfl (Or.inl rfl) (cP (aa ak (aa ak ag))))
   (au (dW PassesOwn.never rfl (cC rfl T.range (aa (bG bw (by rfl) T.len bc (aa (pv 0) ag)) ag)) (aN (i:=3) oJ.nd)
    (az (aZ (i:=2) oJ.nd rfl (Or.inl rfl) (cK gP hr T.hR (aa (pv 2) (aa (cK ie hr T.hX (aa (aU bz (pv 0) (pv 3)) (aa (aU bz (pv 1) (pv 3)) ag))) ag))))))
   (az (a8 (pv 2))))),?_]
  refine aX (σ:=[some (.ref p),some (.ref q),none,none]) rfl ?_;obtain us|gu|qu:=id hp;obtain ws|gw|qw:=id hq;have lu:=qu.9;have lw:=qw.9;exists b6 λr0 H0 s0 g0=>?_
  exists #[_,_,rfl,.inl (bJ.of (s0 _ _ gu)),?_];exists #[(),(),?_];refine eH (n:=us.9) (λi σ' H'=>aA H H'/\∃(r:V) (v:Option V),σ'=[some (.ref p),some (.ref q),some r,v]/\bS K H' (d9 (xs.take i) (ys.take i)) r) #[s0,_,none,rfl,bS.mk g0 rfl] ?_ ?_
  ·rintro i σ' H' hi ⟨s,r,v,rfl,hr⟩;have ix:i < xs.9:=()
   have iy:i < ys.9:=()
   obtain vx|ex|nx:=Kt (Paired.imp' (λ_ _ z=>z.same s) qu) ix;obtain vy|ey|ny:=Kt (Paired.imp' (λ_ _ z=>z.same s) qw) iy;exists cy (bJ.of (s _ _ gu)) ex ?_;exists cy (bJ.of (s _ _ gw)) ey ?_;exists #[_,_,_,_,rfl,nx,ny,h1.szn (getD_mem ix) (),h2.szn (getD_mem iy) (),λr3 H3 s3 n3=>?_];exists #[_,_,_,_,rfl,hr.same s3,n3,HI h1 h2 hz i hkj,NL (h1.one (getD_mem ix)) (h2.one (getD_mem iy)) hkj,λr4 H4 s4 n4=>?_];exists #[(s.trans s3).trans s4,_,_,rfl,by rw[yY ix iy];exact n4]
  ·rintro σ' H' ⟨s,r,v,rfl,hr⟩;rw[aD (),aD ()] at hr;obtain t|rfl|ht:=hr;exists kk _ H' s #[t,rfl,ht]
theorem IM:ba ["_law_grid","_law_row_here"] ["_law_grid","_law_row_here"] (aM yF):=by walk_at "d"
theorem BL (T:Txt K mg Z) (ptree:P.given.tree=none):cQ P w K mg base iJ 4 Z.Ei Z.DZ ["_law_grid","_law_row_here"] (J7 K):=by
 have wZ:=zE (P:=P) (w:=w) (base:=base) T ptree;refine T.rZ.F.ok IM (λvs H Q E h=>?_) (λcdv A outer s H vs Q E hr h=>?_)
 ·obtain p|q|H0|rows|ys|rfl|_:=h;rfl
 ·obtain p|q|H0|rows|ys|rfl|hp|hq|hz|hl|hr1|kk:=h;refine #[_,(az (a8 (b8 ["_law_one"] ["_law_row_here"] [1] (b7 (pv 0)) (λ_=>(aN (i:=0) (show ND9 ["_law_one","_law_row_here"] by decide +kernel))) (λ_=>cb) (λ_=>(cK wZ hr T.oS (aa (pv 0) (aa (pv 1) ag))))))),?_];refine aX (σ:=[some (.ref p),some (.ref q)]) rfl ?_;obtain xs|gx|qx|_:=id hp;exists #[#[_,bJ.of gx],?_];refine cL (K:=K) (F:=dF K H0) (bS K) (λxs=>d9 xs ys) gx qx hz (λa b=>a.same b) (λa b=>a.same b) ?_ ?_
  ·rintro i ns x H' NY NN en s ⟨u,rfl,_,hu⟩ k;obtain e1|e2:=hr1 ns (ao en);exists #[u,q,ns,ys,rfl,hu,hq.same s,e1.symm,(),e2,λr H2 s2 h2'=>k _ _ s2 h2']
  ·rintro ys' H' r hr s g pr nx;exact kk r H' hr s #[ys',g,pr]
theorem iO:ba ["_law_parts_here","_law_state","_law_puts_here","_law_move_here","_law_put","_law_look","_law_found","_law_k"] ["_law_parts_here","_law_state","_law_puts_here"] (aM uk):=by walk_at "d"
theorem Ff (T:Txt K mg Z) (ptree:P.given.tree=none):cQ P w K mg base iJ 5 Z.Af Z.zQ ["_law_parts_here","_law_state","_law_puts_here"] (Gv K):=by
 have zj:=BL (P:=P) (w:=w) (base:=base) T ptree;have uZ:=xC (P:=P) (w:=w) (base:=base) T ptree;have zo:=BQ (P:=P) (w:=w) (base:=base) T ptree;refine T.so.F.ok iO (λvs H Q E h=>?_) (λcdv A outer s H vs Q E hr h=>?_)
 ·obtain r|s0|u0|H0|mv|pt|lk|st|pu|rfl|_:=h;rfl
 ·obtain r|s0|u0|H0|mv|pt|lk|st|pu|rfl|PQ|D|hs|hu|l1|l2|NX|k:=h
  refine #[_,(au (iE (pv 0) (yK rfl (cZ (aN (i:=3) iO.nd) (cZ (aN (i:=4) iO.nd) (cZ (aN (i:=5) iO.nd) kF)))))
   (au (aZ (i:=6) iO.nd rfl (Or.inl rfl) (cK zj hr T.rZ (aa (pv 3) (aa (pv 1) ag))))
   (au (dW PassesOwn.never rfl (cC rfl T.range (aa (bG bw (by rfl) T.len bc (aa (pv 4) ag)) ag)) (aN (i:=7) iO.nd)
    (az (aZ (i:=6) iO.nd rfl (Or.inl rfl) (cK uZ hr T.ni (aa (pv 6) (aa (cK zo hr T.sN (aa (aU bz (pv 2) (pv 7)) (aa (aU bz (pv 4) (pv 7)) ag))) ag))))))
   (az (a8 (pv 6)))))),?_]
  refine aX (σ:=[some (.ref r),some (.ref s0),some (.ref u0),none,none,none,none,none]) rfl ?_;obtain m|p|l|g|n1|n2|n3|Gm|Gp|Gl:=id PQ;have d1:=D.n8;have d2:=D.i4;exists #[m,s0,H0,mv,st,rfl,Gm,hs,(),(),λxs hx=>#[by rw[D.mw xs hx,l1],NX.f2 xs hx],λf H1 nf s1 R1=>?_];obtain ps|gp|qp|_:=Gp.same s1;have lp:=qp.9;exists #[_,_,rfl,.inl (bJ.of gp),?_];exists #[(),(),?_];refine eH (n:=ps.9) (λkk σ' H'=>∃(f:Addr) (x:Option V),σ'=[some (.ref r),some (.ref s0),some (.ref u0),some (.ref m),some (.ref p),some (.ref l),some (.ref f),x]/\H f=none/\aA H1 H'/\cu K H' f (nextK mv pt st pu kk)) #[f,none,rfl,nf,aA.refl _,by rw[Jf];exact R1] ?_ ?_
  ·rintro kk σ' H' hk ⟨f',x,rfl,nf',s',R'⟩;have kp:kk < pt.9:=()
   have ku:kk < pu.9:=()
   obtain zs|gz|qz:=(hu.same s1).same s';have lz:=qz.9;obtain vu|eu|nu:=Kt qz ku;obtain row|vr|er|ev|mr|q|rfl|_|Rq:=lK qp kp
   have er':pt[kk]=row:=by
    rw[ai kp] at er;exact cm er
   have eu':pu.getD kk 0=pu[kk]:=by rw[ae,ai ku];rfl
   have mu:pu.getD kk 0∈pu:=getD_mem ku;exists cy (bJ.of gz) eu ?_;exists cy (bJ.of (s' _ _ gp)) (eO ev) ?_;exists #[vu,q,_,row,rfl,nu,NX.su _ mu,Rq.same s',by rw[D.pw row mr];lia,NX.sp row mr,λr1 H2 n1' s2 R2=>?_];exists #[f',r1,_,_,rfl,R'.same s2,R2,by rw[af,kg,D.pw row mr],by rw[kg];lia,NX.part kk,λy hy=>?_,λr2 H3 n2' s3 R3=>?_]
   ·obtain y'|hy'|rfl:=av.mp hy;exact NX.mul _ mu row mr y' hy'
   ·exists #[s1.none (s'.none (s2.none n2')),(s'.trans s2).trans s3,?_];have e:=Jg (st:=st) (pu:=pu) (λxs hx=>by rw[D.mw xs hx,l1]) kp ku (by rw[er'];exact D.pw row mr);rw[er',<- eu'] at e;rw[<- e];exact R3
  ·rintro σ' H' ⟨f',x,rfl,nf',s',R'⟩;rw[vm () ()] at R';exists k f' H' nf' (s1.trans s') R'
theorem jx:ba ["_law_parts_here","_law_weights_here","_law_start","_law_puts_here","_law_total","_law_state","_law_row_here"] ["_law_parts_here","_law_weights_here","_law_start","_law_puts_here"] (aM uw):=by walk_at "d"
theorem xF (T:Txt K mg Z) (ptree:P.given.tree=none):cQ P w K mg base iJ 6 Z.Al Z.zV ["_law_parts_here","_law_weights_here","_law_start","_law_puts_here"] (DM K):=by
 have qj:=BO (P:=P) (w:=w) (base:=base) T ptree;have gP:=mJ (P:=P) (w:=w) (base:=base) T ptree;have Il:=Ff (P:=P) (w:=w) (base:=base) T ptree;refine T.kO.F.ok jx (λvs H Q E h=>?_) (λcdv A outer s H vs Q E hr h=>?_)
 ·obtain r|rt|s|p|H0|H1|mv|pt|lk|qs|rs|fs|st|pus|tt|rfl|_:=h;rfl
 ·obtain r|rt|s|p|H0|H1|mv|pt|lk|qs|rs|fs|st|pus|tt|rfl|PQ|D|RT|Rs|Gp|L|k:=h
  refine #[_,(au (aZ (i:=4) jx.nd rfl (Or.inl rfl) (cK qj hr T.jo (aa (aU bz (pv 1) ak) (aa (pv 3) ag))))
   (au (aZ (i:=5) jx.nd rfl (Or.inl rfl) (eI iS (by rfl) T.list PyProof.Rows.boot_list (aa (pv 2) ag)))
   (au (dW PassesOwn.never rfl (b7 (pv 3)) (aN (i:=6) jx.nd)
    (au (aZ (i:=4) jx.nd rfl (Or.inl rfl) (cK gP hr T.hR (aa (pv 4) (aa (cK qj hr T.jo (aa (aU bz (pv 1) ak) (aa (d6 (aa (pv 5) ag)) ag))) ag))))
   (az (aZ (i:=5) jx.nd rfl (Or.inl rfl) (cK Il hr T.so (aa (pv 0) (aa (pv 5) (aa (pv 6) ag))))))))
   (az (a8 (cK gP hr T.hR (aa (pv 4) (aa (cK qj hr T.jo (aa (aU bz (pv 1) ak) (aa (d6 (aa (pv 5) ag)) ag))) ag)))))))),?_]
  refine aX (σ:=[some (.ref r),some (.ref rt),some (.ref s),some (.ref p),none,none,none]) rfl ?_;have d8:=D.n8;have i4:=D.i4;have t8:=L.t8;obtain a1|a2|a3|gr|R1|R2|R3:=id RT;obtain zs|gz|qz:=id Rs;obtain us|gu|qu|_:=id Gp;have lu:=qu.9;rw[L.lt] at lu;exists #[a2,p,rs,pus,H1,rfl,R2,Gp,λxs hx=>by rw[L.wp xs hx,L.lr],L.e1,λr2 Ha s2 N2=>?_];exists #[s,zs,rfl,.inl (bJ.of (s2 _ _ gz)),λc3 n3=>?_];have s3:aA Ha (upd Ha c3 (.lst zs)):=aA.new n3;have g3:(upd Ha c3 (.lst zs)) c3=some (.lst zs):=aK;generalize upd Ha c3 (.lst zs)=Hb at s3 g3 ⊢;have s03:=s2.trans s3;have R4:cu K Hb c3 st:=#[zs,g3,Paired.imp' (λ_ _ z=>z.same s03) qz];exists #[#[_,bJ.of (s03 _ _ gu)],?_];refine ib (K:=K) (a:=p) (xs:=us) (λi σ' H'=>aA H H'/\∃t c y,σ'=[some (.ref r),some (.ref rt),some (.ref s),some (.ref p),some t,some (.ref c),y]/\bS K H' (ltQ mv pt qs rs st pus i) t/\cu K H' c (jS mv pt st pus i)) #[s03,_,c3,_,rfl,N2.same s3,R4] (λi σ' H' _ #[s,_]=>bJ.of (s _ _ gu)) ?_ ?_
  ·rintro i v σ' H' hv ⟨s',t,c,y,rfl,Nt,Rc⟩;obtain pu|epu|q|rfl|_|Rq:=cE (Paired.imp' (λ_ _ z=>dF.same z s') qu) hv;have hi:i < tt:=by have:=(aR.mp epu).1;rw[L.lt] at this;exact this
   have eg:pus.getD i []=pu:=by rw[ae,epu];rfl
   have gr':=s' _ _ gr;exists dw λq5 Hc s5 n5 g5=>?_
   obtain zc|gzc|_:=id Rc
   have G5:bQ K (λ_=>none) Hc q5 [jS mv pt st pus i]:=#[_,g5,.cons #[c,rfl,rfl,Rc.same s5] .nil,λz=>by
    have e:q5=c:=by simpa using z
    rw[e,gzc] at n5;cases n5]
   exists #[a1,q5,qs,_,_,rfl,(R1.same s').same s5,G5,λxs hx=>by rw[bg.mp hx,L.la i (aL hi),L.lq],L.e2 i (aL hi),λr6 Hd s6 N6=>?_];exists #[_,_,_,_,rfl,(Nt.same s5).same s6,N6,L.lz i (aL hi),(L.e2 i (aL hi)).szn,λr7 He s7 N7=>?_];have s57:=(s5.trans s6).trans s7;have NX:=L.nx i hi;rw[eg] at NX;exists #[r,c,q,H0,mv,pt,lk,_,_,rfl,PQ.same (s'.trans s57),D,Rc.same s57,Rq.same s57,L.la i (aL hi),L.wp pu (ao epu),NX,λt8 Hf n8 s8 R8=>?_];refine #[(s'.trans s57).trans s8,_,_,_,rfl,N7.same s8,?_];rw[qC epu];exact R8
  ·rintro σ' H' ⟨s',t,c,y,rfl,Nt,Rc⟩;rw[<- lu] at Nt Rc;have gr':=s' _ _ gr;exists dw λq5 Hc s5 n5 g5=>?_
   obtain zc|gzc|_:=id Rc
   have G5:bQ K (λ_=>none) Hc q5 [jS mv pt st pus tt]:=#[_,g5,.cons #[c,rfl,rfl,Rc.same s5] .nil,λz=>by
    have e:q5=c:=by simpa using z
    rw[e,gzc] at n5;cases n5]
   exists #[a3,q5,fs,_,_,rfl,(R3.same s').same s5,G5,λxs hx=>by rw[bg.mp hx,L.la tt (ar _),L.lf],L.e3,λr6 Hd s6 N6=>?_];exists #[_,_,_,_,rfl,(Nt.same s5).same s6,N6,L.lz tt (ar _),L.e3.szn,λr7 He s7 N7=>?_];exact k r7 He (((s'.trans s5).trans s6).trans s7) N7
theorem Bg:ba ["grid","wide"] ["grid","wide"] (aM pG):=by walk_at "d"
theorem uF (T:Txt K mg Z) (ptree:P.given.tree=none):cQ P w K mg base iJ 1 Z.vR Z.vK ["grid","wide"] (Gh K):=by
 refine T.kJ.F.ok Bg (λvs H Q E h=>?_) (λcdv A outer s H vs Q E hr h=>?_)
 ·obtain p|w|H0|rows|rfl|_:=h;rfl
 ·obtain p|w|H0|rows|rfl|hp|hz|hw|hl|kk:=h;refine #[_,(az (a8 (b8 ["place"] ["grid"] [0] (cC rfl T.range (aa (pv 1) ag)) (λ_=>(aN (i:=0) (show ND9 ["place","grid"] by decide +kernel) rfl (Or.inr rfl) (Or.inl rfl))) (λ_=>cb) (λ_=>(b8 ["line"] ["place"] [0] (nR K (pv 1)) (λ_=>(aN (i:=0) (show ND9 ["line","place"] by decide +kernel))) (λ_=>cb) (λ_=>(aU (mL K (by rfl)) (pv 0) (pv 1)))))))),?_];refine aX (σ:=[some (.ref p),some (.int w)]) rfl ?_;exists #[(),(),?_];refine kh (n:=w) (dF K H) (λj=>rows.map λxs=>xs.getD j 0) hw (λa b=>a.same b) ?_ ?_
  ·rintro j H1 NY NN hj s1 k1;obtain xs|gx|qx|_:=hp.same s1;exists #[#[_,bJ.of gx],?_];refine cL (K:=K) (F:=dF K H0) (bS K) (λxs=>xs.getD j 0) gx qx hz (λa b=>a.same b) (λa b=>a.same b) ?_ ?_
   ·rintro i ns x H2 NY2 NN2 en s2 ⟨u,rfl,_,zs,gz,qz⟩ k2;obtain v|ev|hv:=Kt qz (j:=j) (by rw[hl ns (ao en)];exact hj);exists cy (bJ.of gz) ev ?_;exact k2 _ _ (aA.refl _) hv
   ·rintro ys' H2 r hr s2 g pr nx;exact k1 _ _ s2 #[r,rfl,s1.none hr,ys',g,pr]
  ·rintro ys' H1 r hr s1 g pr nx;exact kk r H1 hr s1 #[ys',g,pr,oO nx]
theorem qD:ba ["top","bottom","divisor"] ["top","bottom"] (aM Bl):=by walk_at "d"
theorem qH (T:Txt K mg Z) (ptree:P.given.tree=none):cQ P w K mg base iJ 2 Z.HX Z.HL ["top","bottom"] Ln:=by
 have eV:=ja (P:=P) (w:=w) (base:=base) T ptree;refine T.lN.F.ok qD (λvs H Q E h=>?_) (λcdv A outer s H vs Q E hr h=>?_)
 ·obtain t|b|rfl|_:=h;rfl
 ·obtain t|b|rfl|hb|hs|k:=h
  refine #[_,(au (aZ (i:=2) qD.nd rfl (Or.inl rfl) (cK eV hr T.fM (aa (pv 0) (aa (pv 1) ag))))
   (au (dO (bC vF (pv 1) ak (bI _)) (az (aZ (i:=2) qD.nd rfl (Or.inl rfl) (vC pB (pv 2)))) ck)
   (az (a8 (cP (aa (bA (hJ rfl qD rfl rfl rfl ptree (oU hr)) (pv 0) (pv 2)) (aa (bA (hJ rfl qD rfl rfl rfl ptree (oU hr)) (pv 1) (pv 2)) ag))))))),?_]
  refine aX (σ:=[some (.int t),some (.int b),none]) rfl ?_;exists #[t,b,rfl,?_];have hg:=Cb (t:=t) hb
  have hgs:Sz 8999000 (g t b):=hs.le (by
   have h1:(g t b).natAbs=Int.gcd t b:=by unfold g;simp
   rw[h1];exact ks () (by have:=fV (a:=t) (b:=b);exact gI.mpr this |> λz=>by simpa using z))
  have hgn:g (-t) (-b)=g t b:=by unfold g;rw[Int.gcd_neg,Int.neg_gcd]
  exists jC (λh=>?_) (λh=>?_)
  ·have hb0:b < 0:=of_decide_eq_true h;exists fD (show oB _ _ from #[(),hgs.neg]) ?_;exists fD (show oB _ _ from #[(),hgs.neg]) ?_;exists b6 λr H' s' h'=>?_
   have e1:t.fdiv (-g t b)=lo (-t) (-b):=by
    unfold Nm.lo;rw[hgn,<- bK _ (),<- Int.neg_fdiv_neg (-t),OZ]
   have e2:b.fdiv (-g t b)=hi (-t) (-b):=by
    unfold Nm.hi;rw[hgn,<- bK _ (),<- Int.neg_fdiv_neg (-b),OZ]
   exact k r H' s' (by rw[if_pos hb0,if_pos hb0,<- e1,<- e2];exact h')
  ·have hb0:¬b < 0:=λz=>h (decide_eq_true z)
   exists fD (show oB _ _ from #[(),hgs]) ?_;exists fD (show oB _ _ from #[(),hgs]) ?_;exists b6 λr H' s' h'=>?_
   rw[bK _ (),bK _ ()] at h';exact k r H' s' (by rw[if_neg hb0,if_neg hb0];exact h')
theorem jg:ba ["one","other","one_bottom","other_bottom","pairs"] ["one","other"] (aM yD):=by walk_at "d"
theorem BI (T:Txt K mg Z) (ptree:P.given.tree=none):cQ P w K mg base iJ 4 Z.za Z.yZ ["one","other"] (EF K):=by
 have c7:=iF (P:=P) (w:=w) (base:=base) T ptree;have fH:=kG (P:=P) (w:=w) (base:=base) T ptree;have kZ:=qH (P:=P) (w:=w) (base:=base) T ptree;refine T.lM.F.ok jg (λvs H Q E h=>?_) (λcdv A outer s H vs Q E hr h=>?_)
 ·obtain p|q|xs|ys|rfl|_:=h;rfl
 ·obtain p|q|xs|ys|rfl|hp|hq|hl|hz|⟨k1,j1,k2,j2,h1,h2,hkj⟩|kk:=h
  refine #[_,(au (aZ (i:=2) jg.nd rfl (Or.inl rfl) (cK c7 hr T.dJ (aa (pv 0) ag)))
   (au (aZ (i:=3) jg.nd rfl (Or.inl rfl) (cK c7 hr T.dJ (aa (pv 1) ag)))
   (au (aZ (i:=4) jg.nd rfl (Or.inl rfl) (BC rfl T.list rfl T.zip (aa (cK fH hr T.gE (aa (pv 0) (aa (pv 2) ag))) (aa (cK fH hr T.gE (aa (pv 1) (aa (pv 3) ag))) ag))))
   (az (a8 (cK kZ hr T.lN (aa (bG (Cw rfl) (by rfl) T.sum PyProof.Rows.boot_sum (aa (b8 ["mine","yours"] [] [] (b7 (pv 4)) (λ_=>(vh K 2 (cZ (aN (i:=0) (show ND9 ["mine","yours"] by decide +kernel)) (cZ (aN (i:=1) (show ND9 ["mine","yours"] by decide +kernel)) kF)))) (λ_=>cb) (λ_=>(bA cH (pv 0) (pv 1)))) ag)) (aa (bA cH (pv 2) (pv 3)) ag)))))))),?_]
  refine aX (σ:=[some (.ref p),some (.ref q),none,none,none]) rfl ?_;obtain M|h1:=h1.rowM ();obtain N|h2:=h2.rowM ();replace hp:=hp.rowK;replace hq:=hq.rowK;replace hl:(ys.map nm).9=(xs.map nm).9:=by simpa using hl
  replace hz:(xs.map nm).9<=1000:=by simpa using hz
  obtain b1|s1:=h1.bot;obtain b2|s2:=h2.bot;have k2:∀r H',aA H H'->H' r=some (.tup [.int (lo (Jw (xs.map nm) (ys.map nm)) (cI (xs.map nm)*cI (ys.map nm))),.int (hi (Jw (xs.map nm) (ys.map nm)) (cI (xs.map nm)*cI (ys.map nm)))])->Q (.ref r) H':=λr H' s g=>kk r H' s (bS.mk g (KH b1 b2))
  clear kk;generalize xs.map nm=ns at hp hq hl hz h1 h2 b1 b2 s1 s2 k2;generalize ys.map nm=ms at hp hq hl hz h1 h2 b1 b2 s1 s2 k2;have hb:0 < cI ns*cI ms:=fj b1 b2;exists #[p,ns,M,rfl,hp,hz,h1,λH1 t1=>?_];exists #[q,ms,N,rfl,hq.same t1,(),h2,λH2 t2=>?_];have u2:=t1.trans t2;exists #[p,ns,M,_,rfl,hp.same u2,hz,h1,b1,s1,λr1 H3 n3 t3 g3=>?_];exists #[q,ms,N,_,rfl,(hq.same u2).same t3,(),h2,b2,s2,λr2 H4 n4 t4 g4=>?_];exists #[r1,r2,_,_,rfl,bJ.of (t4 _ _ g3),bJ.of g4,by simp [cp,hl],λL ts H5 t5 n5 g5 pr=>?_];have lt:=pr.9;have ll:(cp ns (cI ns)).9=ns.9:=by simp [cp]
  have lm:(cp ms (cI ms)).9=ns.9:=by simp [cp,hl]
  rw[tN,af,af,ll,lm] at lt;exists #[#[_,bJ.of g5],?_];refine eS (K:=K) (xs:=ts) (λi ys H'=>H'=H5/\ys=((List.zipWith (λx y=>x*y) (cp ns (cI ns)) (cp ms (cI ms))).take i).map V.int) (aL (bD ())) #[rfl,rfl] (λi ys H' _ #[e,_]=>by subst e;exact bJ.of g5) ?_ ?_
  ·rintro i x ys H' hx hlen ⟨rfl,rfl⟩;obtain pq|epq|T|rfl|gT:=cE pr hx;obtain t|u|et|eu|rfl:=JM epq;exists fD (show fO _ _ from .inr #[_,_,tS h1 b1 s1 (ao et),tS h2 b2 s2 (ao eu),()]) ?_;have ez:(List.zipWith (λx y=>x*y) (cp ns (cI ns)) (cp ms (cI ms)))[i]?=some (t*u):=by rw[b9,et,eu]
   exact #[rfl,by rw[take_snoc ez];simp]
  ·rintro ys H' hy ⟨rfl,rfl⟩ l hl';exists #[l,List.zipWith (λx y=>x*y) (cp ns (cI ns)) (cp ms (cI ms)),rfl,bJ.of (by rw[aK,aD (by rw[bM];lia)]),?_];exists fD (show fO _ _ from .inr #[_,_,s1,s2,()]) ?_;exists #[_,_,rfl,(),(s1.mul s2).mono (),λr H6 t6 g6=>?_];rw[if_neg (),if_neg ()] at g6;exact k2 r H6 ((((u2.trans t3).trans t4).trans t5).trans ((aA.new hl').trans t6)) g6
theorem tE:ba ["self","state","puts","columns"] ["self","state","puts"] (aM iD):=by walk_at "d"
theorem tG (T:Txt K mg Z) (ptree:P.given.tree=none):cQ P w K mg base iJ 5 Z.oq Z.oi ["self","state","puts"] (DK K Z.a_System):=by
 have qe:=uF (P:=P) (w:=w) (base:=base) T ptree;have zg:=BI (P:=P) (w:=w) (base:=base) T ptree;refine T.va.ok tE (λvs H Q E h=>?_) (λcdv A outer s H vs Q E hr h=>?_)
 ·obtain x|p|q|H0|mv|pt|lk|st|pu|rfl|_:=h;rfl
 ·obtain x|p|q|H0|mv|pt|lk|st|pu|rfl|S|D|F|hp|hq|l1|l2|fs|k:=h
  refine #[_,(au (aZ (i:=3) tE.nd rfl (Or.inl rfl) (cK qe hr T.kJ (aa (fE (pv 0) rfl) (aa (fE (pv 0) rfl) ag))))
   (az (a8 (b8 ["line","column"] ["state","puts"] [1,2] (EZ rfl T.zip (aa (fE (pv 0) rfl) (aa (pv 3) ag))) (λ_=>(vh K 2 (cZ (aN (i:=0) (show ND9 ["line","column","state","puts"] by decide +kernel)) (cZ (aN (i:=1) (show ND9 ["line","column","state","puts"] by decide +kernel)) kF)))) (λ_=>cb) (λ_=>(cK zg hr T.lM (aa (bA pR (pv 0) (pv 1)) (aa (bA pR (pv 2) (pv 3)) ag)))))))),?_]
  refine aX (σ:=[some (.ref x),some (.ref p),some (.ref q),none]) rfl ?_;obtain dx|a|b|c|gx|n1|n2|n3|Ga|Gb|Gc:=id S;have d1:=D.n8;have d2:=D.i4;exists #[x,Z.a_System,dx,_,_,rfl,gx,T.cl_System,T.na_put,JQ,?_];exists #[x,Z.a_System,dx,_,_,rfl,gx,T.cl_System,T.na_states,AZ,?_];exists #[b,mv.9,H0,pt,rfl,Gb,(),(),D.pw,λt H1 nt s1 Gt=>?_];obtain as|ga|qa|_:=Ga.same s1;obtain ts|gt|qt|_:=id Gt;have la:=qa.9;have lt:=qt.9;rw[j5] at lt;have gx1:=s1 _ _ gx;exists #[x,Z.a_System,dx,_,_,rfl,gx1,T.cl_System,T.na_move,Ge,?_];exists #[#[_,bJ.of ga],#[_,bJ.of gt],?_];refine Cu (K:=K) (xs:=as) (ws:=ts) (λi ys H'=>aA H1 H'/\Paired (bS K H') ((gO mv pt st pu).take i) ys) (aL (bD ())) () #[aA.refl _,.nil] (λi ys H' _ #[s,_]=>#[bJ.of (s _ _ ga),bJ.of (s _ _ gt)]) ?_ ?_
  ·rintro i v1 v2 ys H' r h1 h2 hy ⟨s,pr⟩ hr;obtain line|el|u1|rfl|_|R1:=cE qa h1;obtain col|ec|u2|rfl|_|R2:=cE qt h2;have ml:=ao el;have mc:=ao ec;have sr:aA H' (upd H' r (.tup [.ref u1,.ref u2])):=aA.new hr;have gr:(upd H' r (.tup [.ref u1,.ref u2])) r=some (.tup [.ref u1,.ref u2]):=aK;have s2:=s.trans sr;generalize upd H' r (.tup [.ref u1,.ref u2])=H2 at sr gr s2 ⊢;have lc:col.9=pt.9:=qA col mc;have ll:line.9=mv.9:=D.mw line ml;obtain z1|g1|q1:=R1.same s2;obtain z2|g2|q2:=R2.same s2;have y1:=q1.9;have y2:=q2.9;exists pP g1 g2 (aL (bD ())) λc1 H3 s3 n3' g3=>?_
   have s13:=s2.trans s3;obtain z3|g4|q3:=(hp.same s1).same s13;obtain z4|g5|q4:=(hq.same s1).same s13;have y3:=q3.9;have y4:=q4.9;exists pP g4 g5 (aL (bD ())) λc2 H4 s4 n4 g6=>?_
   have s34:=s3.trans s4;exists #[c1,c2,line++col,st++pu,rfl,#[_,s4 _ _ g3,Paired.imp' (λ_ _ z=>z.same s34) (cA q1 q2)],#[_,g6,Paired.imp' (λ_ _ z=>z.same s4) (cA q3 q4)],by rw[aB,aB];lia,by rw[aB];lia,.sys ?_ fs,λr2 H5 s5 h5=>?_]
   ·refine F.fits λy hy=>?_
    rcases aw.mp hy with hy | hy
    ·exact .inl #[line,ml,hy]
    ·obtain j|_|rfl:=av.mp mc;obtain xs|hx|rfl:=av.mp hy;by_cases hj:j < xs.9
     ·refine .inr (.inl #[xs,hx,?_]);rw[ae,ai hj];exact bo hj
     ·exact .inr (.inr (.inr (by rw[ae,bE ()];rfl)))
   ·have em:(gO mv pt st pu)[i]?=some (d9 (line++col) (st++pu)):=by
     unfold gO;rw[b9,el,ec]
    refine #[((s2.trans s34).trans s5),?_];rw[take_snoc em];exact cA (Paired.imp' (λ_ _ z=>(z.same (sr.trans s34)).same s5) pr) (.cons h5 .nil)
  ·rintro ys H' hy ⟨s,pr⟩ l hl;have lm:(gO mv pt st pu).9=mv.9:=by unfold gO;rw[bM,j5];lia
   rw[aD ()] at pr;exact k l _ (s1.none (s.none hl)) ((s1.trans s).trans (aA.new hl)) #[ys,aK,Paired.imp' (λ_ _ z=>z.same (aA.new hl)) pr]
theorem yA:ba ["system","start","puts","states","row"] ["system","start","puts"] (aM Bo):=by walk_at "d"
theorem LH (T:Txt K mg Z) (ptree:P.given.tree=none):cQ P w K mg base iJ 6 Z.Ia Z.HP ["system","start","puts"] (A8 K Z.a_System):=by
 have oz:=tG (P:=P) (w:=w) (base:=base) T ptree;refine T.yP.F.ok yA (λvs H Q E h=>?_) (λcdv A outer s H vs Q E hr h=>?_)
 ·obtain x|s|p|H0|H1|mv|pt|lk|pus|st|rfl|_:=h;rfl
 ·obtain x|s|p|H0|H1|mv|pt|lk|pus|st|rfl|S|D|F|Rs|ls|Gp|lp|wp|cf|k:=h
  refine #[_,(au (aZ (i:=3) yA.nd rfl (Or.inl rfl) (d6 (aa (eI iS (by rfl) T.list PyProof.Rows.boot_list (aa (pv 1) ag)) ag)))
   (au (dW PassesOwn.never rfl (b7 (pv 2)) (aN (i:=4) yA.nd)
    (az (i8 (vD cN cX cW jB (pv 3) (aa (iP (pv 0) T.cl_System T.mT oz (hr.mono ()) T.oo .nil kd (aa (aU bz (pv 3) (vC pB ak)) (aa (pv 4) ag))) ag)))))
   (az (a8 (pv 3))))),?_]
  refine aX (σ:=[some (.ref x),some (.ref s),some (.ref p),none,none]) rfl ?_;have d1:=D.n8;obtain ss|gs|qs:=id Rs;obtain ps|gp|qp|_:=id Gp;have lps:=qp.9;exists #[s,ss,rfl,.inl (bJ.of gs),λc hc=>?_];have sc:aA H (upd H c (.lst ss)):=aA.new hc;have Rc:cu K (upd H c (.lst ss)) c st:=#[ss,aK,Paired.imp' (λ_ _ z=>z.same sc) qs];generalize upd H c (.lst ss)=Hc at sc Rc ⊢;exists dw λl Hl sl nl gl=>?_
  have hl0:=sc.none nl;have s0:=sc.trans sl;have cl:c≠l:=λz=>by obtain _|g|_:=Rc;rw[z,nl] at g;cases g
  have pr0:Paired (zd K H l Hl) ((mi mv pt st pus).take 1) [V.ref c]:=by
   have:(mi mv pt st pus).take 1=[st]:=by
    have e:=take_snoc (y0 (mv:=mv) (pt:=pt) (st:=st) (pus:=pus) (k:=0) (bW _));rw[e];rfl
   rw[this];exact .cons #[c,rfl,hc,cl,Rc.same sl] .nil
  exists #[#[_,bJ.of (s0 _ _ gp)],?_];refine ib (K:=K) (a:=p) (xs:=ps) (λi σ' H'=>aA H H'/\(∃y ys,σ'=[some (.ref x),some (.ref s),some (.ref p),some (.ref l),y]/\H' l=some (.lst ys)/\Paired (zd K H l H') ((mi mv pt st pus).take (i+1)) ys)) #[s0,_,_,rfl,gl,pr0] (λi σ' H' _ #[e,_]=>bJ.of (e _ _ gp)) ?_ ?_
  ·rintro i v σ' H' hv ⟨e,y,ys,rfl,g,pr⟩;obtain pu|epu|u|rfl|_|Ru:=cE qp hv;have hi:i < pus.9:=(aR.mp epu).1;have mp:=ao epu;have ly:=pr.9;rw[dh,Ct] at ly;have ec:=y0 (mv:=mv) (pt:=pt) (st:=st) (pus:=pus) (k:=i) ();have el:ys[i]?=some (ys[i]'()):=ai ()
   obtain ⟨vl,evl,q,hq1,hq2,hq3,Rq⟩:∃vl,ys[i]?=some vl/\∃q,vl=V.ref q/\H q=none/\q≠l/\cu K H' q (jS mv pt st pus i):=by
    obtain xs|ex|w:=cE pr el;rw[UB (),ec] at ex;cases ex;exact #[_,el,w]
   subst hq1
   have ey:∃zs,ys=zs++[V.ref q]:=by
    refine #[ys.take i,?_];rw[<- take_snoc evl,aD ()]
   obtain zs|rfl:=ey;exists #[.inl #[rfl,_,bJ.of g],?_];walk_at "w";obtain dx|_|_|_|gx|_:=S.same e;refine #[x,dx,_,rfl,gx,DE,?_];exists cy (bJ.of g) (CC _ _) ?_;exists #[x,q,u,H0,mv,pt,lk,_,pu,rfl,S.same e,D,F,Rq,Ru.same e,vd ls (),wp pu mp,cf.both () mp,λr1 H2 n2 s2 R2=>?_];have gn:=s2 _ _ g;exists jA gn (bD ()) ?_;refine #[Lu (e.trans s2) hl0,_,_,rfl,aK,?_];rw[take_snoc (y0 ()),qC epu];have rl:r1≠l:=λz=>by rw[z,g] at n2;cases n2
   exact cA (Paired.imp' (λ_ _ z=>(zd.same z s2).upd gn) pr) (.cons #[r1,rfl,e.none n2,rl,R2.updL gn rl] .nil)
  ·rintro σ' H' ⟨e,y,ys,rfl,g,pr⟩;walk_at "w";rw[aD (by rw[Ct];lia)] at pr;exact k l H' hl0 e #[ys,g,Paired.imp' (λ_ _ z=>zd.rowF z) pr,Bt pr]
theorem Py:ba ["one","other"] ["one","other"] (aM IQ):=by walk_at "d"
theorem Qp (T:Txt K mg Z) (ptree:P.given.tree=none):cQ P w K mg base iJ 3 Z.OM Z.OB ["one","other"] (rD K (λx y=>x+y)):=by
 have kZ:=qH (P:=P) (w:=w) (base:=base) T ptree;refine T.AD.F.ok Py (λvs H Q E h=>?_) (λcdv A outer s H vs Q E hr h=>?_)
 ·obtain p|q|a|b|c|d|rfl|hp|hq|hb|hd|sa|sb|sc|sd|k:=AO h;rfl
 ·obtain p|q|a|b|c|d|rfl|hp|hq|hb|hd|sa|sb|sc|sd|k:=AO h;refine #[_,(az (a8 (cK kZ hr T.lN (aa (bA gN (bA cH (aU bP (pv 0) ak) (aU bP (pv 1) ak)) (bA cH (aU bP (pv 1) ak) (aU bP (pv 0) ak))) (aa (bA cH (aU bP (pv 0) ak) (aU bP (pv 1) ak)) ag))))),?_];refine aX (σ:=[some (.ref p),some (.ref q)]) rfl ?_;have hbd:0 < b*d:=fj hb hd;have sbd:Sz 8999000 (b*d):=(sb.mul sd).mono ();exists fD (show fO _ _ from .inr #[_,_,sa,sd,()]) ?_;exists fD (show fO _ _ from .inr #[_,_,sc,sb,()]) ?_;exists fD (show fO _ _ from .inr #[_,_,sb,sd,()]) ?_;walk_at "w";exists #[_,_,rfl,(),sbd,λr H' s' h'=>?_];rw[if_neg (),if_neg ()] at h';exact k r H' s' h'
theorem Fb (T:Txt K mg Z) (ptree:P.given.tree=none):cQ P w K mg base iJ 4 Z.za Z.yZ ["one","other"] (J9 K):=by
 have c7:=iF (P:=P) (w:=w) (base:=base) T ptree;have fH:=kG (P:=P) (w:=w) (base:=base) T ptree;have kZ:=qH (P:=P) (w:=w) (base:=base) T ptree;refine T.lM.F.ok jg (λvs H Q E h=>?_) (λcdv A outer s H vs Q E hr h=>?_)
 ·obtain p|q|xs|ys|rfl|_:=h;rfl
 ·obtain p|q|xs|ys|rfl|hp|hq|hl|hz|⟨⟨M,h1⟩,⟨N,h2⟩⟩|kk:=h
  refine #[_,(au (aZ (i:=2) jg.nd rfl (Or.inl rfl) (cK c7 hr T.dJ (aa (pv 0) ag)))
   (au (aZ (i:=3) jg.nd rfl (Or.inl rfl) (cK c7 hr T.dJ (aa (pv 1) ag)))
   (au (aZ (i:=4) jg.nd rfl (Or.inl rfl) (BC rfl T.list rfl T.zip (aa (cK fH hr T.gE (aa (pv 0) (aa (pv 2) ag))) (aa (cK fH hr T.gE (aa (pv 1) (aa (pv 3) ag))) ag))))
   (az (a8 (cK kZ hr T.lN (aa (bG (Cw rfl) (by rfl) T.sum PyProof.Rows.boot_sum (aa (b8 ["mine","yours"] [] [] (b7 (pv 4)) (λ_=>(vh K 2 (cZ (aN (i:=0) (show ND9 ["mine","yours"] by decide +kernel)) (cZ (aN (i:=1) (show ND9 ["mine","yours"] by decide +kernel)) kF)))) (λ_=>cb) (λ_=>(bA cH (pv 0) (pv 1)))) ag)) (aa (bA cH (pv 2) (pv 3)) ag)))))))),?_]
  refine aX (σ:=[some (.ref p),some (.ref q),none,none,none]) rfl ?_;replace hp:=hp.rowK;replace hq:=hq.rowK;replace hl:(ys.map nm).9=(xs.map nm).9:=by simpa using hl
  replace hz:(xs.map nm).9<=1000:=by simpa using hz
  obtain b1|s1:=h1.bot;obtain b2|s2:=h2.bot;have k2:∀r H',aA H H'->H' r=some (.tup [.int (lo (Jw (xs.map nm) (ys.map nm)) (cI (xs.map nm)*cI (ys.map nm))),.int (hi (Jw (xs.map nm) (ys.map nm)) (cI (xs.map nm)*cI (ys.map nm)))])->Q (.ref r) H':=λr H' s g=>kk r H' s (bS.mk g (KH b1 b2))
  clear kk;generalize xs.map nm=ns at hp hq hl hz h1 h2 b1 b2 s1 s2 k2;generalize ys.map nm=ms at hp hq hl hz h1 h2 b1 b2 s1 s2 k2;have hb:0 < cI ns*cI ms:=fj b1 b2;exists #[p,ns,M,rfl,hp,hz,h1,λH1 t1=>?_];exists #[q,ms,N,rfl,hq.same t1,(),h2,λH2 t2=>?_];have u2:=t1.trans t2;exists #[p,ns,M,_,rfl,hp.same u2,hz,h1,b1,s1,λr1 H3 n3 t3 g3=>?_];exists #[q,ms,N,_,rfl,(hq.same u2).same t3,(),h2,b2,s2,λr2 H4 n4 t4 g4=>?_];exists #[r1,r2,_,_,rfl,bJ.of (t4 _ _ g3),bJ.of g4,by simp [cp,hl],λL ts H5 t5 n5 g5 pr=>?_];have lt:=pr.9;have ll:(cp ns (cI ns)).9=ns.9:=by simp [cp]
  have lm:(cp ms (cI ms)).9=ns.9:=by simp [cp,hl]
  rw[tN,af,af,ll,lm] at lt;exists #[#[_,bJ.of g5],?_];refine eS (K:=K) (xs:=ts) (λi ys H'=>H'=H5/\ys=((List.zipWith (λx y=>x*y) (cp ns (cI ns)) (cp ms (cI ms))).take i).map V.int) (aL (bD ())) #[rfl,rfl] (λi ys H' _ #[e,_]=>by subst e;exact bJ.of g5) ?_ ?_
  ·rintro i x ys H' hx hlen ⟨rfl,rfl⟩;obtain pq|epq|T|rfl|gT:=cE pr hx;obtain t|u|et|eu|rfl:=JM epq;exists fD (show fO _ _ from .inr #[_,_,tS h1 b1 s1 (ao et),tS h2 b2 s2 (ao eu),()]) ?_;have ez:(List.zipWith (λx y=>x*y) (cp ns (cI ns)) (cp ms (cI ms)))[i]?=some (t*u):=by rw[b9,et,eu]
   exact #[rfl,by rw[take_snoc ez];simp]
  ·rintro ys H' hy ⟨rfl,rfl⟩ l hl';exists #[l,List.zipWith (λx y=>x*y) (cp ns (cI ns)) (cp ms (cI ms)),rfl,bJ.of (by rw[aK,aD (by rw[bM];lia)]),?_];exists fD (show fO _ _ from .inr #[_,_,s1,s2,()]) ?_;exists #[_,_,rfl,(),(s1.mul s2).mono (),λr H6 t6 g6=>?_];rw[if_neg (),if_neg ()] at g6;exact k2 r H6 ((((u2.trans t3).trans t4).trans t5).trans ((aA.new hl').trans t6)) g6
theorem EL:ba ["lists","joined","each"] ["lists"] (aM IS):=by walk_at "d"
theorem Fd (T:Txt K mg Z) (ptree:P.given.tree=none):cQ P w K mg base iJ 1 Z.ON Z.OC ["lists"] Gz:=by
 refine T.vn.F.ok EL (λvs H Q E h=>?_) (λcdv A outer s H vs Q E hr h=>?_)
 ·obtain p|us|zss|rfl|_:=h;rfl
 ·obtain p|us|zss|rfl|gx|qx|hl|k:=h
  refine #[_,(au (aZ (i:=1) EL.nd rfl (Or.inl rfl) (d6 ag))
   (au (dW PassesOwn.never rfl (b7 (pv 0)) (aN (i:=2) EL.nd)
    (az (i8 (vD cN PySem.F.slot_list_extend PySem.F.type_list_extend LL (pv 1) (aa (pv 2) ag)))))
   (az (a8 (pv 1))))),?_]
  refine aX (σ:=[some (.ref p),none,none]) rfl ?_;have lx:=qx.9;exists dw λj H1 s1 n1 g1=>?_
  exists #[#[_,bJ.of (s1 _ _ gx)],?_];refine ib (K:=K) (a:=p) (xs:=us) (λi σ' H'=>aA H H'/\∃x:Option V,σ'=[some (.ref p),some (.ref j),x]/\H' j=some (.lst (zss.take i).flatten)) #[s1,none,rfl,g1] (λi σ' H' _ #[s,_]=>bJ.of (s _ _ gx)) ?_ ?_
  ·rintro i x σ' H' hx ⟨s,y,rfl,gj⟩;obtain zs|ez|q|rfl|gz:=cE qx hx;have tl:(zss.take (i+1)).flatten=(zss.take i).flatten++zs:=by rw[take_snoc ez,List.flatten_append];simp
   have bl:(zss.take i).flatten.length+zs.9<=1000:=by
    have e:zss.flatten=(zss.take (i+1)).flatten++(zss.drop (i+1)).flatten:=by rw[<- List.flatten_append,List.take_append_drop]
    rw[e,tl,aB,aB] at hl
    lia
   exists #[.inl #[rfl,_,bJ.of gj],?_];exists #[j,q,_,zs,rfl,rfl,gj,s _ _ gz,aL (bD ()),?_];exact #[s.after n1,_,rfl,by rw[aK,tl]]
  ·rintro σ' H' ⟨s,y,rfl,gj⟩;rw[aD ()] at gj;exists k j H' n1 s gj
theorem IL:ba ["value"] ["value"] (aM yC):=by walk_at "d"
theorem Jc (T:Txt K mg Z) (ptree:P.given.tree=none):cQ P w K mg base iJ 1 Z.Eg Z.DX ["value"] (MV K):=by
 refine T.wN.F.ok IL (λvs H Q E h=>?_) (λcdv A outer s H vs Q E hr h=>?_)
 ·obtain u|x|rfl|_:=h;rfl
 ·obtain u|x|rfl|⟨p,rfl,hp⟩|⟨s1,s2⟩|k:=h;refine #[_,(az (a8 (cP (aa (bA cH (aU bP (pv 0) ak) (aU bP (pv 0) ak)) (aa (bA cH (aU bP (pv 0) ak) (aU bP (pv 0) ak)) ag))))),?_];refine aX (σ:=[some (.ref p)]) rfl ?_;exists fD (show fO _ _ from .inr #[_,_,s1,s1,()]) ?_;exists fD (show fO _ _ from .inr #[_,_,s2,s2,()]) ?_;exists b6 λr H' s g=>?_
  exact k r H' s (bS.mk g (Vl x))
theorem Ls:ba ["weights","puts"] ["weights","puts"] (aM Bn):=by walk_at "d"
theorem LG (T:Txt K mg Z) (ptree:P.given.tree=none):cQ P w K mg base iJ 5 Z.HZ Z.HN ["weights","puts"] (IJ K):=by
 have G_row_dot_R:=Fb (P:=P) (w:=w) (base:=base) T ptree;have zh:=Fd (P:=P) (w:=w) (base:=base) T ptree;have Mi:=Jc (P:=P) (w:=w) (base:=base) T ptree;refine T.qI.F.ok Ls (λvs H Q E h=>?_) (λcdv A outer s H vs Q E hr h=>?_)
 ·obtain p|q|ws|rows|H0|rfl|_:=h;rfl
 ·obtain p|q|ws|rows|H0|rfl|hp|hq|hl|hf|k:=h;refine #[_,(az (a8 (cK G_row_dot_R hr T.lM (aa (cK zh hr T.vn (aa (b8 ["row"] ["weights"] [0] (b7 (pv 1)) (λ_=>(aN (i:=0) (show ND9 ["row","weights"] by decide +kernel))) (λ_=>cb) (λ_=>(pv 1))) ag)) (aa (b8 ["value"] [] [] (b7 (cK zh hr T.vn (aa (pv 1) ag))) (λ_=>(aN (i:=0) (show ND9 ["value"] by decide +kernel))) (λ_=>cb) (λ_=>(cK Mi hr T.wN (aa (pv 0) ag)))) ag))))),?_];refine aX (σ:=[some (.ref p),some (.ref q)]) rfl ?_;obtain xs|gx|qx|_:=id hq;have lx:=qx.9;obtain rw1|rw2:=hf.rw;obtain _|_|_|_|_|_|_|_|_|_|_|_|h8|l20:=id hf;obtain wz|gw|qw:=id hp;have fb:rows.9*ws.9<=20*8:=aH l20 h8;have fl:rows.flatten.9=rows.9*ws.9:=TM hl;exists #[#[_,bJ.of gx],?_];refine cL (K:=K) (F:=λ_ (_:List Rat) _=>True) (λ_ (_:List Rat) v=>v=V.ref p) id (as:=rows) gx (Paired.imp' (λ_ _ _=>trivial) qx) () (λa b=>a) (λa b=>a) ?_ ?_
  ·rintro i c x H' NY NN ec s' _ k1;exists k1 _ _ (aA.refl _) rfl
  rintro ys H1 l nl s1 g1 pr1 _;rw[tK] at pr1;have py:Paired (λzs u=>∃q,u=V.ref q/\H1 q=some (.lst zs)) (List.replicate rows.9 wz) ys:=Bu (λ_ y e=>#[p,e,s1 _ _ gw]) pr1;have pw:=mY (Kg (G:=λR zs=>Paired (bS K H) R zs) qw rows.9);have lw:=pw.9;have fw:(List.replicate rows.9 ws).flatten.length=rows.9*ws.9:=Eu ws rows.9;exists #[l,ys,_,rfl,g1,py,(),λf1 H2 n2 s2 g2=>?_];have s02:=s1.trans s2;have R2:cu K H2 f1 (Mm ws rows.9):=#[_,g2,Paired.imp' (λ_ _ z=>z.same s02) pw];obtain zss|pz|pr:=GR (Paired.imp' (λ_ _ z=>dF.same z s02) qx);have pf:=mY pr;have lf:=pf.9;exists #[q,xs,zss,rfl,s02 _ _ gx,pz,(),λf2 H3 n3 s3 g3=>?_];have R3:Paired (bS K H3) rows.flatten zss.flatten:=Paired.imp' (λ_ _ z=>z.same s3) pf;exists #[#[_,bJ.of g3],?_];refine cL (K:=K) (F:=bS K) (bS K) (λx=>x*x) g3 R3 () (λa b=>a.same b) (λa b=>a.same b) ?_ ?_
  ·rintro i x v H' NY NN en s hv k1;obtain ls|hls|hx:=cS.mp (ao en)
   have sz:lh x:=by
    cases ws with
    | nil=>exact absurd (hl ls hls) (by cases ls with | nil=>cases hx | cons _ _=>simp)
    | cons w ws=>exact (hf.num hls hx (.head _)).1
   exists #[_,x,rfl,hv,sz,λr H5 s5 h5=>k1 _ _ s5 h5]
  rintro zs H4 f3 n4 s4 g4 pr4 _;exists #[f1,f3,_,ju rows.flatten,rfl,(R2.same s3).same s4,#[zs,g4,pr4],by unfold ju;rw[af,fl,Eu],by rw[Eu];lia,#[rw1,rw2],λr H5 s5 h5=>?_];rw[KD hl] at h5;exact k r H5 (((s02.trans s3).trans s4).trans s5) h5
theorem pE:ba ["self","start","puts","states","ahead"] ["self","start","puts"] (aM jy):=by walk_at "d"
theorem vI (T:Txt K mg Z) (ptree:P.given.tree=none):cQ P w K mg base iJ 7 Z.sY Z.sS ["self","start","puts"] (GB K Z.a_System Z.a_Costs):=by
 have OT:=LH (P:=P) (w:=w) (base:=base) T ptree;have OR:=Qp (P:=P) (w:=w) (base:=base) T ptree;have CV:=LG (P:=P) (w:=w) (base:=base) T ptree;refine T.yn.ok pE (λvs H Q E h=>?_) (λcdv A outer s H vs Q E hr h=>?_)
 ·obtain x|kn|s|p|H0|H1|mv|pt|lk|qs|rs|fs|st|pus|tt|rfl|_:=h;rfl
 ·obtain x|kn|s|p|H0|H1|mv|pt|lk|qs|rs|fs|st|pus|tt|rfl|CF|D|SF|Rs|Gp|L|k:=h
  refine #[_,(au (aZ (i:=3) pE.nd rfl (Or.inl rfl) (cK OT hr T.yP (aa (fE (pv 0) rfl) (aa (pv 1) (aa (pv 2) ag)))))
   (au (aZ (i:=4) pE.nd rfl (Or.inl rfl) (cK OR hr T.AD (aa (cK CV hr T.qI (aa (fE (pv 0) rfl) (aa (pv 2) ag))) (aa (cK CV hr T.qI (aa (fE (pv 0) rfl) (aa (qF ve (pv 3) vg (vf (vC pB ak))) ag))) ag))))
   (az (a8 (cK OR hr T.AD (aa (pv 4) (aa (cK CV hr T.qI (aa (fE (pv 0) rfl) (aa (qF ve (pv 3) (vf (vC pB ak)) vg) ag))) ag))))))),?_]
  refine aX (σ:=[some (.ref x),some (.ref s),some (.ref p),none,none]) rfl ?_;have d8:=D.n8;have i4:=D.i4;have t8:=L.t8;obtain dx|sy|a1|a2|a3|gx|S|R1|R2|R3:=id CF;exists #[x,Z.a_Costs,dx,_,_,rfl,gx,T.cl_Costs,T.na_Costs_system,vo,?_];exists #[sy,s,p,H0,H1,mv,pt,lk,pus,st,rfl,S,D,SF,Rs,L.ls,Gp,by rw[L.lt];lia,L.wp,L.cf,λr1 Ha n1 s1 G1=>?_];have ec:mi mv pt st pus=(List.range (tt+1)).map (jS mv pt st pus):=by unfold mi;rw[L.lt]
  obtain ys|gy|qy|ny:=id G1;have ly:=qy.9;rw[ec,af,bu] at ly;rw[ec] at qy;exists #[x,Z.a_Costs,dx,_,_,rfl,s1 _ _ gx,T.cl_Costs,T.na_Costs_put_weights,Sb,?_];exists #[a2,p,rs,pus,H1,rfl,R2.same s1,Gp.same s1,λxs hx=>by rw[L.wp xs hx,L.lr],L.e1,λr2 Hb s2 N2=>?_];have s12:=s1.trans s2;exists #[x,Z.a_Costs,dx,_,_,rfl,s12 _ _ gx,T.cl_Costs,T.na_Costs_state_weights,R0,?_];exists Bv (bJ.of (s2 _ _ gy)) λq3 Hc s3 n3 g3=>?_
  rw[QM (k:=tt) ()] at g3;have s13:=s12.trans s3
  have RD:Paired (dF K H Hc) ((List.range tt).map (jS mv pt st pus)) (ys.take tt):=by
   have h:=uA (Paired.imp' (λ_ _ z=>dF.same z (s2.trans s3)) qy) tt;rwa [<- List.map_take,List.take_range,Pc ()] at h
  have G3:bQ K H Hc q3 ((List.range tt).map (jS mv pt st pus)):=#[_,g3,RD,λz=>by
   obtain _|_|q'|e|nq|zs|gz|_:=dN qy (cz z);cases e;rw[s2 _ _ gz] at n3;cases n3]
  walk_at "w"
  refine #[a1,q3,qs,_,H,rfl,R1.same s13,G3,λxs hx=>by
   obtain i|hi|rfl:=av.mp hx;rw[L.la i (aL (gV.mp hi)),L.lq],L.e4,λr4 Hd s4 N4=>?_]
  have s14:=s13.trans s4;exists #[_,_,_,_,rfl,(N2.same s3).same s4,N4,L.e1.szn,L.e4.szn,λr5 He s5 N5=>?_];rw[L.to2] at N5;have s15:=s14.trans s5;exists #[x,Z.a_Costs,dx,_,_,rfl,s15 _ _ gx,T.cl_Costs,T.na_Costs_last_weights,VD,?_];walk_at "w";have gy5:=((s3.trans s4).trans s5) _ _ (s2 _ _ gy);refine Bv (bJ.of gy5) λq6 Hf s6 n6 g6=>?_
  rw[QL (k:=tt) ()] at g6;have s16:=s15.trans s6;have sy6:=(((s2.trans s3).trans s4).trans s5).trans s6;obtain ⟨v,ev⟩:∃v,ys[tt]?=some v:=#[_,ai ()];obtain xe|exx|q7|rfl|nq7|R7:=cE qy ev;rw[ay,bY ()] at exx;cases exx
  have ed:ys.drop tt=[.ref q7]:=by
   rw[eo (),List.drop_eq_nil_of_le ()];have:=(aR.mp ev).2;rw[this]
  rw[ed] at g6;have R7':=R7.same sy6;obtain z7|gz7|_:=id R7
  have G6:bQ K H Hf q6 [jS mv pt st pus tt]:=#[_,g6,.cons #[q7,rfl,nq7,R7'] .nil,λz=>by
   have e:q6=q7:=by simpa using z
   rw[e,(((s2.trans s3).trans s4).trans s5) _ _ gz7] at n6;cases n6]
  exists #[a3,q6,fs,_,H,rfl,R3.same s16,G6,λxs hx=>by rw[bg.mp hx,L.la tt (ar _),L.lf],L.e3,λr8 Hg s8 N8=>?_];exists #[_,_,_,_,rfl,(N5.same s6).same s8,N8,L.lz tt (ar _),L.e3.szn,λr9 Hh s9 N9=>?_];exact k r9 Hh ((s16.trans s8).trans s9) N9
theorem EJ:ba ["whole"] ["whole"] (aM tZ):=by walk_at "d"
theorem E8 (T:Txt K mg Z) (ptree:P.given.tree=none):cQ P w K mg base iJ 3 Z.z6 Z.zJ ["whole"] (Gj K):=by
 have kZ:=qH (P:=P) (w:=w) (base:=base) T ptree;refine T.rW.F.ok EJ (λvs H Q E h=>?_) (λcdv A outer s H vs Q E hr h=>?_)
 ·obtain t|p|ls|b|rfl|_:=h;rfl
 ·obtain t|p|ls|b|rfl|gt|G|l20|w20|b0|sb|k:=h;refine #[_,(az (a8 (b8 ["line"] ["whole"] [0] (b7 (aU bP (pv 0) ak)) (λ_=>(aN (i:=0) (show ND9 ["line","whole"] by decide +kernel))) (λ_=>cb) (λ_=>(b8 ["value"] ["whole"] [1] (nR K (pv 0)) (λ_=>(aN (i:=0) (show ND9 ["value","whole"] by decide +kernel))) (λ_=>cb) (λ_=>(cK kZ hr T.lN (aa (pv 0) (aa (aU (jc K (by rfl)) (pv 1) ak) ag))))))))),?_];refine aX (σ:=[some (.ref t)]) rfl ?_;obtain us|gu|qu:=id G;have lu:=qu.9;exists #[#[_,bJ.of gu],?_];refine cL (K:=K) (as:=ls) (F:=RI) (dF K H) (λl=>l.map λ(z:Int)=>(z:Rat) / (b:Rat)) gu qu () (λh s=>h.same s) (λh s=>h.same s) ?_ ?_
  ·rintro i c x H' NY NN ec s' ⟨u,rfl,gc⟩ k1;have wc:=w20 c (ao ec);exists #[#[_,bJ.of gc],?_];refine cL (K:=K) (as:=c) (F:=λ_ z x=>x=V.int z) (bS K) (λ(z:Int)=>(z:Rat) / (b:Rat)) gc oa () (λh _=>h) (λh s=>h.same s) ?_ ?_
   ·rintro j z v H2 NY2 NN2 ez s2 rfl k2;have gt2:=s2 _ _ (s' _ _ gt);exists #[z,b,rfl,b0,sb,λr3 H3 s3 g3=>?_];exact k2 _ _ s3 (bS.mk g3 (NV b0))
   rintro ys H2 l hl s2 g2 pr _;exact k1 _ _ s2 #[l,rfl,s'.none hl,ys,g2,pr]
  rintro ys H2 r nr s2 g2 pr nx;exact k r H2 nr s2 #[ys,g2,pr,oO nx]
theorem vz:ba ["grid","bottom"] ["grid"] (aM rH):=by walk_at "d"
theorem Dd (T:Txt K mg Z) (ptree:P.given.tree=none):cQ P w K mg base iJ 4 Z.yc Z.xQ ["grid"] (Gf K):=by
 have c7:=iF (P:=P) (w:=w) (base:=base) T ptree;have zh:=Fd (P:=P) (w:=w) (base:=base) T ptree;have fH:=kG (P:=P) (w:=w) (base:=base) T ptree;refine T.pU.F.ok vz (λvs H Q E h=>?_) (λcdv A outer s H vs Q E hr h=>?_)
 ·obtain p|H0|rows|M|rfl|_:=h;rfl
 ·obtain p|H0|rows|M|rfl|G|hl|r1000|w1000|hM|k:=h
  refine #[_,(au (aZ (i:=1) vz.nd rfl (Or.inr rfl) (cK c7 hr T.dJ (aa (cK zh hr T.vn (aa (pv 0) ag)) ag)))
   (az (a8 (cP (aa (b8 ["row"] ["bottom"] [1] (b7 (pv 0)) (λ_=>(aN (i:=0) (show ND9 ["row","bottom"] by decide +kernel))) (λ_=>cb) (λ_=>(cK fH hr T.gE (aa (pv 0) (aa (pv 1) ag))))) (aa (pv 1) ag)))))),?_]
  refine aX (σ:=[some (.ref p),none]) rfl ?_;have hM':=hM;obtain b1|s1:=hM.bot;obtain xs|gx|qx|_:=id G;have lx:=qx.9;walk_at "w";obtain zss|pz|pq:=Br qx;have pf:=mY pq;have lf:=pf.9;refine #[p,xs,zss,rfl,gx,pz,(),λr1 H1 n1 t1 g1=>?_];have R1:cu K H1 r1 rows.flatten:=#[_,g1,Paired.imp' (λ_ _ z=>z.same t1) pf];exists #[r1,rows.flatten.map nm,M,rfl,R1.rowK,by rw[af];exact hl,hM,λH2 t2=>?_];have t02:=t1.trans t2;have g2:=t02 _ _ gx;exists #[#[_,bJ.of g2],?_];refine cL (K:=K) (as:=rows) (F:=dF K H0) RI (λxs=>cp (xs.map nm) (tL rows)) g2 (Paired.imp' (λ_ _ z=>dF.same z t02) qx) r1000 (λh s=>h.same s) (λh s=>h.same s) ?_ ?_
  ·rintro i c x H' NY NN ec s' ⟨u,rfl,_,Ru⟩ k1;have mc:=ao ec;exists #[u,c.map nm,M,tL rows,rfl,Ru.rowK,by rw[af];exact w1000 c mc,#[hM.1,hM.2.1,λn hn=>hM.2.2 n ?_],b1,s1,λr3 H3 n3 t3 g3=>k1 _ _ t3 #[r3,rfl,g3]];obtain y|hy|rfl:=av.mp hn;exact av.mpr #[y,cS.mpr #[c,mc,hy],rfl]
  rintro ys H3 l hl3 s3 g3 pr _;exists b6 λt4 H4 s4 g4=>?_
  exact k t4 l H4 g4 ((t02.trans s3).trans s4) (GI.same #[ys,g3,pr] s4)
theorem EH:ba ["one","other"] ["one","other"] (aM tW):=by walk_at "d"
theorem E6 (T:Txt K mg Z) (ptree:P.given.tree=none):cQ P w K mg base iJ 1 Z.zY Z.zG ["one","other"] (JW K):=by
 refine T.rV.F.ok EH (λvs H Q E h=>?_) (λcdv A outer s H vs Q E hr h=>?_)
 ·obtain p|q|a|b|k|j|rfl|_:=h;rfl
 ·obtain p|q|a|b|k|j|rfl|ga|gb|hl|h100|sa|sb|kj|kk:=h;refine #[_,(az (a8 (bG (Cw rfl) (by rfl) T.sum PyProof.Rows.boot_sum (aa (b8 ["mine","yours"] [] [] (EZ rfl T.zip (aa (pv 0) (aa (pv 1) ag))) (λ_=>(vh K 2 (cZ (aN (i:=0) (show ND9 ["mine","yours"] by decide +kernel)) (cZ (aN (i:=1) (show ND9 ["mine","yours"] by decide +kernel)) kF)))) (λ_=>cb) (λ_=>(bA cH (pv 0) (pv 1)))) ag)))),?_];refine aX (σ:=[some (.ref p),some (.ref q)]) rfl ?_;exists #[#[_,bJ.of ga],#[_,bJ.of gb],?_];refine Cu (K:=K) (xs:=a.map V.int) (ws:=b.map V.int) (λi ys H'=>aA H H'/\ys=((List.zipWith (λx y=>x*y) a b).take i).map V.int) (aL (bD (by rw[af];lia))) (by rw[af,af];lia) #[aA.refl _,rfl] (λi ys H' _ #[s,_]=>#[bJ.of (s _ _ ga),bJ.of (s _ _ gb)]) ?_ ?_
  ·rintro i x y ys H' r hx hy hlen ⟨s',rfl⟩ hr;rw[ay] at hx hy;obtain u|eu|rfl:=o9.mp hx;obtain v|ev|rfl:=o9.mp hy;have sr:aA H' (upd H' r (.tup [.int u,.int v])):=aA.new hr;have gr:(upd H' r (.tup [.int u,.int v])) r=some (.tup [.int u,.int v]):=aK;generalize upd H' r (.tup [.int u,.int v])=H2 at sr gr ⊢;exists fD (show fO _ _ from .inr #[_,_,sa u (ao eu),sb v (ao ev),kj]) ?_;have ez:(List.zipWith (λx y=>x*y) a b)[i]?=some (u*v):=by rw[b9,eu,ev]
   exact #[s'.trans sr,by rw[take_snoc ez];simp]
  rintro ys H' hy ⟨s',rfl⟩ l hl';exists #[l,List.zipWith (λx y=>x*y) a b,rfl,bJ.of (by rw[aK,aD (by rw[bM,af];lia)]),?_];exact kk _ (s'.trans (aA.new hl'))
theorem GH:ba ["lines","tops"] ["lines","tops"] (aM wo):=by walk_at "d"
theorem zC (T:Txt K mg Z) (ptree:P.given.tree=none):cQ P w K mg base iJ 2 Z.CD Z.Cg ["lines","tops"] (MU K):=by
 have Ih:=E6 (P:=P) (w:=w) (base:=base) T ptree;refine T.mK.F.ok GH (λvs H Q E h=>?_) (λcdv A outer s H vs Q E hr h=>?_)
 ·obtain p|q|ls|b|k|j|rfl|_:=h;rfl
 ·obtain p|q|ls|b|k|j|rfl|G|gb|hw|l100|b100|sk|sj|kj|kk:=h;refine #[_,(az (a8 (b8 ["line"] ["tops"] [1] (b7 (pv 0)) (λ_=>(aN (i:=0) (show ND9 ["line","tops"] by decide +kernel))) (λ_=>cb) (λ_=>(cK Ih hr T.rV (aa (pv 0) (aa (pv 1) ag))))))),?_];refine aX (σ:=[some (.ref p),some (.ref q)]) rfl ?_;obtain xs|gx|qx:=id G;have lx:=qx.9;exists #[#[_,bJ.of gx],?_];refine cL (K:=K) (as:=ls) (F:=RI) (λ_ z y=>y=V.int z) (λl=>Dp l b) gx qx () (λh s=>h.same s) (λh _=>h) ?_ ?_
  ·rintro i c x H' NY NN ec s' ⟨u,rfl,gu⟩ k1;have mc:=ao ec;exists #[u,q,c,b,k,j,rfl,gu,s' _ _ gb,(hw c mc).symm,by rw[hw c mc];lia,sk c mc,sj,kj,λH2 s2=>k1 _ _ s2 rfl]
  rintro ys H2 l hl s2 g2 pr _;have ey:ys=(uE ls b).map V.int:=rS pr;refine kk l _ hl s2 (by rw[g2,ey])
theorem cY:ba ["self","behind","system","sides","later","bottom","own","lines","place","line"] ["self","behind"] (aM fL):=by walk_at "d"
theorem wL (T:Txt K mg Z) (ptree:P.given.tree=none):cQ P w K mg base iJ 5 Z.kX Z.kS ["self","behind"] (Gn K Z.a_System Z.a_Costs):=by
 have FR:=Dd (P:=P) (w:=w) (base:=base) T ptree;have qe:=uF (P:=P) (w:=w) (base:=base) T ptree;have tq:=zC (P:=P) (w:=w) (base:=base) T ptree;have uY:=xA (P:=P) (w:=w) (base:=base) T ptree;refine T.o8.ok cY (λvs H Q E h=>?_) (λcdv A outer s H vs Q E hr h=>?_)
 ·obtain x|kn|t|p|H0|mv|pt|lk|qs|rs|wl|wb|sg|om|b|rfl|_:=h;rfl
 ·obtain x|kn|t|p|H0|mv|pt|lk|qs|rs|wl|wb|sg|om|b|rfl|CQ|D|F|gt|GW|lw|ww|sw|swb|sz|k:=h
  refine #[_,(au (aZ (i:=2) cY.nd rfl (Or.inl rfl) (fE (pv 0) rfl))
   (au (aZ (i:=3) cY.nd rfl (Or.inr rfl) (cK FR hr T.pU (aa (bA pR (fE (pv 2) rfl) (cK qe hr T.kJ (aa (fE (pv 2) rfl) (aa (fE (pv 2) rfl) ag)))) ag)))
   (au (l7 4 ["side"] ["sides","behind"] [3,1] cY.nd rfl rfl (b7 (aU (jc K (by rfl)) (pv 3) ak)) (λ_=>(aN (i:=0) (show ND9 ["side","sides","behind"] by decide +kernel))) (λ_=>cb) (λ_=>(cK tq hr T.mK (aa (aU (jc K (by rfl)) (pv 1) ak) (aa (cK tq hr T.mK (aa (aU (jc K (by rfl)) (pv 2) ak) (aa (pv 0) ag))) ag)))))
   (au (aZ (i:=5) cY.nd rfl (Or.inl rfl) (bA cH (bA cH (aU bP (pv 3) ak) (aU bP (pv 3) ak)) (aU bP (pv 1) ak)))
   (au (aZ (i:=6) cY.nd rfl (Or.inr rfl) (cK uY hr T.nh (aa (bA pR (fE (pv 0) rfl) (fE (pv 0) rfl)) ag)))
   (au (l7 7 ["line"] ["own"] [6] cY.nd rfl rfl (b7 (pv 4)) (λ_=>(aN (i:=0) (show ND9 ["line","own"] by decide +kernel))) (λ_=>cb) (λ_=>(b8 ["value"] ["own"] [1] (nR K (pv 0)) (λ_=>(aN (i:=0) (show ND9 ["value","own"] by decide +kernel))) (λ_=>cb) (λ_=>(bA cH (pv 0) (aU (jc K (by rfl)) (pv 1) ak))))))
   (au (dW PassesOwn.never rfl (E1 rfl T.enumerate (aa (aU bP (pv 6) ak) ag)) (yK rfl (cZ (aN (i:=8) cY.nd) (cZ (aN (i:=9) cY.nd) kF)))
    (az (iE (bA gN (aU bz (aU bz (pv 7) (pv 8)) (pv 8)) (bA cH (aU bz (pv 9) (pv 8)) (pv 5))) (jk (aU bz (pv 7) (pv 8)) (pv 8) set_list))))
   (az (a8 (cP (aa (pv 7) (aa (bA cH (pv 5) (aU (jc K (by rfl)) (pv 6) ak)) ag)))))))))))),?_]
  refine aX (σ:=[some (.ref x),some (.ref t),none,none,none,none,none,none,none,none]) rfl ?_;have d8:=D.n8;have i4:=D.i4;obtain dx|sy|a1|a2|a3|gx|S|R1|R2:=id CQ;obtain dy|am|ap|al|gy|m1|m2|m3|Gm|Gp|Gl:=id S;obtain up|gp|qp|_:=id Gp;have lup:=qp.9;exists #[x,Z.a_Costs,dx,_,_,rfl,gx,T.cl_Costs,T.na_Costs_system,vo,?_];exists #[sy,Z.a_System,dy,_,_,rfl,gy,T.cl_System,T.na_put,JQ,?_];exists #[sy,Z.a_System,dy,_,_,rfl,gy,T.cl_System,T.na_move,Ge,?_];exists #[sy,Z.a_System,dy,_,_,rfl,gy,T.cl_System,T.na_states,AZ,?_];exists #[am,mv.9,H0,mv,rfl,Gm,(),(),D.mw,λr1 H1 n1 s1 G1=>?_];obtain u1|g1|q1|_:=id G1;have lu1:=q1.9;have et:(kx mv mv.9).9=mv.9:=j5;exists pP (s1 _ _ gp) g1 (aL (bD ())) λr2 H2 s2 n2 g2=>?_
  have s02:=s1.trans s2;have P2:Paired (dF K (λ_=>none) H2) (iM mv pt) (up++u1):=cA (Paired.imp' (λ_ _ #[q,e,_,R]=>#[q,e,rfl,R.same s02]) qp) (Paired.imp' (λ_ _ #[q,e,_,R]=>#[q,e,rfl,R.same s2]) q1);have G2:bQ K (λ_=>none) H2 r2 (iM mv pt):=#[_,g2,P2,oO #[H1,n2,cA (Paired.imp' (λ_ _ #[q,e,_,R]=>#[q,e,rfl,R.same s1]) qp) (Paired.imp' (λ_ _ #[q,e,_,R]=>#[q,e,rfl,R]) q1)]];have sl:=Bf (mv:=mv) (pt:=pt);have sdw:=AA D;have fl:(iM mv pt).flatten.length<=96:=aj (AJ (m:=8) λxs hx=>by rw[sdw xs hx];exact d8) ();obtain Ms|hMs:=F.ms;obtain Mo|hMo:=F.mo;have ss:=F.ss;have sbb:=F.sb;have os:=F.os;have obb:=F.ob;have lS:(pC (iM mv pt)).9=pt.9+mv.9:=by rw[xg,sl]
  have wS:=yx sdw;exists #[r2,_,_,Ms,rfl,G2,(),(),λxs hx=>by rw[sdw xs hx];lia,hMs,λt3 r3 H3 g3 s3 G3=>?_];have s03:=s02.trans s3;generalize hS:pC (iM mv pt)=S9 at G3 ss lS wS;generalize hB:tL (iM mv pt)=B9 at g3 sbb;obtain u3|gu3|qu3:=id G3;have lu3:=qu3.9;have gt3:=s03 _ _ gt;exists #[#[_,bJ.of gu3],?_];refine cL (K:=K) (as:=S9) (F:=RI) RI (λs=>uE S9 (uE wl s)) gu3 qu3 () (λh s=>h.same s) (λh s=>h.same s) ?_ ?_
  ·rintro i c v H' NY NN ec s' ⟨u,rfl,gc⟩ k1;have mc:=ao ec;have gt':=s' _ _ gt3;have g3':=s' _ _ g3;exists #[p,u,wl,c,b,sg,rfl,GW.same (s03.trans s'),gc,λl hl=>by rw[ww l hl,wS c mc],(),by rw[wS c mc];lia,sw,ss c mc,(),λr5 H5 n5 s5 g5=>?_];have g35:=s5 _ _ g3';exists #[r3,r5,S9,_,sg,b+sg+8,rfl,G3.same (s'.trans s5),g5,λl hl=>by unfold uE;rw[af,lw,wS l hl],(),by unfold uE;rw[af];lia,ss,λz hz=>?_,(),λr6 H6 n6 s6 g6=>k1 _ _ (s5.trans s6) #[r6,rfl,g6]];unfold uE at hz;obtain l|hl|rfl:=av.mp hz;exact (xO (sw l hl) (ss c mc)).mono (by rw[ww l hl];lia)
  rintro ys4 H4 l4 n4 s4 g4 pr4 _;have s34:=s4;have s04:=s03.trans s4;have g34:=s4 _ _ g3;have gt4:=s04 _ _ gt;exists fD (show fO _ _ from .inr #[sg,sg,sbb,sbb,()]) ?_;exists fD (show fO _ _ from .inr #[sg+sg,b,sbb.mul sbb,swb,()]) ?_;have gx4:=s04 _ _ gx;obtain v1|gv1|qv1:=R1.same s04;obtain v2|gv2|qv2:=R2.same s04;have lq:=F.lq;have lr:=F.lr;have lv1:=qv1.9;have lv2:=qv2.9;exists #[x,Z.a_Costs,dx,_,_,rfl,gx4,T.cl_Costs,T.na_Costs_put_weights,Sb,?_];exists #[x,Z.a_Costs,dx,_,_,rfl,gx4,T.cl_Costs,T.na_Costs_state_weights,R0,?_];exists pP gv2 gv1 (aL (bD ())) λr5 H5 s5 n5 g5=>?_
  have s05:=s04.trans s5;have R5:cu K H5 r5 (iQ qs rs):=#[_,g5,cA (Paired.imp' (λ_ _ z=>z.same s5) qv2) (Paired.imp' (λ_ _ z=>z.same s5) qv1)];have lo:(iQ qs rs).9=pt.9+mv.9:=by unfold iQ;rw[aB];lia
  exists #[r5,_,Mo,rfl,R5,(),hMo,λt6 r6 H6 g6 s6 G6=>?_];replace G6:=G6.gi;have s06:=s05.trans s6;generalize hO:cp ((iQ qs rs).map nm) (cI ((iQ qs rs).map nm))=O9 at G6 os;generalize hC:cI ((iQ qs rs).map nm)=C9 at g6 obb;have lO:O9.9=pt.9+mv.9:=by rw[<- hO];unfold cp;rw[af,af,lo]
  obtain u6|gu6|qu6:=id G6;have lu6:=qu6.9;have lml:(Iu O9).9=O9.9:=by unfold Iu;rw[af,bu]
  have g46:=(s5.trans s6) _ _ g4;have pr46:Paired (RI H6) (S9.map λs=>uE S9 (uE wl s)) ys4:=Paired.imp' (λ_ _ z=>RI.same z (s5.trans s6)) pr4
  have szL:∀s∈S9,∀z∈uE S9 (uE wl s),Sz (b+2*sg+16) z:=λs hs z hz=>by
   unfold uE at hz;obtain l|hl|rfl:=av.mp hz;refine (xO (ss l hl) (j:=b+sg+8) λz hz=>?_).mono (by rw[wS l hl];lia);obtain l'|hl'|rfl:=av.mp hz;exact (xO (sw l' hl') (ss s hs)).mono (by rw[ww l' hl'];lia)
  exists #[#[_,bJ.of g46],?_];refine Jy (K:=K) (as:=S9.map λs=>uE S9 (uE wl s)) (F:=RI) (λl=>l.map λz=>z*C9) g46 pr46 (by rw[af];lia) (λh s=>h.same s) ?_ ?_
  ·rintro i c v H' NY NN ec s' ⟨u,rfl,gc⟩ k1;obtain s9|hs9|rfl:=av.mp (ao ec);have g6':=s' _ _ g6;exists #[#[_,bJ.of gc],?_];refine cL (K:=K) (as:=uE S9 (uE wl s9)) (F:=λ_ z x=>x=V.int z) (λ_ z x=>x=V.int z) (λz=>z*C9) gc oa (by unfold uE;rw[af];lia) (λh _=>h) (λh _=>h) ?_ ?_
   ·rintro j z v H3 NY2 NN2 ez s3 rfl k2;have g63:=s3 _ _ g6';exists fD (show fO _ _ from .inr #[b+2*sg+16,om,szL s9 hs9 z (ao ez),obb,()]) ?_;exact k2 _ _ (aA.refl _) rfl
   rintro ys H3 l hl s3 g3 pr _;exact k1 l H3 s3 hl (by rw[g3,rS pr])
  rintro ys8 H8 r8 n8 s8 g8 nd8 pr8 nin8;have eL:((S9.map λs=>uE S9 (uE wl s)).map λl=>l.map λz=>z*C9)=Hs S9 wl C9:=by unfold Hs;rw[K4];rfl
  rw[eL] at pr8;have ly8:=pr8.9;rw[yR] at ly8;have s08:=s06.trans s8;have lw8:=AE (sl:=S9) (wl:=wl) (ob:=C9);have g68:=s8 _ _ g6;have gu8:=s8 _ _ gu6;have qu8:Paired (RI H8) (Iu O9) u6:=Paired.imp' (λ_ _ z=>RI.same z s8) qu6;exists #[#[_,bJ.of gu8],?_];have lpos:(Hs S9 wl C9).9=S9.9:=yR;refine Hw (K:=K) (l:=r6) (xs:=u6) (λi σ' H'=>(aA H6 H'/\H' r8=some (.lst ys8)/\Paired (Dv H6 H') (Ef (Hs S9 wl C9) (λi=>O9.getD i 0*(B9*B9*wb)) i) ys8)/\∃y1 y2,σ'=[some (.ref x),some (.ref t),some (.ref sy),some (.ref t3),some (.ref l4),some (.int (B9*B9*wb)),some (.ref t6),some (.ref r8),y1,y2]) #[#[s8,g8,pr8],_,_,rfl] (λi σ' H' _ #[#[s,_],_]=>bJ.of (s _ _ gu6)) ?_ ?_
  ·rintro i v σ' H' pp hv ⟨⟨s',gr,pr⟩,y1,y2,rfl⟩ npp;have hi6:i < u6.9:=(aR.mp hv).1;have hi:i < O9.9:=()
   have s2:aA H' (upd H' pp (.tup [.int i,v])):=aA.new npp;have gpp:(upd H' pp (.tup [.int i,v])) pp=some (.tup [.int i,v]):=aK;generalize upd H' pp (.tup [.int i,v])=H2 at s2 gpp ⊢;have s62:=s'.trans s2;obtain row|er|u|rfl|gu:=cE (Paired.imp' (λ_ _ z=>RI.same z s62) qu6) hv;rw[Vn hi] at er;cases er;have pr2:Paired (Dv H6 H2) (Ef (Hs S9 wl C9) (λi=>O9.getD i 0*(B9*B9*wb)) i) ys8:=Paired.imp' (λ_ _ z=>Dv.same z s2) pr;have la:=wX (L:=Hs S9 wl C9) (f:=λi=>O9.getD i 0*(B9*B9*wb)) i;obtain zs|w9|ez|ew|mz|q|rfl|nq|gq:=lK pr2 (i:=i) ();have wz:zs.9=S9.9:=vp lw8 i () zs mz;have ezD:(Ef (Hs S9 wl C9) (λi=>O9.getD i 0*(B9*B9*wb)) i).getD i []=zs:=by rw[ae,ez];rfl
   have gr2:=s2 _ _ gr;have qr:r8≠q:=λz=>nin8 (by rw[z];exact ao ew)
   have e9:((List.range O9.9).map λj=>if j=i then O9.getD j 0 else 0).getD i 0=O9.getD i 0:=by rw[ae,ay,bY hi];show (if i=i then O9.getD i 0 else 0)=_;rw[if_pos rfl]
   exists cy (bJ.of gr2) (eO ew) ?_;exists cy (bJ.of gq) (F6 ()) ?_;exists cy (bJ.of gu) (F6 (by rw[af,bu];exact hi)) ?_;rw[e9];exists fD (show fO _ _ from .inr #[om,sg+sg+b,os _ (getD_in hi),(sbb.mul sbb).mul swb,()]) ?_;exists cy (bJ.of gr2) (eO ew) ?_;exists gZ gq (iu (by rw[af];lia)) rfl ?_;refine #[#[s62.after nq,by rw[a7 qr];exact gr2,?_],_,_,rfl];have:=GS (zs:=zs.set i (zs.getD i 0+O9.getD i 0*(B9*B9*wb))) nq pr2 nd8 ew;rw[List.map_set] at this;show Paired _ ((Ef _ _ i).set i (((Ef _ _ i).getD i []).set i (((Ef _ _ i).getD i []).getD i 0+_))) _
   rw[ezD];exact this
  rintro σ' H9 ⟨⟨s9,g9,pr9⟩,y1,y2,rfl⟩;have g69:=s9 _ _ g6;exists fD (show fO _ _ from .inr #[sg+sg+b,om,(sbb.mul sbb).mul swb,obb,()]) ?_;exists b6 λtA HA sA gA=>?_
  have s0A:=(s06.trans s9).trans sA;refine k tA r8 ys8 HA (by unfold iI;rw[hB,hC];exact gA) s0A (s06.none n8) (sA _ _ g9) ?_;unfold cw V5;rw[hO,hS,hB,hC,show S9.9=u6.9 by lia];exact Paired.imp' (λ_ _ #[q,e,n,g]=>#[q,e,s06.none n,sA _ _ g]) pr9
theorem nM:ba ["lines","at","place","before","used","by","swept"] ["lines","at","place","before"] (aM yE):=by walk_at "d"
theorem Jd (T:Txt K mg Z) (ptree:P.given.tree=none):cQ P w K mg base iJ 1 Z.Eh Z.DY ["lines","at","place","before"] DN:=by
 refine T.wO.F.ok nM (λvs H Q E h=>?_) (λcdv A outer s H vs Q E hr h=>?_)
 ·obtain l|p|ls|kk|c|n|b|rfl|_:=h;rfl
 ·obtain l|p|ls|kk|c|n|b|rfl|hl|G|l1000|hk|hw|n1000|hc|b0|sb|hs|k:=h
  refine #[_,(au (aZ (i:=4) nM.nd rfl (Or.inr rfl) (aU bz (pv 0) (pv 1)))
   (au (aZ (i:=5) nM.nd rfl (Or.inr rfl) (aU bz (pv 4) (pv 2)))
   (au (l7 6 ["line"] ["used","by","place","before"] [4,5,2,3] nM.nd rfl rfl (b7 (pv 0)) (λ_=>(aN (i:=0) (show ND9 ["line","used","by","place","before"] by decide +kernel) rfl (Or.inr rfl) (Or.inl rfl))) (λ_=>cb) (λ_=>(b8 ["mine","yours"] ["by","line","place","before"] [2,0,3,4] (Nx K rfl T.zip (aa (pv 0) (aa (pv 1) ag))) (λ_=>(vh K 2 (cZ (aN (i:=0) (show ND9 ["mine","yours","by","line","place","before"] by decide +kernel)) (cZ (aN (i:=1) (show ND9 ["mine","yours","by","line","place","before"] by decide +kernel)) kF)))) (λ_=>cb) (λ_=>(bA (hJ rfl nM rfl rfl rfl ptree (oU hr)) (bA nV (bA cH (pv 2) (pv 0)) (bA cH (aU (mL K (by rfl)) (pv 3) (pv 4)) (pv 1))) (pv 5))))))
   (au (iE (pv 4) (jk (pv 6) (pv 1) set_list))
   (az (a8 (pv 6))))))),?_]
  refine aX (σ:=[some (.ref p),some (.int kk),some (.int c),some (.int b),none,none,none]) rfl ?_;obtain pl|xs|gx|qx:=id G;have lx:=qx.9;obtain zk|vk|ek|evk|mk|qk|rfl|qkl|gk:=lK qx hk;have wk:=hw zk mk;have ek':ls.getD kk []=zk:=by rw[ae,ek];rfl
  exists cy (bJ.of gx) (eO evk) ?_;exists cy (bJ.of gk) (F6 ()) ?_;exists #[#[_,bJ.of gx],?_];refine eS (K:=K) (xs:=xs) (λi ys H'=>aA H H'/\Paired (Sg l H') ((ls.take i).map λzs=>List.zipWith (λx y=>(zk.getD c 0*x - zs.getD c 0*y).fdiv b) zs zk) ys) (aL (bD ())) #[aA.refl _,.nil] (λi ys H' _ #[s,_]=>bJ.of (s _ _ gx)) ?_ ?_
  ·rintro i v ys0 H' hx hlen ⟨s',pr⟩;obtain zs|ec|q|rfl|ql|gq:=cE qx hx;have mz:=ao ec;have wz:=hw zs mz;have gq':=s' _ _ gq;have gk':=s' _ _ gk;exists #[#[_,bJ.of gq'],#[_,bJ.of gk'],?_];refine Cu (K:=K) (xs:=zs.map V.int) (ws:=zk.map V.int) (λj ys H2=>aA H' H2/\ys=((List.zipWith (λx y=>(zk.getD c 0*x - zs.getD c 0*y).fdiv b) zs zk).take j).map V.int) (aL (bD (by rw[af];lia))) (by rw[af,af];lia) #[aA.refl _,rfl] (λj ys H2 _ #[s2,_]=>#[bJ.of (s2 _ _ gq'),bJ.of (s2 _ _ gk')]) ?_ ?_
   ·rintro j v1 v2 ys H2 r h1 h2 hy ⟨s2,rfl⟩ hr
    obtain ⟨x,ex,rfl⟩:∃x,zs[j]?=some x/\V.int x=v1:=by
     rw[ay] at h1;cases e:zs[j]? with
     | none=>rw[e] at h1;cases h1
     | some x=>rw[e] at h1;exact #[x,rfl,cm h1]
    obtain ⟨y,ey,rfl⟩:∃y,zk[j]?=some y/\V.int y=v2:=by
     rw[ay] at h2;cases e:zk[j]? with
     | none=>rw[e] at h2;cases h2
     | some x=>rw[e] at h2;exact #[x,rfl,cm h2]
    have sr:aA H2 (upd H2 r (.tup [.int x,.int y])):=aA.new hr;have gr:(upd H2 r (.tup [.int x,.int y])) r=some (.tup [.int x,.int y]):=aK;generalize upd H2 r (.tup [.int x,.int y])=H3 at sr gr ⊢;have gq3:=sr _ _ (s2 _ _ gq');have sx:=hs zs mz x (ao ex);have sy:=hs zk mk y (ao ey);have s1:=hs zk mk _ (getD_in (e:=0) (show c < zk.9 by lia));have s3:=hs zs mz _ (getD_in (e:=0) (show c < zs.9 by lia));exists fD (show fO _ _ from .inr #[_,_,s1,sx,()]) ?_;exists cy (bJ.of gq3) (F6 ()) ?_;exists fD (show fO _ _ from .inr #[_,_,s3,sy,()]) ?_;exists fD (show oB _ _ from #[b0,sb]) ?_;have ez:(List.zipWith (λx y=>(zk.getD c 0*x - zs.getD c 0*y).fdiv b) zs zk)[j]?=some ((zk.getD c 0*x - zs.getD c 0*y).fdiv b):=by rw[b9,ex,ey]
    exact #[s2.trans sr,by rw[take_snoc ez];simp]
   ·rintro ys H2 hy ⟨s2,rfl⟩ r hr;have sn:aA H2 (upd H2 r (.lst (((List.zipWith (λx y=>(zk.getD c 0*x - zs.getD c 0*y).fdiv b) zs zk).take (zs.map V.int).9).map V.int))):=aA.new hr;refine #[(s'.trans s2).trans sn,?_];rw[take_snoc ec,cn];refine cA (Paired.imp' (λ_ _ z=>(Sg.same z s2).same sn) pr) (.cons #[r,rfl,ne_old (λz=>hl (s'.none (s2.none z))) hr,?_] .nil);rw[aK,aD (by rw[bM,af];lia)]
  ·rintro ys H1 hy ⟨s1,pr⟩ r hr;have sn:aA H1 (upd H1 r (.lst ys)):=aA.new hr;have gn:(upd H1 r (.lst ys)) r=some (.lst ys):=aK;have ly:=pr.9;rw[af,dh] at ly;generalize upd H1 r (.lst ys)=H2 at sn gn ⊢;exists gZ gn (iu ()) rfl ?_;have s2:aA H1 (upd H2 r (.lst (ys.set kk (.ref qk)))):=sn.after hr;exists k r _ (s1.none hr) (s1.trans s2) #[ne_old (λz=>hl (s1.none z)) hr,_,aK,?_];unfold Ma;rw[ek'];rw[aD ()] at pr;exact wI (Paired.imp' (λ_ _ z=>Sg.same z s2) pr) kk #[qk,rfl,qkl,(s1.trans s2) _ _ gk]
theorem j6:ba ["lines","bottom","divisor","value"] ["lines","bottom"] (aM wu):=by walk_at "d"
theorem GY (T:Txt K mg Z) (ptree:P.given.tree=none):cQ P w K mg base iJ 2 Z.CI Z.Cj ["lines","bottom"] JZ:=by
 have zh:=Fd (P:=P) (w:=w) (base:=base) T ptree;have eV:=ja (P:=P) (w:=w) (base:=base) T ptree;refine T.uH.F.ok j6 (λvs H Q E h=>?_) (λcdv A outer s H vs Q E hr h=>?_)
 ·obtain p|ls|b|rfl|_:=h;rfl
 ·obtain p|ls|b|rfl|G|l20|w20|b0|sb|k:=h
  refine #[_,(au (aZ (i:=2) j6.nd rfl (Or.inr rfl) (pv 1))
   (au (dW PassesOwn.never rfl (b7 (cK zh hr T.vn (aa (pv 0) ag))) (aN (i:=3) j6.nd)
    (az (aZ (i:=2) j6.nd rfl (Or.inr rfl) (cK eV hr T.fM (aa (pv 3) (aa (pv 2) ag))))))
   (az (a8 (cP (aa (b8 ["line"] ["divisor"] [2] (b7 (pv 0)) (λ_=>(aN (i:=0) (show ND9 ["line","divisor"] by decide +kernel))) (λ_=>cb) (λ_=>(b8 ["value"] ["divisor"] [1] (nR K (pv 0)) (λ_=>(aN (i:=0) (show ND9 ["value","divisor"] by decide +kernel))) (λ_=>cb) (λ_=>(bA (hJ rfl j6 rfl rfl rfl ptree (oU hr)) (pv 0) (pv 1)))))) (aa (bA (hJ rfl j6 rfl rfl rfl ptree (oU hr)) (pv 1) (pv 2)) ag))))))),?_]
  refine aX (σ:=[some (.ref p),some (.int b),none,none]) rfl ?_;obtain us|gu|qu:=id G;have lu:=qu.9;have lf:ls.flatten.9<=400:=aj (AJ w20) (aE 20 l20);exists #[p,us,_,rfl,gu,Kf qu,by rw[<- List.map_flatten,af];lia,λf H1 n1 t1 g1=>?_];rw[<- List.map_flatten] at g1;exists #[#[_,bJ.of g1],?_];refine ib (K:=K) (a:=f) (xs:=ls.flatten.map V.int) (λi σ' H'=>aA H1 H'/\∃y,σ'=[some (.ref p),some (.int b),some (.int (C6 b (ls.flatten.take i))),y]) #[aA.refl _,_,rfl] (λi σ' H' _ #[s,_]=>bJ.of (s _ _ g1)) ?_ ?_
  ·rintro i v σ' H' hv ⟨s',y,rfl⟩;rw[ay] at hv;obtain z|ez|rfl:=o9.mp hv;exists #[z,_,rfl,?_];exact #[s',_,by rw[take_snoc ez,Qw];rfl]
  rintro σ' H2 ⟨s2,y,rfl⟩;rw[af,List.take_length];obtain d0|d1|d2:=yW (zs:=ls.flatten) b0
  have sd:Sz 8999000 (C6 b ls.flatten):=sb.le (by
   have:=Int.le_of_dvd b0 d1
   lia)
  generalize hd:C6 b ls.flatten=d at d0 d1 d2 sd ⊢;have s02:=t1.trans s2;exists #[#[_,bJ.of (s02 _ _ gu)],?_];refine cL (K:=K) (as:=ls) (F:=RI) (Dv H) (λl=>l.map λz=>z / d) (s02 _ _ gu) (Paired.imp' (λ_ _ z=>RI.same z s02) qu) () (λh s=>h.same s) (λh s=>h.same s) ?_ ?_
  ·rintro i c x H' NY NN ec s' ⟨u,rfl,gc⟩ k1;have wc:=w20 c (ao ec);exists #[#[_,bJ.of gc],?_];refine cL (K:=K) (as:=c) (F:=λ_ z x=>x=V.int z) (λ_ z x=>x=V.int z) (λz=>z / d) gc oa () (λh _=>h) (λh _=>h) ?_ ?_
   ·rintro j z v H3 NY2 NN2 ez s3 rfl k2;exists fD #[(),sd] ?_;exact k2 _ _ (aA.refl _) (by rw[bK _ ()])
   rintro ys H3 l hl s3 g3 pr _;exact k1 _ _ s3 #[l,rfl,s02.none (s'.none hl),by rw[g3,rS pr]]
  rintro ys H3 r nr s3 g3 pr _;exists fD #[(),sd] ?_;exists b6 λt4 H4 s4 g4=>?_
  rw[bK _ ()] at g4;refine k t4 r H4 (by unfold w5;rw[hd];exact g4) ((s02.trans s3).trans s4) ?_;unfold wQ;rw[hd];exact Iw.same #[s02.none nr,ys,g3,pr] s4
theorem dj:ba ["self","behind","whole","ins","lines","by","place"] ["self","behind"] (aM gJ):=by walk_at "d"
theorem xG (T:Txt K mg Z) (ptree:P.given.tree=none):cQ P w K mg base iJ 6 Z.lV Z.lR ["self","behind"] (GC K Z.a_System Z.a_Costs):=by
 have ym:=wL (P:=P) (w:=w) (base:=base) T ptree;have Mj:=Jd (P:=P) (w:=w) (base:=base) T ptree;have JI:=GY (P:=P) (w:=w) (base:=base) T ptree;refine T.rh.ok dj (λvs H Q E h=>?_) (λcdv A outer s H vs Q E hr h=>?_)
 ·obtain x|kn|t|p|H0|mv|pt|lk|qs|rs|wl|wb|sg|om|b|j9|rfl|_:=h;rfl
 ·obtain x|kn|t|p|H0|mv|pt|lk|qs|rs|wl|wb|sg|om|b|j9|rfl|CQ|D|F|gt|GW|lw|ww|sw|swb|sz|kp|AF|j1|k:=h
  refine #[_,(au (aZ (i:=2) dj.nd rfl (Or.inl rfl) (iP (pv 0) T.cl_Costs T.nZ ym (hr.mono ()) T.oX .nil kd (aa (pv 1) ag)))
   (au (aZ (i:=3) dj.nd rfl (Or.inr rfl) (fE (fE (pv 0) rfl) rfl))
   (au (aZ (i:=4) dj.nd rfl (Or.inl rfl) (aU bP (pv 2) ak))
   (au (aZ (i:=5) dj.nd rfl (Or.inl rfl) ak)
   (au (dW PassesOwn.never rfl (cC rfl T.range (aa (pv 3) ag)) (aN (i:=6) dj.nd)
    (au (aZ (i:=4) dj.nd rfl (Or.inl rfl) (cK Mj hr T.wO (aa (pv 4) (aa (pv 6) (aa (pv 6) (aa (pv 5) ag))))))
   (az (aZ (i:=5) dj.nd rfl (Or.inl rfl) (aU bz (aU bz (pv 4) (pv 6)) (pv 6))))))
   (au (l7 4 ["line"] ["ins"] [3] dj.nd rfl rfl (b7 (pv 4)) (λ_=>(aN (i:=0) (show ND9 ["line","ins"] by decide +kernel))) (λ_=>cb) (λ_=>(qF (M7 K (by rfl)) (pv 0) (vf (pv 1)) vg)))
   (az (a8 (cP (aa (cK JI hr T.uH (aa (qF ve (pv 4) (vf (pv 3)) vg) (aa (bA cH (pv 5) (aU bP (pv 2) ak)) ag))) (aa (cP (aa (qF ve (pv 4) vg (vf (pv 3))) (aa (vC pB (pv 5)) ag))) ag))))))))))),?_]
  refine aX (σ:=[some (.ref x),some (.ref t),none,none,none,none,none]) rfl ?_;have d8:=D.n8;have i4:=D.i4;obtain dx|sy|a1|a2|a3|gx|S|R1|R2:=id CQ;obtain dy|am|ap|al|gy|m1|m2|m3|Gm|Gp|Gl:=id S;exists #[x,dx,_,rfl,gx,qQ (by decide +kernel) (by decide +kernel) (by decide +kernel) (by decide +kernel) (by decide +kernel),?_];exists #[x,kn,t,p,H0,mv,pt,lk,qs,rs,wl,wb,sg,om,b,rfl,CQ,D,F,gt,GW,lw,ww,sw,swb,sz,λt1 r1 ys1 H1 g1 s1 nr1 gr1 pr1=>?_];have gx1:=s1 _ _ gx;have gy1:=s1 _ _ gy;exists #[x,Z.a_Costs,dx,_,_,rfl,gx1,T.cl_Costs,T.na_Costs_system,vo,?_];exists #[sy,Z.a_System,dy,_,_,rfl,gy1,T.cl_System,T.na_ins,Po,?_];have nxe:∀{q},H q=none->q≠x:=λh z=>by rw[z,gx] at h;cases h
  have G1:Ig x H1 r1 (cw mv pt qs rs wl wb):=#[nxe nr1,ys1,gr1,Paired.imp' (λ_ _ #[q,e,n,g]=>#[q,e,nxe n,g]) pr1];have sB:Sz (b+2*sg+om+40) (iI mv pt qs rs wb):=(((F.sb.mul F.sb).mul swb).mul F.ob).mono ();generalize hL:cw mv pt qs rs wl wb=L at G1 AF k;generalize hB:iI mv pt qs rs wb=B9 at g1 sB kp k;clear pr1 gr1;have N12:pt.9+mv.9<=12:=()
  exists #[(),(),?_];refine eH (n:=pt.9) (λi σ' H'=>aA H1 H'/\∃rr y,σ'=[some (.ref x),some (.ref t),some (.ref t1),some (.int pt.9),some (.ref rr),some (.int (dU L i).2),y]/\Ig x H' rr (dU L i).1) #[aA.refl _,r1,_,rfl,G1] ?_ ?_
  ·rintro i σ' H' hi ⟨s',rr,y,rfl,Gr⟩;have li:=AF.len i ();have wi:=AF.wide i ();have li1:=AF.len (i+1) ();have wi1:=AF.wide (i+1) ();exists #[x,rr,_,i,i,_,_,rfl,by rw[s' _ _ gx1];exact (λz=>nomatch z),Gr,(),(),wi,(),(),by have:=AF.pos i ();lia,(AF.sb i ()).mono (),λl hl z hz=>(AF.sz i () l hl z hz).mono (),λr2 H2 n2 s2 G2=>?_];have G2:Ig x H2 r2 (dU L (i+1)).1:=G2;obtain _|vs|gv|qv:=id G2;have lv:=qv.9;obtain zs|v9|ez|ev|mz|q|rfl|nq|gq:=lK qv (i:=i) ();have wz:=wi1 zs mz
   have eD:(dU L (i+1)).2=zs.getD i 0:=by
    show ((dU L (i+1)).1.getD i []).getD i 0=_
    rw[ae (l:=(dU L (i+1)).1),ez];rfl
   exists cy (bJ.of gv) (eO ev) ?_;exists cy (bJ.of gq) (F6 ()) ?_;exact #[s'.trans s2,r2,_,by rw[eD];rfl,G2]
  rintro σ' H2 ⟨s2,rr,y,rfl,Gr⟩;have lm:=AF.len pt.9 (ar _);have wm:=AF.wide pt.9 (ar _);have pm:=AF.pos pt.9 (ar _);have sm:=AF.sb pt.9 (ar _);have zm:=AF.sz pt.9 (ar _);obtain _|vs|gv|qv:=id Gr;have lv:=qv.9;have s02:=s1.trans s2;exists #[#[_,bJ.of gv],?_];refine cL (K:=K) (as:=(dU L pt.9).1) (F:=Sg x) (Dv H) (λl=>l.drop pt.9) gv qv () (λh s=>h.same s) (λh s=>h.same s) ?_ ?_
  ·rintro i c v H' NY NN ec s' ⟨u,rfl,nu,gc⟩ k1;exists Bv (bJ.of gc) λlA HA sA nA gA=>?_
   rw[HQ,<- List.map_drop] at gA;exact k1 _ _ sA #[lA,rfl,s02.none (s'.none nA),gA]
  rintro ys3 H3 r3 n3 s3 g3 RD _;have l3:=RD.length;rw[af] at l3;have s03:=s02.trans s3;have g13:=(s2.trans s3) _ _ g1;exists Bv (bJ.of g3) λr4 H4 s4 n4 g4=>?_
  rw[HQ] at g4;have s04:=s03.trans s4;have P4:Paired (RI H4) (yQ L pt.9) (ys3.drop pt.9):=Paired.imp' (λ_ _ #[q,e,_,g]=>#[q,e,s4 _ _ g]) (vE RD pt.9);have g14:=s4 _ _ g13;exists fD (show fO _ _ from .inr #[j9,b+2*sg+om+40,sm,sB,()]) ?_;walk_at "w";have llo:(yQ L pt.9).9<=20:=by unfold yQ QN;rw[fh,af];lia
  have wlo:∀l∈yQ L pt.9,l.9<=20:=λl hl=>by
   obtain l'|h'|rfl:=av.mp (gW hl);rw[fh,wm l' h']
   lia
  refine #[r4,yQ L pt.9,_,rfl,#[_,g4,P4],llo,wlo,fj pm kp,(sm.mul sB).mono (),λt5 r5 H5 g5 s5 G5=>?_];have s05:=s04.trans s5;exists Bv (bJ.of ((s4.trans s5) _ _ g3)) λr6 H6 s6 n6 g6=>?_
  rw[OE] at g6;exists b6 λt7 H7 s7 g7=>?_
  exists b6 λt8 H8 s8 g8=>?_
  have s58:=(s6.trans s7).trans s8;refine k _ t8 t5 t7 r5 r6 H8 rfl (s05.trans s58) g8 (s58 _ _ g5) ((G5.weak s04).same s58) (s8 _ _ g7) #[s05.none n6,_,(s7.trans s8) _ _ g6,?_];exact Paired.imp' (λ_ _ z=>Dv.same z ((s4.trans s5).trans s58)) (uA RD pt.9)
theorem wg:ba ["self","left"] ["self","left"] (aM fK):=by walk_at "d"
theorem jV (T:Txt K mg Z) (ptree:P.given.tree=none):cQ P w K mg base iJ 7 Z.kW Z.kR ["self","left"] (J0 K Z.a_System Z.a_Costs):=by
 have zv:=xG (P:=P) (w:=w) (base:=base) T ptree;refine T.o7.ok wg (λvs H Q E h=>?_) (λcdv A outer s H vs Q E hr h=>?_)
 ·obtain A9|x|kn|H0|mv|pt|lk|qs|rs|fs|tt|sg|om|b|j9|l|us|rfl|_:=h;rfl
 ·obtain A9|x|kn|H0|mv|pt|lk|qs|rs|fs|tt|sg|om|b|j9|l|us|rfl|LA|Ak|CQ|D|F|lT|KU|k:=h
  refine #[_,(au (By PassesOwn.never (bC Vi (bG bw (by rfl) T.len bc (aa (fE (pv 0) rfl) ag)) (pv 1) (bI _))
    (az (i8 (vD cN cX cW jB (fE (pv 0) rfl) (aa (iP (pv 0) T.cl_Costs T.oT zv (hr.mono ()) T.qU .nil kd (aa (aU bP (aU bz (fE (pv 0) rfl) (vC pB ak)) ak) ag)) ag)))))
   (az (a8 (aU bz (fE (pv 0) rfl) (pv 1))))),?_]
  refine aX (σ:=[some (.ref x),some (.int l)]) rfl ?_;have t8:=F.t8;exists Ex (λσ' H'=>σ'=[some (.ref x),some (.int l)]/\uW kn H H'/\∃us',vq A9 (bT mv pt qs rs fs) kn H' us') (λ_ H'=>match H' kn with | some (.lst ws)=>20 - ws.9 | _=>0) #[rfl,(aA.refl _).smx,us,KU] ?_;rintro σ' H' ⟨rfl,sH,ws,KW⟩;obtain gw|w1|w9|pw:=id KW;have CW:=CQ.same (sQ Ak sH);have LW:=LA.smx sH gw;have CH:=CW.same a9;obtain dx|sy|a1|a2|a3|gx|S|R1|R2:=id CH;exists #[x,Z.a_Costs,dx,_,_,rfl,gx,T.cl_Costs,T.na_Costs_known,xX,?_];exists #[_,_,rfl,.inl (bJ.of gw),?_];exists jC (λh=>?_) (λh=>?_)
  ·have h:=of_decide_eq_true h;obtain ds|v|ed|ev|md|kv:=lK pw (i:=ws.9 - 1) (by rw[af,bu];lia);rw[ay,bY ()] at ed;cases ed;have ew:∃zs,ws=zs++[v]:=#[ws.take (ws.9 - 1),by rw[<- take_snoc ev,aD ()]];obtain zs|rfl:=ew;have lz:(zs++[v]).9=zs.9+1:=aB ..;rw[lz,Nat.add_sub_cancel] at kv;have tz:zs.9 < tt:=()
   obtain t|tw|ts|pw'|ps'|rfl|g1|g2|G1|g3|G2:=kv.same a9;exists #[x,Z.a_Costs,dx,_,_,rfl,gx,T.cl_Costs,T.na_Costs_known,xX,?_];exists #[.inl #[rfl,_,bJ.of gw],?_];exists #[x,dx,_,rfl,gx,qQ (by decide +kernel) (by decide +kernel) (by decide +kernel) (by decide +kernel) (by decide +kernel),?_];exists #[x,Z.a_Costs,dx,_,_,rfl,gx,T.cl_Costs,T.na_Costs_known,xX,?_];exists cy (bJ.of gw) (CC _ _) ?_;exists #[x,kn,tw,pw',H0,mv,pt,lk,qs,rs,_,_,sg,om,b,j9,rfl,CH,D,F.st,g2,G1,F.lw _ (),F.ww _ (),F.sw _ (),(F.wb _ ()).2,F.l1,F.kp _ tz,F.ah _ tz,F.l2,λv' t' tw' ts' pw2 ps2 H2 e2 s2 h1 h2 N1 h3 N2=>?_];subst e2;have gw2:=s2 _ _ gw;have L2':=LW.same s2;have KV:Wm (dS A9 H2) (bT mv pt qs rs fs (zs.9+1)) (.ref t'):=#[t',tw',ts',pw2,ps2,rfl,gY h1 (L2'.tup h1),gY h2 (L2'.tup h2),N1.hid LW,gY h3 (L2'.tup h3),N2.hid LW];exists jA gw2 (bD ()) ?_;have l2:(zs++[V.ref t]++[V.ref t']).9=zs.9+2:=by simp
   refine #[#[rfl,(sH.trans s2.smx).put,_,aK,(),(),?_],?_]
   ·rw[l2,C0,cn,Ft Ak];refine cA ?_ (.cons KV .nil);rw[lz] at pw;exact Paired.imp' (λ_ _ z=>z.same (cG s2)) pw
   ·show (match (upd H2 kn (.lst (zs++[V.ref t]++[V.ref t']))) kn with | some (.lst ws)=>20 - ws.9 | _=>0) < (match H' kn with | some (.lst ws)=>20 - ws.9 | _=>0)
    rw[aK,gw];show 20 - (zs++[V.ref t]++[V.ref t']).9 < 20 - (zs++[V.ref t]).9
    lia
  have h:¬((ws.9:Int)<=(l:Int)):=λz=>h (decide_eq_true z)
  obtain ds|v|ed|ev|md|kv:=lK pw (i:=l) (by rw[af,bu];lia);rw[ay,bY ()] at ed;cases ed;exists #[x,Z.a_Costs,dx,_,_,rfl,gx,T.cl_Costs,T.na_Costs_known,xX,?_];exists cy (bJ.of gw) (eO ev) ?_;exact k v ws H' sH KW kv
theorem Bj:ba ["self","left"] ["self","left"] (aM iW):=by walk_at "d"
theorem uG (T:Txt K mg Z) (ptree:P.given.tree=none):cQ P w K mg base iJ 8 Z.p7 Z.p4 ["self","left"] (DG K Z.a_System Z.a_Costs):=by
 have Ii:=E8 (P:=P) (w:=w) (base:=base) T ptree;have ig:=jV (P:=P) (w:=w) (base:=base) T ptree;refine T.vZ.ok Bj (λvs H Q E h=>?_) (λcdv A outer s H vs Q E hr h=>?_)
 ·obtain A9|x|kn|H0|mv|pt|lk|qs|rs|fs|tt|sg|om|b|j9|l|us|rfl|_:=h;rfl
 ·obtain A9|x|kn|H0|mv|pt|lk|qs|rs|fs|tt|sg|om|b|j9|l|us|rfl|LA|Ak|CQ|D|F|lT|KU|k:=h;refine #[_,(az (a8 (cK Ii hr T.rW (aa (aU bP (iP (pv 0) T.cl_Costs T.iR ig (hr.mono ()) T.jd .nil kd (aa (pv 1) ag)) ak) ag)))),?_];refine aX (σ:=[some (.ref x),some (.int l)]) rfl ?_;have d8:=D.n8;obtain dx|sy|a1|a2|a3|gx|S|R1|R2:=CQ.same a9;exists #[x,dx,_,rfl,gx,qQ (by decide +kernel) (by decide +kernel) (by decide +kernel) (by decide +kernel) (by decide +kernel),?_];exists #[A9,x,kn,H0,mv,pt,lk,qs,rs,fs,tt,sg,om,b,j9,l,us,rfl,LA,Ak,CQ,D,F,lT,KU,λv us' H1 s1 KU1 kv=>?_];obtain t|tw|ts|pw|ps|rfl|g1|g2|G1|g3|G2:=kv.same a9;exists #[tw,pw,_,_,rfl,g2,G1,by rw[F.lw l lT];lia,λc hc=>by rw[F.ww l lT c hc];lia,by have:=(F.wb l lT).1;lia,(F.wb l lT).2.mono (by have:=F.l1;lia),λr2 H2 n2 s2 G=>?_];exact k r2 us' H1 H2 s1 KU1 s2 n2 G
theorem xn:ba ["_law_thing"] ["_law_thing"] (aM uv):=by walk_at "d"
theorem vG (T:Txt K mg Z) (ptree:P.given.tree=none):∀i:Nat,cQ P w K mg base iJ (0+i+1) Z.uT Z.uP ["_law_thing"] (J5 K i)
| 0=>T.fA.F.ok xn (λvs H Q E h=>(show False from h).elim) (λcdv A outer s H vs Q E hr h=>(show False from h).elim)
| i+1=>by
 have o3:=vG T ptree i;refine T.fA.F.ok xn (λvs H Q E h=>?_) (λcdv A outer s H vs Q E hr h=>?_)
 ·obtain x|rfl|_:=h;rfl
 ·obtain x|rfl|h:=h
  refine #[_,(au (dO (iY (rR rfl T.isinstance PyProof.Rows.boot_list T.list (pv 0))) (az (a8 (b8 ["_law_one"] [] [] (b7 (pv 0)) (λ_=>(aN (i:=0) (show ND9 ["_law_one"] by decide +kernel))) (λ_=>cb) (λ_=>(E4 o3 (hr.mono ()) rfl T.fA.m T.fA.F.kp T.fA.b .nil kd (aa (pv 0) ag)))))) ck)
   (au (dO (iY (rR rfl T.isinstance PyProof.Rows.boot_tuple T.tuple (pv 0))) (az (a8 (eI Dq (by rfl) T.tuple PyProof.Rows.boot_tuple (aa (b8 ["_law_one"] [] [] (Ny (pv 0)) (λ_=>(aN (i:=0) (show ND9 ["_law_one"] by decide +kernel))) (λ_=>cb) (λ_=>(E4 o3 (hr.mono ()) rfl T.fA.m T.fA.F.kp T.fA.b .nil kd (aa (pv 0) ag)))) ag)))) ck)
   (az (a8 (pv 0))))),?_]
  refine aX (σ:=[some x]) rfl ?_;rcases h with ⟨fx,k⟩ | ⟨hi,q,nq,k⟩ | ⟨hi,p,qs,rfl,Rp,l100,k⟩ | ⟨hi,p,H0,rs,rfl,Gp,l100,w100,k⟩ | ⟨hi,t,xs,H0,ds,rfl,st,pd,l10,hok,k⟩
  ·walk_at "w";cases x with
   | non =>
    refine .inl #[_,false,.non,rfl,?_];exists .inl #[_,false,.non,rfl,?_];exists k _ (aA.refl _)
   | bl v =>
    refine .inl #[_,false,.bl v,rfl,?_];exists .inl #[_,false,.bl v,rfl,?_];exists k _ (aA.refl _)
   | int v =>
    refine .inl #[_,false,.int v,rfl,?_];exists .inl #[_,false,.int v,rfl,?_];exists k _ (aA.refl _)
   | str v =>
    refine .inl #[_,false,.str v,rfl,?_];exists .inl #[_,false,.str v,rfl,?_];exists k _ (aA.refl _)
   | _=>exact absurd (show false=true from fx) bF
  ·obtain ⟨j,rfl⟩:∃j,i=j+1:=#[i - 1,()];obtain p|rfl|sq:=id nq;exists .inr #[p,_,false,rfl,sq,rfl,?_];exists .inr #[p,_,true,rfl,sq,rfl,?_];exists #[#[_,sq],?_];refine D4 (K:=K) (as:=[(nm q).1,(nm q).2]) (F:=λ_ c x=>x=V.int c) (λ_ c x=>x=V.int c) id sq (.cons rfl (.cons rfl .nil)) (by simp) (λh _=>h) (λh _=>h) ?_ ?_
   ·rintro i2 c x H' NY NN ec s' rfl k1;exists #[_,rfl,.inl #[rfl,λH2 s2=>k1 _ _ s2 rfl]]
   rintro ys H2 l hl s2 g2 pr _
   obtain rfl:ys=[V.int (nm q).1,V.int (nm q).2]:=by
    cases pr with
    | cons h1 t=>cases t with
     | cons h2 t'=>cases t';rw[h1,h2];rfl
   exists #[l,_,rfl,.inl #[bJ.of g2,λr hr=>?_]];exact k r _ (s2.trans (aA.new hr)) #[r,rfl,nG.of aK]
  ·obtain ⟨j,rfl⟩:∃j,i=j+1:=#[i - 1,()];obtain xs|g|qx:=id Rp;have lx:=qx.9;exists .inl #[_,true,.lst g,rfl,?_];exists #[#[_,bJ.of g],?_];refine cL (K:=K) (as:=qs) (F:=bS K) (bS K) id g qx () (λh s=>h.same s) (λh s=>h.same s) ?_ ?_
   ·rintro i2 c x H' NY NN ec s' nc k1;exists #[_,rfl,.inr (.inl #[(),c,nc,λr H2 s2 n2=>k1 _ _ s2 n2])]
   rintro ys H2 l hl s2 g2 pr _;rw[tK] at pr;exact k l H2 hl s2 #[ys,g2,pr]
  ·obtain ⟨j,rfl⟩:∃j,i=j+1:=#[i - 1,()];obtain xs|g|qx|_:=id Gp;have lx:=qx.9;exists .inl #[_,true,.lst g,rfl,?_];exists #[#[_,bJ.of g],?_];refine cL (K:=K) (as:=rs) (F:=dF K H0) (dF K H) id g qx () (λh s=>h.same s) (λh s=>h.same s) ?_ ?_
   ·rintro i2 c x H' NY NN ec s' ⟨q,rfl,nq,Rq⟩ k1;exists #[_,rfl,.inr (.inr (.inl #[(),q,c,rfl,Rq,w100 c (ao ec),λr H2 nr s2 R2=>k1 _ _ s2 #[r,rfl,s'.none nr,R2]]))]
   rintro ys H2 l hl s2 g2 pr nx;rw[tK] at pr nx;exact k l H2 hl s2 #[ys,g2,pr,oO nx]
  ·obtain ⟨j,rfl⟩:∃j,i=j+1:=#[i - 1,()];exists .inr #[t,_,false,rfl,st,rfl,?_];exists .inr #[t,_,true,rfl,st,rfl,?_];exists #[#[_,st],?_];refine D4 (K:=K) (as:=ds) (F:=Sl K H0) (Sl K H) id st pd () (λh s=>h.same s) (λh s=>h.same s) ?_ ?_
   ·rintro i2 c x H' NY NN ec s' ec' k1;have ok:=hok c (ao ec);walk_at "w";cases c with
    | fl v =>
     obtain rfl:x=v:=ec';exact #[_,rfl,.inl #[ok,λH2 s2=>k1 _ _ s2 rfl]]
    | row qs =>
     obtain p|rfl|np|Rp:=ec';exact #[_,rfl,.inr (.inr (.inl #[(),p,qs,rfl,Rp,ok,λr H2 nr s2 R2=>k1 _ _ s2 #[r,rfl,s'.none nr,R2]]))]
    | grid rs =>
     obtain p|rfl|np|Gp:=ec';exact #[_,rfl,.inr (.inr (.inr (.inl #[(),p,H0,rs,rfl,Gp,ok.1,ok.2,λr H2 nr s2 G2=>k1 _ _ s2 #[r,rfl,s'.none nr,G2.weak s']])))]
   rintro ys H2 l hl s2 g2 pr _;rw[tK] at pr;have ly:=pr.9;exists #[l,_,rfl,.inl #[bJ.of g2,λr hr=>?_]];exact k r ys _ (s2.trans (aA.new hr)) aK (Paired.imp' (λ_ _ z=>Sl.same z (aA.new hr)) pr)
theorem Fj (T:Txt K mg Z) (ptree:P.given.tree=none):cQ P w K mg base iJ 6 Z.uT Z.uP ["_law_thing"] (J5 K 5):=vG T ptree 5
theorem oH:ba ["_law_thing","_law_part"] ["_law_thing"] (aM lH):=by walk_at "d"
theorem oN (T:Txt K mg Z) (ptree:P.given.tree=none):cQ P w K mg base iJ 2 Z.qZ Z.qN ["_law_thing"] (Lp K):=by
 have fX:=kf (P:=P) (w:=w) (base:=base) T ptree;refine T.jb.F.ok oH (λvs H Q E h=>?_) (λcdv A outer s H vs Q E hr h=>?_)
 ·obtain x|n|rfl|_:=h;rfl
 ·obtain x|n|rfl|⟨p,rfl,hp⟩|hn|k:=h
  refine #[_,(au (dO (PW.pt (lC (jU (iY (rR rfl T.isinstance PyProof.Rows.boot_tuple T.tuple (pv 0)))) (jT (bC zB (bG bw (by rfl) T.len bc (aa (pv 0) ag)) ak (bI _))))) (az (a8 oK)) ck)
   (au (dW PassesOwn.never rfl (Ny (pv 0)) (aN (i:=1) oH.nd)
    (az (dO (PW.pt (lC (jU (iY (rR rfl T.isinstance PyProof.Rows.boot_int T.int (pv 1)))) (jT (iY (rR rfl T.isinstance PyProof.Rows.boot_bool T.bool (pv 1)))))) (az (a8 oK)) ck)))
   (az (a8 (E5 (jM xy (aU bP (pv 0) ak) ak (bI _)) (E2 (jM (Ja (BZ hr)) (cK fX hr T.hZ (aa (aU bP (pv 0) ak) (aa (aU bP (pv 0) ak) ag))) (pv 0) (bI _)))))))),?_]
  refine aX (σ:=[some (.ref p),none]) rfl ?_;obtain hb|hg|_|hs:=hn;exists .inr #[p,_,_,rfl,hp,rfl,?_];exists #[_,_,rfl,.inr hp,?_];walk_at "w"
  try refine Oa ?_
  exists #[#[_,hp],?_];refine Qz (K:=K) (a:=p) (xs:=[.int n.1,.int n.2]) (λi σ' H'=>H'=H/\∃x,σ'=[some (.ref p),x]) #[rfl,none,rfl] (λi σ' H' _ #[e,_]=>by subst e;exact hp) ?_ ?_
  ·rintro i x σ' H' hx ⟨rfl,y,rfl⟩
   obtain ⟨z,rfl⟩:∃z,x=V.int z:=by
    have hm:x∈[V.int n.1,V.int n.2]:=ao hx;simp only[aI,aT,or_false] at hm;rcases hm with e | e
    ·exact #[_,e]
    ·exact #[_,e]
   exists .inl #[_,_,.int z,rfl,?_];exists .inl #[_,_,.int z,rfl,?_];exists #[rfl,_,rfl]
  ·rintro σ' H' ⟨rfl,x,rfl⟩;walk_at "w";rw[decide_eq_true hb];exists #[n.1,n.2,rfl,hb,hs.mono (),λr H' s1 h'=>?_];obtain e1|e2:=Ts hb hg;exists #[_,_,Vs,(lo n.1 n.2,hi n.1 n.2),n,(),#[r,rfl,nG.of h'],#[p,rfl,s1.sqt hp],?_];rw[e1,e2,decide_eq_true rfl];exact k _ s1
theorem Bh:ba ["_law_thing","_law_many"] ["_law_thing","_law_many"] (aM pK):=by walk_at "d"
theorem BN (T:Txt K mg Z) (ptree:P.given.tree=none):cQ P w K mg base iJ 3 Z.vV Z.vO ["_law_thing","_law_many"] (yz K):=by
 have lY:=oN (P:=P) (w:=w) (base:=base) T ptree;refine T.nY.F.ok Bh (λvs H Q E h=>?_) (λcdv A outer s H vs Q E hr h=>?_)
 ·obtain p|ns|rfl|_:=h;rfl
 ·obtain p|ns|rfl|hp|hl|hn|k:=h
  refine #[_,(au (dO (PW.pt (lC (jU (iY (yL rfl T.isinstance PyProof.Rows.boot_list T.list (pv 0)))) (jT (bC zB (bG bw (by rfl) T.len bc (aa (pv 0) ag)) (pv 1) (bI _))))) (az (a8 oK)) ck)
   (az (a8 (bG (Cy rfl) (by rfl) T.all PyProof.Rows.boot_all (aa (b8 ["_law_one"] [] [] (b7 (pv 0)) (λ_=>(aN (i:=0) (show ND9 ["_law_one"] by decide +kernel))) (λ_=>cb) (λ_=>(cK lY hr T.jb (aa (pv 0) ag)))) ag))))),?_]
  refine aX (σ:=[some (.ref p),some (.int ns.9)]) rfl ?_;obtain xs|gx|qx:=id hp;have lx:=qx.9;exists #[_,_,.lst gx,rfl,?_];exists #[_,_,rfl,.inl (bJ.of gx),?_];walk_at "w";rw[show ((xs.9:Nat):Int)=(ns.9:Nat) by rw[lx],decide_eq_true rfl];exists #[#[_,bJ.of gx],?_];refine eS (K:=K) (xs:=xs) (λi ys H'=>aA H H'/\ys=List.replicate i (.bl true)) (aL (bD ())) #[aA.refl _,rfl] (λi ys H' _ #[s,_]=>bJ.of (s _ _ gx)) ?_ ?_
  ·rintro i x ys H' hx hlen ⟨s,rfl⟩;obtain n|en|z:=cE qx hx;exists #[x,n,rfl,s.num z,hn n (ao en),λH2 s2=>#[s.trans s2,by rw[Ep]]]
  ·rintro ys H' hy ⟨s,rfl⟩ l hl';exists #[l,List.replicate xs.9 true,rfl,bJ.of (by rw[aK];simp),?_];have e4:(List.replicate xs.9 true).all id=true:=by simp
   rw[e4];exact k _ (s.trans (aA.new hl'))
theorem As:ba ["_law_thing","_law_many","_law_wide"] ["_law_thing","_law_many","_law_wide"] (aM nP):=by walk_at "d"
theorem tF (T:Txt K mg Z) (ptree:P.given.tree=none):cQ P w K mg base iJ 4 Z.uU Z.uQ ["_law_thing","_law_many","_law_wide"] (A7 K):=by
 have Dz:=BN (P:=P) (w:=w) (base:=base) T ptree;refine T.jN.F.ok As (λvs H Q E h=>?_) (λcdv A outer s H vs Q E hr h=>?_)
 ·obtain p|rows|m|rfl|_:=h;rfl
 ·obtain p|rows|m|rfl|hp|hl|hm|hn|k:=h
  refine #[_,(au (dO (PW.pt (lC (jU (iY (yL rfl T.isinstance PyProof.Rows.boot_list T.list (pv 0)))) (jT (bC zB (bG bw (by rfl) T.len bc (aa (pv 0) ag)) (pv 1) (bI _))))) (az (a8 oK)) ck)
   (az (a8 (bG (Cy rfl) (by rfl) T.all PyProof.Rows.boot_all (aa (b8 ["_law_row_here"] ["_law_wide"] [2] (b7 (pv 0)) (λ_=>(aN (i:=0) (show ND9 ["_law_row_here","_law_wide"] by decide +kernel))) (λ_=>cb) (λ_=>(cK Dz hr T.nY (aa (pv 0) (aa (pv 1) ag))))) ag))))),?_]
  refine aX (σ:=[some (.ref p),some (.int rows.9),some (.int m)]) rfl ?_;obtain xs|gx|qx:=id hp;have lx:=qx.9;exists #[_,_,.lst gx,rfl,?_];exists #[_,_,rfl,.inl (bJ.of gx),?_];walk_at "w";rw[show ((xs.9:Nat):Int)=(rows.9:Nat) by rw[lx],decide_eq_true rfl];exists #[#[_,bJ.of gx],?_];refine eS (K:=K) (xs:=xs) (λi ys H'=>aA H H'/\ys=List.replicate i (.bl true)) (aL (bD ())) #[aA.refl _,rfl] (λi ys H' _ #[s,_]=>bJ.of (s _ _ gx)) ?_ ?_
  ·rintro i x ys H' hx hlen ⟨s,rfl⟩;obtain ns|en|q|rfl|z:=cE qx hx;obtain e1|e2:=hn ns (ao en);exists #[q,ns,by rw[e1],z.same s,(),e2,λH2 s2=>#[s.trans s2,by rw[Ep]]]
  ·rintro ys H' hy ⟨s,rfl⟩ l hl';exists #[l,List.replicate xs.9 true,rfl,bJ.of (by rw[aK];simp),?_];have e4:(List.replicate xs.9 true).all id=true:=by simp
   rw[e4];exact k _ (s.trans (aA.new hl'))
theorem xo:ba ["_law_grid","_law_n"] ["_law_grid","_law_n"] (aM lI):=by walk_at "d"
theorem xE (T:Txt K mg Z) (ptree:P.given.tree=none):cQ P w K mg base iJ 5 Z.rf Z.qO ["_law_grid","_law_n"] (Gy K):=by
 have oy:=tF (P:=P) (w:=w) (base:=base) T ptree;refine T.kM.F.ok xo (λvs H Q E h=>?_) (λcdv A outer s H vs Q E hr h=>?_)
 ·obtain p|n|H0|rows|rfl|_:=h;rfl
 ·obtain p|n|H0|rows|rfl|Gp|hl|n8|hw|hs|k:=h;refine #[_,(az (a8 (E5 (cK oy hr T.jN (aa (pv 0) (aa (pv 1) (aa (pv 1) ag)))) (E2 (jM (Ja (BZ hr)) (pv 0) (b8 ["_law_at"] ["_law_grid"] [0] (cC rfl T.range (aa (pv 1) ag)) (λ_=>(aN (i:=0) (show ND9 ["_law_at","_law_grid"] by decide +kernel) rfl (Or.inr rfl) (Or.inl rfl))) (λ_=>cb) (λ_=>(b8 ["_law_row_here"] ["_law_at"] [0] (nR K (pv 1)) (λ_=>(aN (i:=0) (show ND9 ["_law_row_here","_law_at"] by decide +kernel))) (λ_=>cb) (λ_=>(aU (mL K (by rfl)) (pv 0) (pv 1)))))) (bI _)))))),?_];refine aX (σ:=[some (.ref p),some (.int n)]) rfl ?_;obtain us|gu|qu|_:=id Gp;have lu:=qu.9;exists #[p,_,n,by rw[af,hl],Gp.gridK,by rw[af];lia,(),λns hn=>?_,λH1 s1=>?_]
  ·obtain xs|hx|rfl:=av.mp hn;refine #[by rw[af];exact (hw xs hx).1,λz hz=>?_];obtain y|hy|rfl:=av.mp hz;exact IH ((hw xs hx).2 y hy)
  exists #[(),(),?_];refine kh (n:=n) (dF K H1) (λi=>rows.map λxs=>xs.getD i 0) () (λa b=>a.same b) ?_ ?_
  ·rintro i Ha NY NN hi sa k1;have sHa:=s1.trans sa;exists #[#[_,bJ.of (sHa _ _ gu)],?_];refine cL (K:=K) (as:=rows) (F:=dF K H0) (bS K) (λxs=>xs.getD i 0) (sHa _ _ gu) (Paired.imp' (λ_ _ z=>dF.same z sHa) qu) () (λa b=>a.same b) (λa b=>a.same b) ?_ ?_
   ·rintro j xs v Hb NY2 NN2 ex sb ⟨q,rfl,_,Rq⟩ k2;obtain zs|gz|qz:=id Rq;have lz:=qz.9;have lx:=(hw xs (ao ex)).1;obtain vx|evx|nx:=Kt qz (j:=i) ();exists cy (bJ.of gz) evx ?_;exact k2 _ _ (aA.refl _) nx
   rintro ys Hb l2 n2 s2 g2 pr2 _;exact k1 _ _ s2 #[l2,rfl,sa.none n2,ys,g2,pr2]
  rintro ys Hb l2 n2 s2 g2 pr2 nx2;have et:(List.range n).map (λi=>rows.map λxs=>xs.getD i 0)=rows:=hs;rw[et] at pr2;have s02:=s1.trans s2;exists #[_,_,uK,rows,rows,(),(Gp.same s02).kind,bQ.kind (H0:=H1) #[ys,g2,pr2,?_],?_]
  ·first | exact oO nx2 | (rw[et] at nx2;exact oO nx2)
  rw[decide_eq_true rfl];exact k _ s02
theorem zx:ba ["whole","state","bottom"] ["whole","state"] (aM wt):=by walk_at "d"
theorem zD (T:Txt K mg Z) (ptree:P.given.tree=none):cQ P w K mg base iJ 4 Z.CG Z.Ci ["whole","state"] (JY K):=by
 have c7:=iF (P:=P) (w:=w) (base:=base) T ptree;have kZ:=qH (P:=P) (w:=w) (base:=base) T ptree;have tq:=zC (P:=P) (w:=w) (base:=base) T ptree;have fH:=kG (P:=P) (w:=w) (base:=base) T ptree;refine T.oQ.F.ok zx (λvs H Q E h=>?_) (λcdv A outer s H vs Q E hr h=>?_)
 ·obtain t|p|s|ls|b|M|xs|k9|j9|rfl|_:=h;rfl
 ·obtain t|p|s|ls|b|M|xs|k9|j9|rfl|gt|G|l20|wl|Rs|x20|hM|sk|k1e|b0|sb|j1e|k:=h
  refine #[_,(au (aZ (i:=2) zx.nd rfl (Or.inr rfl) (cK c7 hr T.dJ (aa (pv 1) ag)))
   (az (a8 (b8 ["value"] ["whole","bottom"] [0,2] (b7 (cK tq hr T.mK (aa (aU bP (pv 0) ak) (aa (cK fH hr T.gE (aa (pv 1) (aa (pv 2) ag))) ag)))) (λ_=>(aN (i:=0) (show ND9 ["value","whole","bottom"] by decide +kernel))) (λ_=>cb) (λ_=>(cK kZ hr T.lN (aa (pv 0) (aa (bA cH (aU (jc K (by rfl)) (pv 1) ak) (pv 2)) ag)))))))),?_]
  refine aX (σ:=[some (.ref t),some (.ref s),none]) rfl ?_;obtain c0|sc:=hM.bot;have lm:(xs.map nm).9=xs.9:=af ..;exists #[s,xs.map nm,M,rfl,Rs.rowK,(),hM,λH1 t1=>?_];have gt1:=t1 _ _ gt;exists #[s,xs.map nm,M,_,rfl,(Rs.same t1).rowK,(),hM,c0,sc,λr2 H2 n2 t2 g2=>?_];have t02:=t1.trans t2;have lt:(cp (xs.map nm) (cI (xs.map nm))).9=xs.9:=by unfold cp;rw[af,lm]
  exists #[p,r2,ls,_,k9,8800000,rfl,G.same t02,g2,λl hl=>by rw[wl l hl,lt],(),(),sk,λz hz=>tS hM c0 sc hz,k1e,λr3 H3 n3 t3 g3=>?_];have t03:=t02.trans t3;exists #[#[_,bJ.of g3],?_];have b1:b*cI (xs.map nm)≠0:=λz=>(Int.mul_eq_zero.mp z).elim b0 ()
  refine cL (K:=K) (as:=uE ls (cp (xs.map nm) (cI (xs.map nm)))) (F:=λ_ z x=>x=V.int z) (bS K) (λ(z:Int)=>(z:Rat) / ((b*cI (xs.map nm):Int):Rat)) g3 oa (by unfold uE;rw[af];lia) (λh _=>h) (λh s=>h.same s) ?_ ?_
  ·rintro j z v H4 NY NN ez s4 rfl k2;have gt4:=s4 _ _ (t03 _ _ gt);exists fD (show fO _ _ from .inr #[j9,4400000,sb,sc,()]) ?_;exists #[z,_,rfl,b1,(sb.mul sc).mono j1e,λr5 H5 s5 g5=>?_];exact k2 _ _ s5 (bS.mk g5 (NV b1))
  rintro ys H4 r nr s4 g4 pr _;refine k r H4 (t03.none nr) (t03.trans s4) #[ys,g4,?_]
  have e:(uE ls (cp (xs.map nm) (cI (xs.map nm)))).map (λ(z:Int)=>(z:Rat) / ((b*cI (xs.map nm):Int):Rat))=C5 ls b xs:=by
   unfold uE C5;rw[K4];refine mR λl hl=>?_
   have B0:((cI (xs.map nm):Int):Rat)≠0:=λz=>by have:=oj z;lia
   have bb:(b:Rat)≠0:=λz=>b0 (oj z)
   show ((Dp l _:Int):Rat) / _=_
   rw[yX (n:=xs.9) (wl l hl) lt,aO]
   have e1:(aP xs.9 λj=>((l.getD j 0:Int):Rat)*(((cp (xs.map nm) (cI (xs.map nm))).getD j 0:Int):Rat))=((cI (xs.map nm):Int):Rat)*aP xs.9 λj=>((l.getD j 0:Int):Rat)*xs.getD j 0:=by
    rw[<- cF];refine aG λj _=>?_
    rw[Lc (λx hx=>qT (List.mem_map_of_mem hx))];grind
   rw[e1];grind
  rw[<- e];exact pr
theorem ET:ba ["self","state","left"] ["self","state","left"] (aM j8):=by walk_at "d"
theorem Fk (T:Txt K mg Z) (ptree:P.given.tree=none):cQ P w K mg base iJ 8 Z.uV Z.uR ["self","state","left"] (J8 K Z.a_System Z.a_Costs):=by
 have wY:=zD (P:=P) (w:=w) (base:=base) T ptree;have ig:=jV (P:=P) (w:=w) (base:=base) T ptree;refine T.An.ok ET (λvs H Q E h=>?_) (λcdv A outer s H vs Q E hr h=>?_)
 ·obtain A9|x|kn|s|H0|mv|pt|lk|qs|rs|fs|st|tt|sg|om|b|j9|l|M|us|rfl|_:=h;rfl
 ·obtain A9|x|kn|s|H0|mv|pt|lk|qs|rs|fs|st|tt|sg|om|b|j9|l|M|us|rfl|LA|Ak|CQ|D|F|lT|KU|l1|Rs|ls|hM|k:=h;refine #[_,(az (a8 (cK wY hr T.oQ (aa (aU bP (iP (pv 0) T.cl_Costs T.iR ig (hr.mono ()) T.jd .nil kd (aa (pv 2) ag)) ak) (aa (pv 1) ag))))),?_];refine aX (σ:=[some (.ref x),some (.ref s),some (.int l)]) rfl ?_;have d8:=D.n8;have i4:=D.i4;obtain dx|sy|a1|a2|a3|gx|S|R1|R2:=CQ.same a9;exists #[x,dx,_,rfl,gx,qQ (by decide +kernel) (by decide +kernel) (by decide +kernel) (by decide +kernel) (by decide +kernel),?_];exists #[A9,x,kn,H0,mv,pt,lk,qs,rs,fs,tt,sg,om,b,j9,l,us,rfl,LA,Ak,CQ,D,F,lT,KU,λv us' H1 s1 KU1 kv=>?_];obtain t|tw|ts|pw|ps|rfl|g1|g2|G1|g3|G2:=kv.same a9;obtain ⟨l',rfl⟩:∃l',l=l'+1:=#[l - 1,()];have AF:=F.ah l' ();have lm:=AF.len pt.9 (ar _);have wm:=AF.wide pt.9 (ar _);have pm:=AF.pos pt.9 (ar _);have sm:=AF.sb pt.9 (ar _);have zm:=AF.sz pt.9 (ar _);have jw:=F.l2
  have mem:∀c∈(bT mv pt qs rs fs (l'+1)).2.1,c.9=mv.9/\∀z∈c,Sz j9 z:=λc hc=>by
   obtain c'|h'|rfl:=av.mp (cz hc);exact #[by rw[fh,wm c' h'];lia,λz hz=>zm c' h' z (gW hz)]
  have lk2:(bT mv pt qs rs fs (l'+1)).2.1.length<=20:=by
   show (Sv _ _).9<=20
   unfold Sv QN;rw[dh,af]
   lia
  exists #[ts,ps,s,_,_,M,st,j9,j9,rfl,g3,G2,lk2,λc hc=>by rw[(mem c hc).1,ls],(Rs.same (sQ Ak s1)).same a9,(),hM,λc hc=>(mem c hc).2,(),by show -(dU _ _).2≠0;lia,Sz.neg sm,by have:=F.l3;lia,λr2 H2 n2 s2 R=>?_];have L1:=LA.smx s1 KU1.1
  exact k r2 us' H2 (s1.trans s2.smx) (KU1.hide s2 n2) (by
   cases e:H r2 with
   | none=>rfl
   | some o =>
    rcases Classical.em (r2=kn) with z | z
    ·rw[z,KU1.1] at n2;cases n2
    ·rw[s1 _ _ z e] at n2;cases n2) (L1.new n2) (R.hid (L1.same s2) (L1.new n2))
theorem jK:ba ["self","start","steps","puts","state","done"] ["self","start","steps"] (aM jz):=by walk_at "d"
theorem Dl (T:Txt K mg Z) (ptree:P.given.tree=none):cQ P w K mg base iJ 9 Z.sZ Z.sT ["self","start","steps"] (Kc K Z.a_System Z.a_Costs):=by
 have Iq:=Fk (P:=P) (w:=w) (base:=base) T ptree;have oz:=tG (P:=P) (w:=w) (base:=base) T ptree;have zg:=BI (P:=P) (w:=w) (base:=base) T ptree;have wY:=zD (P:=P) (w:=w) (base:=base) T ptree;have ig:=jV (P:=P) (w:=w) (base:=base) T ptree;refine T.yo.ok jK (λvs H Q E h=>?_) (λcdv A outer s H vs Q E hr h=>?_)
 ·obtain A9|x|kn|s|H0|mv|pt|lk|qs|rs|fs|st|tt|sg|om|b|j9|l|us|rfl|_:=h;rfl
 ·obtain A9|x|kn|s|H0|mv|pt|lk|qs|rs|fs|st|tt|sg|om|b|j9|l|us|rfl|LA|Ak|CQ|D|F|lT|KU|SF|Rs|BF|k:=h
  refine #[_,(au (aZ (i:=3) jK.nd rfl (Or.inl rfl) (d6 ag))
   (au (aZ (i:=4) jK.nd rfl (Or.inl rfl) (pv 1))
   (au (dW PassesOwn.never rfl (cC rfl T.range (aa (pv 2) ag)) (aN (i:=5) jK.nd)
    (au (i8 (vD cN cX cW jB (pv 3) (aa (iP (pv 0) T.cl_Costs T.xJ Iq (hr.mono ()) T.zX .nil kd (aa (pv 4) (aa (bA nV (pv 2) (pv 5)) ag))) ag)))
   (az (aZ (i:=4) jK.nd rfl (Or.inl rfl) (iP (fE (pv 0) rfl) T.cl_System T.mT oz (hr.mono ()) T.oo .nil kd (aa (pv 4) (aa (aU bz (pv 3) (vC pB ak)) ag)))))))
   (az (a8 (cP (aa (cK zg hr T.lM (aa (pv 1) (aa (cK wY hr T.oQ (aa (aU bP (iP (pv 0) T.cl_Costs T.iR ig (hr.mono ()) T.jd .nil kd (aa (pv 2) ag)) ak) (aa (pv 1) ag))) ag))) (aa (pv 3) ag)))))))),?_]
  refine aX (σ:=[some (.ref x),some (.ref s),some (.int l),none,none,none]) rfl ?_;have d8:=D.n8;have i4:=D.i4;have t8:=F.t8;obtain lb|lj:=F.l3;exists dw λp H1 s1 n1 g1=>?_
  have pk:p≠kn:=λz=>by rw[z,KU.1] at n1;cases n1
  have pA:=LA.new n1;have sP:aA (dS A9 H) (dS (p6 A9 p) H1):=yV n1 (cG s1);have CP:=CQ.same sP;have RP:=Rs.same sP;have AkP:p6 A9 p kn=true:=y9 Ak;have KP:=KU.hide s1 n1;have LP:mV (p6 A9 p) H1:=(LA.same s1).ad g1;exists #[(),(),?_];have kn0:H kn≠none:=by rw[KU.1];exact λz=>nomatch z
  refine eH (n:=l) (λi σ' H'=>uW kn H H'/\∃A2,((∀a,p6 A9 p a=true->A2 a=true)/\∀a,A2 a=true->A9 a=true\/H a=none)/\mV A2 H'/\aA (dS A9 H) (dS A2 H')/\(∃us',vq A2 (bT mv pt qs rs fs) kn H' us')/\∃sv y,σ'=[some (.ref x),some (.ref s),some (.int l),some (.ref p),some (.ref sv),y]/\cu K (dS A2 H') sv (oG mv pt qs rs fs st l i)/\∃vs,H' p=some (.lst vs)/\V.ref p∉vs/\Paired (Q7 K A2 H H') ((List.range i).map λi=>k6 mv pt qs rs fs (l - i) (oG mv pt qs rs fs st l i)) vs) #[s1.smx,p6 A9 p,#[λ_ h=>h,λa ha=>by
   rcases vb.mp ha with z | z
   ·exact .inl z
   ·right;rw[show a=p by simpa using z];exact n1],LP,sP,#[us,KP],s,_,rfl,RP,[],g1,(λz=>nomatch z),.nil] ?_ ?_
  ·rintro i σ' H' hi ⟨s',A2,⟨up,dn⟩,L',hs,⟨us',KU'⟩,sv,y,rfl,Rv,vs,gv,nin,pv⟩;have lv:=pv.length;rw[af,bu] at lv;have Ak2:A2 kn=true:=up kn AkP;have Ap2:A2 p=true:=up p qW;have C':=CQ.same hs;obtain dx|sy|a1|a2|a3|gx|S'|_:=C'.same a9;obtain M|hM:=BF.mm i ();exists #[.inl #[rfl,_,bJ.of gv],?_];exists #[x,dx,_,rfl,gx,qQ (by decide +kernel) (by decide +kernel) (by decide +kernel) (by decide +kernel) (by decide +kernel),?_];walk_at "w";rw[show ((l:Int) - (i:Int))=((l - i:Nat):Int) by lia];refine #[A2,x,kn,sv,H0,mv,pt,lk,qs,rs,fs,_,tt,sg,om,b,j9,l - i,M,us',rfl,L',Ak2,C',D,F,(),KU',(),Rv,BF.la i (),hM,λr2 us2 H2 s2 KU2 n2 rk2 R2=>?_];have gv2:H2 p=some (.lst vs):=s2 _ _ pk gv;have L2':=L'.smx s2 KU2.1;have h2:aA (dS A2 H') (dS (p6 A2 r2) H2):=yV n2 (sQ Ak2 s2);obtain zs2|gz2|_:=cu.nums R2 L2';have L2:mV (p6 A2 r2) H2:=L2'.ad gz2;obtain zs2'|gz2'|qz2:=cu.nums R2 L2;rw[gz2] at gz2';cases gz2';have rp:r2≠p:=λz=>by rw[z,Ap2] at rk2;cases rk2
   have nr:H r2=none:=by
    cases e:H r2 with
    | none=>rfl
    | some o =>
     rcases Classical.em (r2=kn) with z | z
     ·rw[z,KU'.1] at n2;cases n2
     ·rw[s' _ _ z e] at n2;cases n2
   have up3:∀a,A2 a=true->p6 A2 r2 a=true:=λa h=>y9 h
   have Ap3:=up3 p Ap2;exists jA gv2 (bD ()) ?_;have eU:dS (p6 A2 r2) (upd H2 p (.lst (vs++[.ref r2])))=dS (p6 A2 r2) H2:=Ft Ap3;have s3:uW kn H (upd H2 p (.lst (vs++[.ref r2]))):=(s'.trans s2).after n1;have g3:(upd H2 p (.lst (vs++[.ref r2]))) p=some (.lst (vs++[.ref r2])):=aK
   have KU3:vq (p6 A2 r2) (bT mv pt qs rs fs) kn (upd H2 p (.lst (vs++[.ref r2]))) us2:=by
    obtain g|a|b|pr:=KU2;exact #[by rw[a7 (Ne.symm pk)];exact g,a,b,by rw[eU];exact pr]
   have L3:mV (p6 A2 r2) (upd H2 p (.lst (vs++[.ref r2]))):=λa ha=>by
    by_cases e:a=p
    ·exact #[_,by rw[e];exact aK]
    ·obtain ws|g:=L2 a ha;exact #[ws,by rw[a7 e];exact g]
   have h3:aA (dS A2 H') (dS (p6 A2 r2) (upd H2 p (.lst (vs++[.ref r2])))):=by rw[eU];exact h2
   have P3:Paired (Q7 K (p6 A2 r2) H (upd H2 p (.lst (vs++[.ref r2])))) ((List.range (i+1)).map λi=>k6 mv pt qs rs fs (l - i) (oG mv pt qs rs fs st l i)) (vs++[.ref r2]):=by
    have ne:∀{v q},v∈vs->v=V.ref q->q≠p:=λh e z=>nin (by rw[<- z,<- e];exact h)
    have pv2:=Paired.imp' (λ_ _ z=>Q7.smx z s2 kn0 up3 h2) pv;rw[C0,cn];refine cA (uC (λxs v hv hr=>?_) pv2) (.cons #[r2,zs2,rfl,qW,nr,by rw[a7 rp];exact gz2,by rw[eU];exact qz2] .nil);obtain q|zs|e|aq|nq|gq|rq:=hr;exact #[q,zs,e,aq,nq,by rw[a7 (ne hv e)];exact gq,by rw[eU];exact rq]
   have R2H:cu K (upd H2 p (.lst (vs++[.ref r2]))) r2 (k6 mv pt qs rs fs (l - i) (oG mv pt qs rs fs st l i)):=#[zs2,by rw[a7 rp];exact gz2,Paired.imp' (λ_ _ z=>z.same (by rw[<- eU];exact a9)) qz2];generalize upd H2 p (.lst (vs++[.ref r2]))=H3 at s3 g3 KU3 L3 h3 P3 R2H ⊢;have C3:=C'.same h3;obtain dx3|sy3|a13|a23|a33|gx3|S3|_:=C3.same a9;obtain dy|am|ap|al|gy|_:=id S3;exists #[x,Z.a_Costs,dx3,_,_,rfl,gx3,T.cl_Costs,T.na_Costs_system,vo,?_];exists #[sy3,dy,_,rfl,gy,DE,?_];exists cy (bJ.of g3) (CC _ _) ?_;exists #[sy3,sv,r2,H0,mv,pt,lk,_,_,rfl,S3,D,SF,(Rv.same h3).same a9,R2H,BF.la i (),BF.ld i hi,BF.fn i hi,λr4 H4 n4 s4 R4=>?_];have h4:aA (dS (p6 A2 r2) H3) (dS (p6 A2 r2) H4):=cG s4;have L4:=L3.same s4;refine #[s3.trans s4.smx,p6 A2 r2,#[λa h=>up3 a (up a h),λa ha=>?_],L4,hs.trans (h3.trans h4),#[us2,KU3.same s4],r4,_,rfl,R4.hid L4 (L3.new n4),_,s4 _ _ g3,?_,Paired.imp' (λ_ _ z=>Q7.smx z s4.smx kn0 (λ_ h=>h) h4) P3]
   ·rcases vb.mp ha with z | z
    ·exact dn a z
    ·right;rw[show a=r2 by simpa using z];exact nr
   ·intro z;rcases aw.mp z with z | z
    ·exact nin z
    ·cases bg.mp z;exact rp rfl
  rintro σ' H' ⟨s',A2,⟨up,dn⟩,L',hs,⟨us',KU'⟩,sv,y,rfl,Rv,vs,gv,nin,pv⟩;have Ak2:A2 kn=true:=up kn AkP;have Ap2:A2 p=true:=up p qW;have C':=CQ.same hs;obtain dx|sy|a1|a2|a3|gx|S'|_:=C'.same a9;obtain M|hM:=BF.mm 0 ();have hM:tj M (st.map nm):=hM;have ls:=BF.ls;exists #[x,dx,_,rfl,gx,qQ (by decide +kernel) (by decide +kernel) (by decide +kernel) (by decide +kernel) (by decide +kernel),?_];exists #[A2,x,kn,H0,mv,pt,lk,qs,rs,fs,tt,sg,om,b,j9,l,us',rfl,L',Ak2,C',D,F,lT,KU',λv us2 H2 s2 KU2 kv=>?_];have h2:=sQ Ak2 s2;have L2':=L'.smx s2 KU2.1;have R2:cu K H2 s st:=((Rs.same hs).same h2).same a9;obtain t|tw|ts|pw|ps|rfl|q1|q2|G1|q3|G2:=kv.same a9;exists #[tw,pw,s,_,_,M,st,b,b,rfl,q2,G1,by rw[F.lw l lT];lia,λc hc=>by rw[F.ww l lT c hc,ls],R2,(),hM,F.sw l lT,(),by have:=(F.wb l lT).1;lia,(F.wb l lT).2,(),λr3 H3 n3 s3 R3=>?_];exists #[s,r3,st,_,rfl,R2.same s3,R3,by unfold C5;rw[af,F.lw l lT,ls],(),BF.dt,λe4 H4 s4 N4=>?_];exists b6 λt5 H5 s5 g5=>?_
  have s25:=(s3.trans s4).trans s5;have L5:=L2'.same s25;have h25:aA (dS A2 H') (dS A2 H5):=h2.trans (cG s25)
  have N5:bS K (dS A2 H5) (d9 st (C5 (bT mv pt qs rs fs l).1.1 (bT mv pt qs rs fs l).1.2 st)) (.ref e4):=by
   obtain q|e|sq:=N4.same s5;exact #[q,e,Az sq L5]
  exact k A2 t5 e4 p us2 vs H5 g5 (λa h=>up a (y9 h)) dn L5 Ap2 n1 ((s'.trans s2).trans s25.smx) (hs.trans h25) (KU2.same s25) N5 (s25 _ _ (s2 _ _ pk gv)) (Paired.imp' (λ_ _ z=>Q7.smx z (s2.trans s25.smx) kn0 (λ_ h=>h) h25) pv) nin
theorem ES:ba ["_law_one","_law_other"] ["_law_one","_law_other"] (aM uu):=by walk_at "d"
theorem Fi (T:Txt K mg Z) (ptree:P.given.tree=none):cQ P w K mg base iJ 2 Z.Aj Z.zU ["_law_one","_law_other"] (rD K (λx y=>x - y)):=by
 have fX:=kf (P:=P) (w:=w) (base:=base) T ptree;refine T.sL.F.ok ES (λvs H Q E h=>?_) (λcdv A outer s H vs Q E hr h=>?_)
 ·obtain p|q|a|b|c|d|rfl|hp|hq|hb|hd|sa|sb|sc|sd|k:=JR h;rfl
 ·obtain p|q|a|b|c|d|rfl|hp|hq|hb|hd|sa|sb|sc|sd|k:=JR h;refine #[_,(az (a8 (cK fX hr T.hZ (aa (bA nV (bA cH (aU bP (pv 0) ak) (aU bP (pv 1) ak)) (bA cH (aU bP (pv 1) ak) (aU bP (pv 0) ak))) (aa (bA cH (aU bP (pv 0) ak) (aU bP (pv 1) ak)) ag))))),?_];refine aX (σ:=[some (.ref p),some (.ref q)]) rfl ?_;have hbd:0 < b*d:=fj hb hd;have sbd:Sz 8999000 (b*d):=(sb.mul sd).mono ();exists fD (show fO _ _ from .inr #[_,_,sa,sd,()]) ?_;exists fD (show fO _ _ from .inr #[_,_,sc,sb,()]) ?_;exists fD (show fO _ _ from .inr #[_,_,sb,sd,()]) ?_;walk_at "w";exists #[_,_,rfl,hbd,sbd,k]
theorem dQ:ba ["_law_parts_here","_law_told","_law_weights_here","_law_start","_law_puts_here","_law_n","_law_steps_here","_law_grid","_law_kept_here","_law_due","_law_row_here","_law_handed","_law_found","_law_cost_here"] ["_law_parts_here","_law_told","_law_weights_here","_law_start","_law_puts_here"] (aM rK):=by walk_at "d"
theorem Di (T:Txt K mg Z) (ptree:P.given.tree=none):cQ P w K mg base iJ 10 Z.yf Z.xT ["_law_parts_here","_law_told","_law_weights_here","_law_start","_law_puts_here"] (DI K Z.a_System Z.a_Costs):=by
 have mC:=uG (P:=P) (w:=w) (base:=base) T ptree;have o3:=Fj (P:=P) (w:=w) (base:=base) T ptree;have zl:=xE (P:=P) (w:=w) (base:=base) T ptree;have wZ:=zE (P:=P) (w:=w) (base:=base) T ptree;have zj:=BL (P:=P) (w:=w) (base:=base) T ptree;have FY:=Dl (P:=P) (w:=w) (base:=base) T ptree;have oy:=tF (P:=P) (w:=w) (base:=base) T ptree;have nv:=vI (P:=P) (w:=w) (base:=base) T ptree;have o5:=xF (P:=P) (w:=w) (base:=base) T ptree;have lY:=oN (P:=P) (w:=w) (base:=base) T ptree;have Ip:=Fi (P:=P) (w:=w) (base:=base) T ptree;refine T.pX.F.ok dQ (λvs H Q E h=>?_) (λcdv A outer s H vs Q E hr h=>?_)
 ·obtain A9|r|x|kn|rt|s|p|H0|H1|H2|mv|pt|lk|qs|rs|fs|st|pus|tt|sg|om|b|j9|us|rfl|_:=h;rfl
 ·obtain A9|r|x|kn|rt|s|p|H0|H1|H2|mv|pt|lk|qs|rs|fs|st|pus|tt|sg|om|b|j9|us|rfl|LA|Ak|CA|D|SF|F|KU|PQ|RT|Rs|Gp|R|k:=h
  refine #[_,(au (aZ (i:=5) dQ.nd rfl (Or.inl rfl) (bG bw (by rfl) T.len bc (aa (pv 3) ag)))
   (au (aZ (i:=6) dQ.nd rfl (Or.inl rfl) (bG bw (by rfl) T.len bc (aa (pv 4) ag)))
   (au (aZ (i:=7) dQ.nd rfl (Or.inl rfl) (iP (pv 1) T.cl_Costs T.kP mC (hr.mono ()) T.mB .nil kd (aa (pv 6) ag)))
   (au (aZ (i:=8) dQ.nd rfl (Or.inl rfl) (cK o3 hr T.fA (aa (pv 7) ag)))
   (au (i8 (iP (pv 1) T.cl_Costs T.kP mC (hr.mono ()) T.mB .nil kd (aa (bA (hJ rfl dQ rfl rfl rfl ptree (oU hr)) (pv 6) ak) ag)))
   (au (dO (PW.pt (lC (jU (iY (cK zl hr T.kM (aa (pv 7) (aa (pv 5) ag))))) (jT (bC (uD (BZ hr)) (pv 7) (pv 8) (bI _))))) (az (a8 oK)) ck)
   (au (aZ (i:=9) dQ.nd rfl (Or.inl rfl) (cK wZ hr T.oS (aa (pv 3) (aa (cK zj hr T.rZ (aa (pv 7) (aa (pv 3) ag))) ag))))
   (au (dW PassesOwn.never rfl (b7 (pv 7)) (aN (i:=10) dQ.nd)
    (az (i8 (vD cN cX cW jB (pv 10) (aa (cP (aa ak (aa ak ag))) ag)))))
   (au (aZ (i:=11) dQ.nd rfl (Or.inl rfl) (d6 (aa (eI iS (by rfl) T.list PyProof.Rows.boot_list (aa (pv 3) ag)) (aa (b8 ["_law_row_here"] [] [] (b7 (pv 4)) (λ_=>(aN (i:=0) (show ND9 ["_law_row_here"] by decide +kernel))) (λ_=>cb) (λ_=>(eI (my K (by rfl)) (by rfl) T.list PyProof.Rows.boot_list (aa (pv 0) ag)))) ag))))
   (au (aZ (i:=12) dQ.nd rfl (Or.inl rfl) (iP (pv 1) T.cl_Costs T.vJ FY (hr.mono ()) T.yb .nil kd (aa (aU bz (pv 11) ak) (aa (pv 6) ag))))
   (au (dO (PW.pt (lC (jU (iY (rR rfl T.isinstance PyProof.Rows.boot_tuple T.tuple (pv 12)))) (lC (bC zB (bG bw (by rfl) T.len bc (aa (pv 12) ag)) ak (bI _)) (jT (jU (iY (cK oy hr T.jN (aa (aU bP (pv 12) ak) (aa (pv 6) (aa (bG bw (by rfl) T.len bc (aa (aU bP (pv 0) ak) ag)) ag)))))))))) (az (a8 oK)) ck)
   (au (dO (PW.pt (lC (bC (uD (BZ hr)) (aU bP (pv 12) ak) (pv 9) (bI _)) (lC (bC (uD (BZ hr)) (iP (pv 1) T.cl_Costs T.me nv (hr.mono ()) T.nk .nil kd (aa (pv 3) (aa (aU bP (pv 12) ak) ag))) (pv 9) (bI _)) (jT (bC (uD (BZ hr)) (cK o5 hr T.kO (aa (pv 0) (aa (pv 2) (aa (pv 3) (aa (aU bP (pv 12) ak) ag))))) (pv 9) (bI _)))))) (az (a8 oK)) ck)
   (au (aZ (i:=13) dQ.nd rfl (Or.inl rfl) (iP (pv 1) T.cl_Costs T.me nv (hr.mono ()) T.nk .nil kd (aa (aU bz (pv 11) ak) (aa (aU bz (pv 11) ak) ag))))
   (au (dO (PW.pt (lC (jU (iY (cK lY hr T.jb (aa (pv 13) ag)))) (lC (bC (uD (BZ hr)) (pv 13) (cK o5 hr T.kO (aa (pv 0) (aa (pv 2) (aa (pv 3) (aa (pv 4) ag))))) (bI _)) (jT (bC (uD (BZ hr)) (pv 11) (d6 (aa (pv 3) (aa (pv 4) ag))) (bI _)))))) (az (a8 oK)) ck)
   (az (a8 (jM BH (aU bP (cK Ip hr T.sL (aa (pv 13) (aa (pv 9) ag))) ak) ak (bI _)))))))))))))))))),?_]
  refine aX (σ:=[some (.ref r),some (.ref x),some (.ref rt),some (.ref s),some (.ref p),none,none,none,none,none,none,none,none,none]) rfl ?_;have d8:=D.n8;have i4:=D.i4;have t8:=R.dr.t8;have lst:=R.dr.ls;obtain zs|gs|qs9:=id Rs;obtain us9|gp|qp|_:=id Gp;have lz:=qs9.9;have lp:=qp.9;have ltt:=R.dr.lt;have lwh:(vv (bT mv pt qs rs fs tt).1.1 (bT mv pt qs rs fs tt).1.2).9=mv.9:=by unfold vv;rw[af,R.lw]
  obtain ⟨rows,erw⟩:∃w,vv (bT mv pt qs rs fs tt).1.1 (bT mv pt qs rs fs tt).1.2=w:=#[_,rfl];have f1:=R.f1;have syW:=R.sy;rw[erw] at lwh f1 syW;obtain dx|sy|_|_|_|gx|_:=CA.same a9;exists #[_,_,rfl,.inl (bJ.of (a9 _ _ gs)),?_];rw[<- lz,lst];exists #[_,_,rfl,.inl (bJ.of (a9 _ _ gp)),?_];rw[<- lp,ltt];exists #[x,dx,_,rfl,gx,qQ (by decide +kernel) (by decide +kernel) (by decide +kernel) (by decide +kernel) (by decide +kernel),?_];exists #[A9,x,kn,H0,mv,pt,lk,qs,rs,fs,tt,sg,om,b,j9,tt,us,rfl,LA,Ak,CA.co,D,F,ar _,KU,λg us1 Hm Ha s1 KU1 s2 ng G1=>?_];rw[erw] at G1;have Lm:=LA.smx s1 KU1.1;have hm:=sQ Ak s1;obtain ug|gg|qg|nng:=id G1;obtain qa|eqa|hqa:=DO qg;obtain ⟨A2,eA2⟩:∃A,hdL A9 qa=A:=#[_,rfl];have KU2:vq A2 (bT mv pt qs rs fs) kn Ha us1:=by rw[<- eA2];exact KU1.hides s2 λq hq=>(hqa q hq).1
  have L2:mV A2 Ha:=by rw[<- eA2];exact (Lm.same s2).hdL λq hq=>by obtain _|_|_|z|h|_:=hqa q hq;exact #[z,h]
  have hqn:∀q∈qa,dS A9 H q=none:=λq hq=>hm.none (by unfold dS;split;rfl;exact (hqa q hq).1)
  have ha:aA (dS A9 H) (dS A2 Ha):=by rw[<- eA2];exact Fu hqn (hm.trans (cG s2))
  have Ak2:A2 kn=true:=by rw[<- eA2];exact Jo Ak
  have inA:∀q∈qa,A2 q=true:=λq hq=>by rw[<- eA2];exact Of hq
  have knm:Hm kn≠none:=by rw[KU1.1];exact λz=>nomatch z
  have gkn:g≠kn:=λz=>knm (by rw[<- z];exact ng)
  exists #[.ref g,rfl,.inr (.inr (.inr (.inl #[(),g,_,rows,rfl,G1,(),λxs hx=>by rw[(f1 xs hx).1];lia,λkp Hb nkp sb Gk=>?_])))];have hb:=ha.trans (cG sb);have Lb:=L2.same sb;have KUb:=KU2.same sb;obtain dx2|_|_|_|_|gx2|_:=(CA.same hb).same a9;exists #[x,dx2,_,rfl,gx2,qQ (by decide +kernel) (by decide +kernel) (by decide +kernel) (by decide +kernel) (by decide +kernel),?_];exists fD (show oB _ _ from #[(),Sz.mono (j:=2) (show Sz 2 (2:Int) by unfold Sz;decide) ()]) ?_;walk_at "w";rw[show ((tt:Int).fdiv 2)=((tt / 2:Nat):Int) by rw[bK _ ()];rfl];refine #[A2,x,kn,H0,mv,pt,lk,qs,rs,fs,tt,sg,om,b,j9,tt / 2,us1,rfl,Lb,Ak2,(CA.same hb).co,D,F,(),KUb,λg3 us3 Hc Hd sc KUc sd _ _=>?_];have hd:=(hb.trans (sQ Ak2 sc)).trans (cG sd);have Ld:=(Lb.smx sc KUc.1).same sd;have KUd:=KUc.same sd;have Gd:bQ K Hm Hd g rows:=((G1.same sb).smx sc KUb.1 gkn knm).same sd;have Gkd:bQ K Ha Hd kp rows:=(Gk.smx sc KUb.1 (λz=>by rw[z,(s2 _ _ KU1.1)] at nkp;cases nkp) (by rw[s2 _ _ KU1.1];exact λz=>nomatch z)).same sd;exists #[g,mv.9,_,rows,rfl,Gd,lwh,d8,λxs hx=>#[(f1 xs hx).1,(f1 xs hx).2.2],syW,λHe se=>?_];exists #[_,_,uK,rows,rows,(),(Gd.same se).kind,(Gkd.same se).kind,?_];rw[decide_eq_true rfl];have he:=hd.trans (cG se);have Rse:=(Rs.same he).same a9;exists #[g,s,_,rows,st,rfl,Gd.same se,Rse,(),(),λxs hx=>#[by rw[(f1 xs hx).1,lst],(f1 xs hx).2.1],λr5 Hf nf sf R5=>?_];rw[<- erw,UE λz hz=>by rw[R.ww z hz,lst]] at R5;exists #[s,r5,_,_,rfl,Rse.same sf,R5,by rw[AB,R.lw,lst],(),R.be.dt,λr6 Hg sg6 N6=>?_];have N6:bS K Hg (yw (bT mv pt qs rs fs tt).1 st) (.ref r6):=N6;have sdg:=(se.trans sf).trans sg6;have hg:=hd.trans (cG sdg);have Lg:=Ld.same sdg;have KUg:=KUd.same sdg;have N6':=N6.hid Lg;have Gg:=Gd.same sdg;obtain ug2|gg2|qg2|nng2:=id Gg
  have eug:ug2=ug:=by
   obtain _|h1|_|_:=(G1.same sb).smx sc KUb.1 gkn knm;have h2:=((sd.trans sdg)) _ _ (sc _ _ gkn ((sb _ _ gg)));rw[gg2] at h2;cases h2;rfl
  subst eug;have lug:=qg2.9;have gnq:g∉qa:=λz=>nng2 (by rw[eqa];exact av.mpr #[g,z,rfl])
  have knq:kn∉qa:=λz=>knm (hqa kn z).1
  have q0:∀q∈qa,∃vs,Hg q=some (.lst vs)/\vs.9<=8+0:=λq hq=>by
   obtain xs|hx|ys|h|l:=(hqa q hq).2;have h2:Hg q=some (.lst ys):=(sd.trans sdg) _ _ (sc _ _ (λz=>knq (by rw[<- z];exact hq)) (sb _ _ h));exact #[ys,h2,by rw[l,(f1 xs hx).1];exact d8]
  exists #[#[_,bJ.of gg2],?_];refine ib (K:=K) (a:=g) (xs:=ug2) (λi σ' H'=>(∀a o,a∉qa->Hg a=some o->H' a=some o)/\aA (dS A2 Hg) (dS A2 H')/\(∀q∈qa,∃vs,H' q=some (.lst vs)/\vs.9<=8+i)/\∃y,σ'=[some (.ref r),some (.ref x),some (.ref rt),some (.ref s),some (.ref p),some (.int mv.9),some (.int tt),some (.ref g),some (.ref kp),some (.ref r6),y,none,none,none]) #[λ_ _ _ h=>h,aA.refl _,q0,_,rfl] (λi σ' H' _ #[o,_]=>bJ.of (o _ _ gnq gg2)) ?_ ?_
  ·rintro i v σ' H' hv ⟨o',h',q',y,rfl⟩;have hi:i < ug2.9:=(aR.mp hv).1
   obtain ⟨q,hq,rfl⟩:∃q,q∈qa/\v=V.ref q:=by
    have:=ao hv;rw[eqa] at this;obtain q|hq|e:=av.mp this;exact #[q,hq,e.symm]
   obtain vs|gq|lv:=q' q hq;exists #[.inl #[rfl,_,bJ.of gq],?_];exists b6 λt1 H5 s5 g5=>?_
   have gq5:=s5 _ _ gq;exists jA gq5 (bD ()) ?_;have eU:dS A2 (upd H5 q (.lst (vs++[V.ref t1])))=dS A2 H5:=Ft (inA q hq);refine #[λa o na h=>by rw[a7 λz=>na (by rw[z];exact hq)];exact s5 _ _ (o' a o na h),by rw[eU];exact h'.trans (cG s5),λq2 hq2=>?_,_,rfl];by_cases e:q2=q
   ·exact #[_,by rw[e];exact aK,by rw[aB];show vs.9+1<=_;lia]
   ·obtain v2|g2|l2:=q' q2 hq2;exact #[v2,by rw[a7 e];exact s5 _ _ g2,()]
  rintro σ' Hh ⟨oh,hh,qh,y,rfl⟩;have hh1:=hg.trans hh
  have Lh:mV A2 Hh:=λa ha=>by
   by_cases e:a∈qa
   ·obtain v|h|_:=qh a e;exact #[v,h]
   ·obtain v|h:=Lg a ha;exact #[v,oh _ _ e h]
  have KUh:vq A2 (bT mv pt qs rs fs) kn Hh us3:=by
   obtain g|a|b|pr:=KUg;exact #[oh _ _ knq g,a,b,Paired.imp' (λ_ _ z=>Mh.same z hh) pr]
  have N6h:=N6'.same hh
  have sHh:uW kn H Hh:=λa o n h=>by
   have h1:=s1 a o n h;have na:a∉qa:=λz=>by rw[(hqa a z).1] at h1;cases h1
   exact oh _ _ na ((sd.trans sdg) _ _ (sc _ _ n (sb _ _ (s2 _ _ h1))))
  clear Gg Gd Gkd Gk G1 gg gg2 qg2 nng nng2 qg q0 KUg Lg N6' N6 Lb Ld KUb KUc KUd KU2 L2 Lm;obtain zsh|gzh|qzh:=id (Rs.same hh1);obtain ush|gph|qph|_:=id (Gp.same hh1);have lph:=qph.9;exists #[s,zsh,rfl,.inl (bJ.of (a9 _ _ gzh)),λc1 nc1=>?_];have t1:aA Hh (upd Hh c1 (.lst zsh)):=aA.new nc1;have gc1:(upd Hh c1 (.lst zsh)) c1=some (.lst zsh):=aK;generalize upd Hh c1 (.lst zsh)=Hi at t1 gc1 ⊢;have Rc1:cu K (dS A2 Hi) c1 st:=#[zsh,gY gc1 (Lh.new nc1),Paired.imp' (λ_ _ z=>z.same (cG t1)) qzh];have gph1:=t1 _ _ (a9 _ _ gph);exists #[#[_,bJ.of gph1],?_];refine cL (K:=K) (as:=pus) (F:=dF K (λ_=>none)) (dF K Hi) (λxs=>xs) gph1 (Paired.imp' (λ_ _ #[q,e,_,R]=>#[q,e,rfl,(R.same a9).same t1]) qph) () (λa b=>a.same b) (λa b=>a.same b) ?_ ?_
  ·rintro i xs v H' NY NN ex s' ⟨u,rfl,_,zu,gu,qu⟩ k1;exists #[u,zu,rfl,.inl (bJ.of gu),λl1 hl1=>?_];exact k1 _ _ (aA.new hl1) #[l1,rfl,s'.none hl1,zu,aK,Paired.imp' (λ_ _ z=>z.same (aA.new hl1)) qu]
  rintro ysj Hj c2 nc2 t2 gc2 prj nxj;rw[List.map_id'] at prj nxj;have G2:bQ K Hi Hj c2 pus:=#[ysj,gc2,prj,oO nxj];have Lj:=(Lh.same t1).same t2;have G2h:bQ K (dS A2 Hi) (dS A2 Hj) c2 pus:=G2.hid Lj (Lh.same t1) (aA.refl _) ((Lh.same t1).new nc2);exists dw λhd9 Hk t3 nhd ghd=>?_
  have t13:=(t1.trans t2).trans t3;have hk1:=hh1.trans (cG t13);have Lk:=Lj.same t3;have KUk:=KUh.same t13;have Rc1k:cu K (dS A2 Hk) c1 st:=Rc1.same (cG (t2.trans t3));have G2k:=G2h.same (cG t3);have ghdk:=gY ghd (Lj.new nhd);have N6k:=N6h.same (cG t13);obtain dx3|_|_|_|_|gx3|_:=(CA.same hk1).same a9;exists #[x,dx3,_,rfl,gx3,qQ (by decide +kernel) (by decide +kernel) (by decide +kernel) (by decide +kernel) (by decide +kernel),?_];exists #[A2,x,kn,c1,H0,mv,pt,lk,qs,rs,fs,st,tt,sg,om,b,j9,tt,us3,rfl,Lk,Ak2,(CA.same hk1).co,D,F,ar _,KUk,SF,Rc1k,R.be,λA3 t8' e8 p8 us8 ws8 Hl gt8 up8 dn8 Ll Ap8 np8 s8 h8 KUl N8 gp8 pr8 nin8=>?_];exists .inr #[t8',_,_,rfl,nG.of gt8,rfl,?_];exists #[_,_,rfl,.inr (nG.of gt8),?_];have G8:bQ K (λ_=>none) Hl p8 (AM mv pt qs rs fs st tt):=#[ws8,gp8,Paired.imp' (λ_ _ #[q,zq,e,_,_,g,r]=>#[q,e,rfl,zq,g,Paired.imp' (λ_ _ z=>z.same a9) r]) pr8,nin8];have hl1:=hk1.trans h8;have N6l:=(N6k.same h8).same a9;have N8':bS K Hl (yw (bT mv pt qs rs fs tt).1 st) (.ref e8):=N8.same a9;have Pl:=(PQ.same hl1).same a9;have Rsl:=(Rs.same hl1).same a9;have RTl:=(RT.same hl1).same a9;have CAl:=(CA.same hl1).same a9;have Gpl:=(Gp.same hl1).same a9;have gh:=a9 _ _ (h8 _ _ ghdk);have Rcl:=(Rc1k.same h8).same a9;have Gcl:=(G2k.same h8).same a9;have slf:uW kn H Hl:=(sHh.trans t13.smx).trans s8;obtain mm|pp|ll|gt|mn|pn|ln|Gm|Gpp|Gll:=id Pl;obtain upp|gup|qup|_:=id Gpp;have lup:=qup.9;exists Oa ?_;exists #[_,_,rfl,.inl (bJ.of gup),?_];rw[<- lup];exists #[p8,(AM mv pt qs rs fs st tt).map λxs=>xs.map nm,pt.9,by rw[af,Cz],G8.gridK,by rw[af,Cz];lia,(),λns hn=>?_,λH9 s9=>?_]
  ·obtain xs|hx|rfl:=av.mp hn;refine #[by rw[af];exact R.du.wp xs hx,λz hz=>?_];obtain y|hy|rfl:=av.mp hz;exact IH (R.sb xs hx y hy)
  have gt9:=s9 _ _ gt8;exists #[_,_,DS,_,_,(),N8'.same s9,N6l.same s9,?_];rw[decide_eq_true rfl];obtain dx4|_|_|_|_|gx4|_:=CAl.same s9;exists #[x,dx4,_,rfl,gx4,qQ (by decide +kernel) (by decide +kernel) (by decide +kernel) (by decide +kernel) (by decide +kernel),?_];exists #[x,kn,s,p8,H0,_,mv,pt,lk,qs,rs,fs,st,_,tt,rfl,CAl.same s9,D,SF,Rsl.same s9,G8.same s9,R.du,λrA HA sA NA=>?_];rw[R.cd] at NA;have s9A:=s9.trans sA;exists #[_,_,DS,_,_,(),NA,N6l.same s9A,?_];rw[decide_eq_true rfl];have gtA:=s9A _ _ gt8;exists #[r,rt,s,p8,H1,_,mv,pt,lk,qs,rs,fs,st,_,tt,rfl,Pl.same s9A,D,RTl.same s9A,Rsl.same s9A,G8.same s9A,R.du,λrB HB sB NB=>?_];rw[R.cd] at NB;have s9B:=s9A.trans sB;exists #[_,_,DS,_,_,(),NB,N6l.same s9B,?_];rw[decide_eq_true rfl];have ghB:=s9B _ _ gh;obtain dx5|_|_|_|_|gx5|_:=CAl.same s9B;exists #[x,dx5,_,rfl,gx5,qQ (by decide +kernel) (by decide +kernel) (by decide +kernel) (by decide +kernel) (by decide +kernel),?_];exists #[x,kn,c1,c2,H0,_,mv,pt,lk,qs,rs,fs,st,_,tt,rfl,CAl.same s9B,D,SF,Rcl.same s9B,Gcl.same s9B,R.dr,λrC HC sC NC=>?_];have s9C:=s9B.trans sC;exists #[_,_,rfl,NC,IH R.sc,λHD sD=>?_];have s9D:=s9C.trans sD;exists #[r,rt,s,p,H1,_,mv,pt,lk,qs,rs,fs,st,_,tt,rfl,Pl.same s9D,D,RTl.same s9D,Rsl.same s9D,Gpl.same s9D,R.dr,λrE HE sE NE=>?_];exists #[_,_,DS,_,_,(),(NC.same sD).same sE,NE,?_];rw[decide_eq_true rfl];have s9E:=s9D.trans sE;exists dw λlF HF sF nF gF=>?_
  have s9F:=s9E.trans sF;exists #[_,_,Tz N3 uK,(st,pus),(st,pus),(),#[hd9,_,_,rfl,bJ.of (s9F _ _ gh),(Rcl.same s9F).kind,(Gcl.same s9F).kind],#[lF,_,_,rfl,bJ.of gF,(Rsl.same s9F).kind,(Gpl.same s9F).kind],?_];rw[decide_eq_true rfl];exists #[_,_,_,_,rfl,((NC.same sD).same sE).same sF,N6l.same s9F,R.sc,R.sw,λrG HG sG NG=>?_];have s9G:=s9F.trans sG;have ge:=R.ge;generalize yw (bT mv pt qs rs fs tt).1 st=wv at NG ge;generalize RZ mv pt qs rs fs st pus tt=cv at NG ge
  have t0:(nm (cv - wv)).1 ≥ 0:=by
   show 0<=(cv - wv).num
   exact Rat.num_nonneg.mpr (by grind)
  obtain qG|eG|sqG:=id NG;cases eG;walk_at "w";rw[decide_eq_true t0]
  have knl:∀{Hx:Hp} {a},uW kn H Hx->Hx kn≠none->Hx a=none->H a=none:=λ{Hx a} sx nx h=>by
   cases e:H a with
   | none=>rfl
   | some o =>
    by_cases z:a=kn
    ·rw[z] at h;exact absurd h nx
    ·rw[sx a o z e] at h;cases h
  refine k A3 us8 HG (λa h=>up8 a (by rw[<- eA2];exact Jo h)) (λa h=>?_) (Ll.same s9G) (slf.trans s9G.smx) (hl1.trans (cG s9G)) (KUl.same s9G);rcases dn8 a h with z | z
  ·rw[<- eA2] at z;rcases Fv z with z | z
   ·exact .inl z
   ·exact .inr (knl s1 knm (hqa a z).1)
  ·exact .inr (knl (sHh.trans t13.smx) (by rw[KUk.1];exact λz=>nomatch z) z)
theorem iN:ba ["_law_script","_law_bag_here","_law_parts_here","_law_wide","_law_n","_law_system_here","_law_rates_here","_law_handed","_law_both","_law_some","_law_row_here","_law_k","_law_turn","_law_at","_law_start","_law_puts_here","_law_due"] ["_law_script"] (aM M8):=by walk_at "d"
theorem To (T:Txt K mg Z) (ptree:P.given.tree=none):cQ P w K mg base iJ 11 Z.Sf Z.RX ["_law_script"] (A6 K):=by
 have JK:=G4 (P:=P) (w:=w) (base:=base) T ptree;have Dx:=BK (P:=P) (w:=w) (base:=base) T ptree;have Io:=Fh (P:=P) (w:=w) (base:=base) T ptree;have yk:=Dj (P:=P) (w:=w) (base:=base) T ptree;have zw:=xH (P:=P) (w:=w) (base:=base) T ptree;have aS:=eF (P:=P) (w:=w) (base:=base) T ptree;have js:=oM (P:=P) (w:=w) (base:=base) T ptree;have Ik:=Fe (P:=P) (w:=w) (base:=base) T ptree;have JJ:=G0 (P:=P) (w:=w) (base:=base) T ptree;have o5:=xF (P:=P) (w:=w) (base:=base) T ptree;have nv:=vI (P:=P) (w:=w) (base:=base) T ptree;have FV:=Di (P:=P) (w:=w) (base:=base) T ptree;have mC:=uG (P:=P) (w:=w) (base:=base) T ptree;refine T.Sk.ok iN (λvs H Q E h=>?_) (λcdv A outer s H vs Q E hr h=>?_)
 ·obtain a|ns|rfl|_:=h;rfl
 ·obtain a|ns|rfl|hS|hlen|k:=h
  refine #[_,(au (aZ (i:=1) iN.nd rfl (Or.inl rfl) (cK JK hr T.uJ (aa (pv 0) ag)))
   (au (iE (cK Dx hr T.nW (aa (pv 1) ag)) (yK rfl (cZ (aN (i:=2) iN.nd rfl (Or.inr rfl) (Or.inl rfl)) (cZ (aN (i:=3) iN.nd) kF))))
   (au (aZ (i:=4) iN.nd rfl (Or.inl rfl) (bG bw (by rfl) T.len bc (aa (aU bP (pv 2) ak) ag)))
   (au (aZ (i:=5) iN.nd rfl (Or.inr rfl) (cK Io hr T.sJ (aa (pv 2) ag)))
   (au (aZ (i:=6) iN.nd rfl (Or.inl rfl) (d6 (aa (cK yk hr T.l9 (aa (pv 1) (aa (pv 2) ag))) (aa (cK yk hr T.l9 (aa (pv 1) (aa (pv 2) ag))) ag))))
   (au (l7 7 ["_law_rate"] [] [] iN.nd rfl rfl (b7 (pv 6)) (λ_=>(aN (i:=0) (show ND9 ["_law_rate"] by decide +kernel))) (λ_=>cb) (λ_=>(b8 ["_law_row_here"] [] [] (nR K (pv 0)) (λ_=>(aN (i:=0) (show ND9 ["_law_row_here"] by decide +kernel))) (λ_=>cb) (λ_=>(eI (my K (by rfl)) (by rfl) T.list PyProof.Rows.boot_list (aa (pv 0) ag))))))
   (au (l7 8 ["_law_some"] ["_law_system_here"] [5] iN.nd rfl rfl (b7 (pv 7)) (λ_=>(aN (i:=0) (show ND9 ["_law_some","_law_system_here"] by decide +kernel))) (λ_=>cb) (λ_=>(Ki T.mk_Costs zw (hr.mono ()) rfl T.mg_Costs T.qV .nil kd (aa (pv 1) (aa (aU (mL K (by rfl)) (pv 0) ak) (aa (aU (mL K (by rfl)) (pv 0) ak) (aa (aU (mL K (by rfl)) (pv 0) ak) ag)))))))
   (au (dO (bC (uD (BZ hr)) (pv 7) (pv 6) (bI _)) (az (a8 oK)) ck)
   (au (dW PassesOwn.never rfl (b7 (pv 7)) (aN (i:=9) iN.nd)
    (az (dW PassesOwn.never rfl (b7 (pv 9)) (aN (i:=10) iN.nd)
    (au (dW PassesOwn.never rfl (cC rfl T.range (aa (bG bw (by rfl) T.len bc (aa (pv 10) ag)) ag)) (aN (i:=11) iN.nd)
    (az (iE (cP (aa ak (aa ak ag))) (jk (pv 10) (pv 11) set_list))))
   (az (i8 (vD cN cX cW jB (pv 10) (aa (cP (aa ak (aa ak ag))) ag))))))))
   (au (dW PassesOwn.never rfl (cC rfl T.range (aa ak ag)) (aN (i:=12) iN.nd)
    (au (aZ (i:=13) iN.nd rfl (Or.inl rfl) (cK aS hr T.aV (aa (pv 1) (aa ak ag))))
   (au (aZ (i:=14) iN.nd rfl (Or.inl rfl) (cK js hr T.jn (aa (pv 1) (aa (pv 4) (aa (pv 3) ag)))))
   (au (aZ (i:=15) iN.nd rfl (Or.inl rfl) (cK Ik hr T.rY (aa (pv 1) (aa (pv 2) (aa (cK JJ hr T.uI (aa (pv 1) (aa (pv 2) ag))) (aa (pv 3) ag))))))
   (au (aZ (i:=16) iN.nd rfl (Or.inl rfl) (cK o5 hr T.kO (aa (pv 2) (aa (aU bz (pv 6) (pv 13)) (aa (pv 14) (aa (pv 15) ag))))))
   (au (dO (PW.pt (kE (bC ik (cK aS hr T.aV (aa (pv 1) (aa ak ag))) ak (bI _)) (l5 (bC (uD (BZ hr)) (iP (aU bz (pv 8) (pv 13)) T.cl_Costs T.me nv (hr.mono ()) T.nk .nil kd (aa (pv 14) (aa (pv 15) ag))) (pv 16) (bI _))))) (az (a8 oK)) ck)
   (az (dO (jU (iY (cK FV hr T.pX (aa (pv 2) (aa (aU bz (pv 8) (pv 13)) (aa (aU bz (pv 6) (pv 13)) (aa (pv 14) (aa (pv 15) ag)))))))) (az (a8 oK)) ck))))))))
   (au (l7 16 ["_law_row_here"] ["_law_parts_here"] [2] iN.nd rfl rfl (b7 (aU bP (pv 2) ak)) (λ_=>(aN (i:=0) (show ND9 ["_law_row_here","_law_parts_here"] by decide +kernel))) (λ_=>cb) (λ_=>(b8 ["_law_row_here"] [] [] (nR K (aU (jc K (by rfl)) (pv 1) ak)) (λ_=>(aN (i:=0) (show ND9 ["_law_row_here"] by decide +kernel))) (λ_=>cb) (λ_=>(cP (aa ak (aa ak ag)))))))
   (au (dW PassesOwn.never rfl (cC rfl T.range (aa (pv 4) ag)) (aN (i:=11) iN.nd)
    (az (iE (aU bz (aU bz (aU bz (pv 6) ak) ak) (pv 11)) (jk (aU bz (pv 16) (pv 11)) (pv 11) set_list))))
   (az (a8 (jM (Ja (BZ hr)) (iP (aU bz (pv 8) ak) T.cl_Costs T.kP mC (hr.mono ()) T.mB .nil kd (aa ak ag)) (pv 16) (bI _)))))))))))))))),?_]
  refine aX (σ:=[some (.ref a),none,none,none,none,none,none,none,none,none,none,none,none,none,none,none,none]) rfl ?_;exists #[a,ns,rfl,hS,hlen,λb H0 hb0 B0 s0=>?_];exists #[b,rfl,B0,λt r w a' c' mv pt lk H1 g1 P1 D F KF RG w1 w2 B1 u1=>?_];have d8:=D.n8;have i4:=D.i4
  have szE:∀xs∈mv++pt,∀x∈xs,lh x:=λxs hx y hy=>by
   obtain M|V|h0|h1|h2|f1|f2|_:=F;refine Qx h0 (aj h1 (aF () ())) (aj h2 (aF () ())) ?_;rcases aw.mp hx with hx | hx
   ·exact f1 xs hx y hy
   ·exact f2 xs hx y hy
  obtain m|p|l|gt|mn|pn|ln|Gm|Gp|Gl:=id P1;obtain um|gm|qm|_:=id Gm;have lum:=qm.9;exists #[_,_,rfl,.inl (bJ.of gm),?_];rw[<- lum];clear gm qm lum Gm Gp Gl gt mn pn ln;exists #[r,H0,mv,pt,lk,rfl,P1,D,F.sf,λx H2 nx s2 S2=>?_];replace S2:ou K H0 H2 Z.a_System x mv pt lk:=S2.weakN λq h=>u1.none B1 h
  replace P1:=P1.same s2;have B2:=B1.same s2;exists #[b,r,H0,mv,pt,lk,rfl,B2,B0.at,P1,D,λr1 a1 a2 a3 q1 v1 f1 H3 nr1 na1 na2 na3 gr1 R1 R2 R3 WT1 B3 u3=>?_];replace P1:=P1.upto u3 B2 B0.at;replace S2:=S2.upto u3 B2 B0.at;have nb2:∀{q},H2 q=none->q≠b:=λh z=>B2.at (by rw[<- z];exact h)
  exists #[b,r,H0,mv,pt,lk,rfl,B3,B0.at,P1,D,λr2 b1 b2 b3 q2 v2 f2 H4 nr2 nb1 nb2' nb3 gr2 R4 R5 R6 WT2 B4 u4=>?_];replace P1:=P1.upto u4 B3 B0.at;replace S2:=S2.upto u4 B3 B0.at;have T1:Ib K H4 r1 q1 v1 f1:=#[a1,a2,a3,u4.other (nb2 nr1) gr1,R1.upto u4 B3 (nb2 na1),R2.upto u4 B3 (nb2 na2),R3.upto u4 B3 (nb2 na3)];have T2:Ib K H4 r2 q2 v2 f2:=#[b1,b2,b3,gr2,R4,R5,R6];have nb3':∀{q},H3 q=none->q≠b:=λh z=>B3.at (by rw[<- z];exact h)
  have n1b:=nb2 nr1;have n2b:=nb3' nr2;clear R1 R2 R3 R4 R5 R6 gr1 gr2;exists dw λrl H5 s5 n5 grl=>?_
  replace T1:=T1.same s5;replace T2:=T2.same s5;replace P1:=P1.same s5;replace S2:=S2.same s5;have B5:=B4.same s5
  have l3:∀{q v f:List Rat},p9 mv pt q v f->∀xs∈[q,v,f],xs.9<=8:=λW xs hx=>by
   have h1:=W.lq;have h2:=W.lr;have h3:=W.lf;rcases aI.mp hx with z | hx
   ·rw[z];lia
   rcases aI.mp hx with z | hx
   ·rw[z];lia
   rw[bg.mp hx];lia
  have pF:Paired (λ(g:LR9) v=>∃q us,v=V.ref q/\H5 q=some (.lst us)/\us.9=3/\(∀xs∈g,xs.9<=8)/\Paired (dF K (λ_=>none) H5) g us) [[q1,v1,f1],[q2,v2,f2]] [.ref r1,.ref r2]:=by
   obtain x1|x2|x3|g|Q1|Q2|Q3:=id T1;obtain y1|y2|y3|g'|Q4|Q5|Q6:=id T2;exact .cons #[r1,_,rfl,g,rfl,l3 WT1,.cons #[x1,rfl,rfl,Q1] (.cons #[x2,rfl,rfl,Q2] (.cons #[x3,rfl,rfl,Q3] .nil))] (.cons #[r2,_,rfl,g',rfl,l3 WT2,.cons #[y1,rfl,rfl,Q4] (.cons #[y2,rfl,rfl,Q5] (.cons #[y3,rfl,rfl,Q6] .nil))] .nil)
  exists #[#[_,bJ.of grl],?_];refine eS (K:=K) (a:=rl) (xs:=[.ref r1,.ref r2]) (λi ys H'=>aA H5 H'/\((i=0/\ys=[])\/(i=1/\∃d1,ys=[.ref d1]/\H5 d1=none/\bQ K H5 H' d1 [q1,v1,f1])\/(i=2/\∃d1 d2 HA,ys=[.ref d1,.ref d2]/\H5 d1=none/\bQ K H5 HA d1 [q1,v1,f1]/\aA H5 HA/\aA HA H'/\HA d2=none/\bQ K HA H' d2 [q2,v2,f2]))) (aL (bD (by show 2<=1000;decide))) #[aA.refl _,.inl #[rfl,rfl]] (λi ys H' _ #[s,_]=>bJ.of (s _ _ grl)) ?_ ?_
  ·rintro i x ys Ha hxi hli ⟨sa,hc⟩;obtain g|eg|q|us|rfl|gq|l3'|w8|pq:=cE pF hxi;replace gq:=sa _ _ gq;replace pq:=Paired.imp' (λ_ _ z=>dF.same z sa) pq;have lg:=pq.9;exists #[#[_,bJ.of gq],?_];refine cL (K:=K) (as:=g) (F:=dF K (λ_=>none)) (dF K Ha) (λxs=>xs) gq pq () (λa b=>a.same b) (λa b=>a.same b) ?_ ?_
   ·rintro j xs v Hb NY2 NN2 ex sb ⟨u,rfl,_,zu,gu,qu⟩ k2;exists #[u,zu,rfl,.inl (bJ.of gu),λl1 hl1=>?_];exact k2 _ _ (aA.new hl1) #[l1,rfl,sb.none hl1,zu,aK,Paired.imp' (λ_ _ z=>z.same (aA.new hl1)) qu]
   rintro zs Hb l2 n2 s2' g2 pr2 nx2;rw[List.map_id'] at pr2 nx2;have G:bQ K Ha Hb l2 g:=#[zs,g2,pr2,oO nx2];refine #[sa.trans s2',?_];rcases hc with ⟨rfl,rfl⟩ | ⟨rfl,d1,rfl,nd1,G1⟩ | ⟨rfl,_⟩
   ·cases eg;exact .inr (.inl #[rfl,l2,rfl,sa.none n2,G.weakN λq h=>sa.none h])
   ·cases eg;exact .inr (.inr #[rfl,d1,l2,Ha,rfl,nd1,G1,sa,s2',n2,G])
   ·cases hxi
  rintro ysh H6' _ ⟨s6,hc⟩ hl nhl;obtain _|d1|d2|HA|rfl|nd1|G1|sA|sA6|nd2|G2:=(hc.resolve_left λz=>nomatch z.1).resolve_left λz=>nomatch z.1
  have sn:aA H6' (upd H6' hl (.lst [.ref d1,.ref d2])):=aA.new nhl;have ghl:(upd H6' hl (.lst [.ref d1,.ref d2])) hl=some (.lst [.ref d1,.ref d2]):=aK;generalize upd H6' hl (.lst [.ref d1,.ref d2])=H6 at sn ghl ⊢;obtain _|gd1|pr1|nn1:=G1;obtain _|_|_|rfl|⟨x1,rfl,e1,X1⟩|⟨x2,rfl,e2,X2⟩|x3|rfl|e3|X3:=RD pr1;obtain _|gd2|pr2|nn2:=G2;obtain _|_|_|rfl|⟨y1,rfl,e4,Y1⟩|⟨y2,rfl,e5,Y2⟩|y3|rfl|e6|Y3:=RD pr2;have ne':∀{H:Hp} {a c:Addr},H a=none->H c≠none->a≠c:=λh h' z=>h' (by rw[<- z];exact h)
  have ns':∀{H H':Hp} {a:Addr} {o},aA H H'->H a=some o->H' a≠none:=λs h z=>by rw[s _ _ h] at z;cases z
  have RQn:∀{H H':Hp} {a:Addr} {xs:List Rat},cu K H a xs->aA H H'->H' a≠none:=λ#[_,g,_] s=>ns' s g
  obtain ⟨qa,eqa⟩:∃qa,qa=[x1,x2,x3,y1,y2,y3]:=#[_,rfl]
  have hlq:hl∉qa:=λh=>by
   rw[eqa] at h
   have:H6' hl≠none:=by
    simp only[aI,aT,or_false] at h;rcases h with z | z | z | z | z | z
    ·rw[z];exact RQn X1 sA6
    ·rw[z];exact RQn X2 sA6
    ·rw[z];exact RQn X3 sA6
    ·rw[z];exact RQn Y1 (aA.refl _)
    ·rw[z];exact RQn Y2 (aA.refl _)
    ·rw[z];exact RQn Y3 (aA.refl _)
   exact this nhl
  have d1q:d1∉qa:=λh=>by
   rw[eqa] at h;simp only[aI,aT,or_false] at h;have nA:HA d1≠none:=ns' (aA.refl _) gd1;rcases h with z | z | z | z | z | z
   ·exact nn1 (by rw[z];simp)
   ·exact nn1 (by rw[z];simp)
   ·exact nn1 (by rw[z];simp)
   ·exact nA (by rw[z];exact e4)
   ·exact nA (by rw[z];exact e5)
   ·exact nA (by rw[z];exact e6)
  have d2q:d2∉qa:=λh=>by
   rw[eqa] at h;simp only[aI,aT,or_false] at h;rcases h with z | z | z | z | z | z
   ·exact RQn X1 (aA.refl _) (by rw[<- z];exact nd2)
   ·exact RQn X2 (aA.refl _) (by rw[<- z];exact nd2)
   ·exact RQn X3 (aA.refl _) (by rw[<- z];exact nd2)
   ·exact nn2 (by rw[z];simp)
   ·exact nn2 (by rw[z];simp)
   ·exact nn2 (by rw[z];simp)
  have q5:∀q∈qa,H5 q=none:=λq h=>by
   rw[eqa] at h;simp only[aI,aT,or_false] at h;rcases h with rfl | rfl | rfl | rfl | rfl | rfl
   ·exact e1
   ·exact e2
   ·exact e3
   ·exact sA.none e4
   ·exact sA.none e5
   ·exact sA.none e6
  have s56:=s6.trans sn;have sA:=sA6.trans sn;replace X1:=X1.same sA;replace X2:=X2.same sA;replace X3:=X3.same sA;replace Y1:=Y1.same sn;replace Y2:=Y2.same sn;replace Y3:=Y3.same sn;replace gd1:=sA _ _ gd1;replace gd2:=sn _ _ gd2;clear nn1 nn2 nd2 e1 e2 e3 e4 e5 e6 sA6 sn s6 pF ne' ns' nhl hc;walk_at "w"
  have LA5:mV (λa=>a == b) H5:=λa ha=>by
   obtain q|y1|y2|y3|cs|h|_:=B5;rw[show a=b by simpa using ha];exact #[_,h]
  have h0A:∀a,(a == b)=true->H0 a≠none:=λa ha=>by rw[show a=b by simpa using ha];exact B0.at
  have hAb:∀a,(a == b)=true->a=b:=λa h=>by simpa using h
  obtain ⟨A0,eA0⟩:∃A,hdL (λa=>a == b) qa=A:=#[_,rfl];have h56:aA (dS (λa=>a == b) H5) (dS A0 H6):=by rw[<- eA0];exact Fu (λq h=>by unfold dS;split;rfl;exact q5 q h) (cG s56)
  have qL:∀x∈qa,∃vs,H6 x=some (.lst vs)/\vs.9<=8:=λq h=>by
   have lr:∀{a:Addr} {xs:List Rat},cu K H6 a xs->xs.9<=8->∃vs,H6 a=some (.lst vs)/\vs.9<=8:=λ#[vs,g,pr] l=>#[vs,g,by rw[<- pr.9];exact l]
   rw[eqa] at h;simp only[aI,aT,or_false] at h;rcases h with rfl | rfl | rfl | rfl | rfl | rfl
   ·exact lr X1 (l3 WT1 _ (by simp))
   ·exact lr X2 (l3 WT1 _ (by simp))
   ·exact lr X3 (l3 WT1 _ (by simp))
   ·exact lr Y1 (l3 WT2 _ (by simp))
   ·exact lr Y2 (l3 WT2 _ (by simp))
   ·exact lr Y3 (l3 WT2 _ (by simp))
  have L6:mV A0 H6:=by rw[<- eA0];exact (LA5.same s56).hdL λq h=>by obtain vs|g|_:=qL q h;exact #[vs,g]
  have S6:=(S2.hid0 LA5 h0A).same h56;have P6:=(P1.hid0 LA5 h0A).same h56;have T6:=(T1.hidb B5 LA5 hAb).same h56;have U6:=(T2.hidb B5 LA5 hAb).same h56;have B6:=B5.same s56;have A0b:A0 b=true:=by rw[<- eA0];exact Jo (by simp)
  have A0q:∀q∈qa,A0 q=true:=λq h=>by rw[<- eA0];exact Of h
  have bq:b∉qa:=λh=>B5.at (q5 b h)
  obtain q0|i1|i2|i3|ics|gbb|gq0|_:=id B5;have q0q:q0∉qa:=λh=>by rw[q5 q0 h] at gq0;cases gq0
  have rlA:A0 rl=false:=by
   cases e:A0 rl with
   | false=>rfl
   | true =>
    rw[<- eA0] at e;rcases Fv e with z | z
    ·rw[hAb _ z,gbb] at grl;cases grl
    ·rw[q5 rl z] at grl;cases grl
  have grl6:=s56 _ _ grl;have gbb6:=s56 _ _ gbb;have gq06:=s56 _ _ gq0;have T16:Ib K H6 r1 q1 v1 f1:=T1.same s56;have T26:Ib K H6 r2 q2 v2 f2:=T2.same s56;obtain ⟨M1,hM1⟩|_:=AW D WT1;obtain ⟨M2,hM2⟩|_:=AW D WT2;have lf1:=WT1.lf;have lf2:=WT2.lf;clear LA5 h0A hAb h56 q5 eA0 S2 P1 T1 T2 B5 grl gbb gq0 s56;refine #[#[_,bJ.of ghl],?_];refine eS (K:=K) (a:=hl) (xs:=[.ref d1,.ref d2]) (λi ys H'=>aA H6 H'/\((i=0/\ys=[])\/(i=1/\∃c1 k1,ys=[.ref c1]/\Em K H0 H6 Z.a_System Z.a_Costs mv pt lk q1 v1 f1 (p6 A0 k1) H' c1 k1)\/(i=2/\∃c1 k1 c2 k2,ys=[.ref c1,.ref c2]/\k1≠k2/\Em K H0 H6 Z.a_System Z.a_Costs mv pt lk q1 v1 f1 (p6 (p6 A0 k1) k2) H' c1 k1/\Em K H0 H6 Z.a_System Z.a_Costs mv pt lk q2 v2 f2 (p6 (p6 A0 k1) k2) H' c2 k2))) (aL (bD (by show 2<=1000;decide))) #[aA.refl _,.inl #[rfl,rfl]] (λi ys H' _ #[s,_]=>bJ.of (s _ _ ghl)) ?_ ?_
  ·rintro i x' ys Ha hxi hli ⟨sa,hc⟩;have da1:=sa _ _ gd1;have da2:=sa _ _ gd2;rcases hc with ⟨rfl,rfl⟩ | ⟨rfl,c1,k1,rfl,O1⟩ | ⟨rfl,_⟩
   ·cases hxi;walk_at "w";intro c1 dc1 nc1 ndc1 nec1;refine #[A0,c1,dc1,x,x1,x2,x3,Ha,H0,mv,pt,lk,q1,v1,f1,M1,rfl,nc1,ndc1,nec1,rfl,L6.same sa,S6.same (cG sa),X1.same sa,X2.same sa,X3.same sa,(),hM1,λkn w Hb s4 nkn C4 gkn KV=>#[rfl,?_]];exact #[sa.trans s4,.inr (.inl #[rfl,c1,kn,rfl,C4,sa.none nkn,qW,[w],gkn,(by show 1<=1;decide),(by show 1<=9;decide),.cons KV .nil])]
   ·cases hxi
    have g1:Ha k1≠none:=by
     obtain _|_|_|us|g|_:=O1;rw[g];exact λz=>nomatch z
    have La:mV (p6 A0 k1) Ha:=by
     obtain _|_|_|us|g|_:=O1;exact (L6.same sa).ad g
    have Sa:=S6.same (yV O1.2.1 (cG sa));walk_at "w";intro c2 dc2 nc2 ndc2 nec2;refine #[p6 A0 k1,c2,dc2,x,y1,y2,y3,Ha,H0,mv,pt,lk,q2,v2,f2,M2,rfl,nc2,ndc2,nec2,rfl,La,Sa,Y1.same sa,Y2.same sa,Y3.same sa,(),hM2,λkn w Hb s4 nkn C4 gkn KV=>#[rfl,?_]];exact #[sa.trans s4,.inr (.inr #[rfl,c1,k1,c2,kn,rfl,λz=>g1 (by rw[z];exact nkn),O1.go s4 (yV nkn (cG s4)) (y9 qW),C4,sa.none nkn,qW,[w],gkn,(by show 1<=1;decide),(by show 1<=9;decide),.cons KV .nil])]
   ·cases hxi
  rintro ysb H7' _ ⟨s7',hc⟩ bl nbl;obtain _|c1|k1|c2|k2|rfl|k12|O1|O2:=(hc.resolve_left λz=>nomatch z.1).resolve_left λz=>nomatch z.1
  have s7:aA H7' (upd H7' bl (.lst [.ref c1,.ref c2])):=aA.new nbl;have gbl:(upd H7' bl (.lst [.ref c1,.ref c2])) bl=some (.lst [.ref c1,.ref c2]):=aK;generalize upd H7' bl (.lst [.ref c1,.ref c2])=H7 at s7 gbl ⊢;have s67:=s7'.trans s7;obtain ⟨A,eA⟩:∃A,p6 (p6 A0 k1) k2=A:=#[_,rfl];have m67:aA (dS A0 H6) (dS A H7):=by rw[<- eA];exact Kv O2.2.1 (Kv O1.2.1 (cG s67))
  have L7':mV A H7':=by
   obtain _|_|_|_|g1|_:=id O1;obtain _|_|_|_|g2|_:=id O2;rw[<- eA];exact ((L6.same s7').ad g1).ad g2
  have L7:=L7'.same s7;rw[eA] at O1 O2;replace O1:=O1.go s7 (cG s7) O1.2.2.1;replace O2:=O2.go s7 (cG s7) O2.2.2.1;have n1:=O1.2.1;have n2:=O2.2.1;have A0up:∀{a},A0 a=true->A a=true:=λh=>by rw[<- eA];exact y9 (y9 h)
  have NM:rg b q0 k1 k2 (bT mv pt q1 v1 f1) (bT mv pt q2 v2 f2) A H7:=#[L7,A0up A0b,O1.2.2.1,O2.2.2.1,B6.same s67,#[_,_,_,s67 _ _ gbb6],O1.2.2.2,O2.2.2.2,k12,(λz=>by rw[<- z,gbb6] at n1;cases n1),(λz=>by rw[<- z,gbb6] at n2;cases n2),(λz=>by rw[<- z,gq06] at n1;cases n1),(λz=>by rw[<- z,gq06] at n2;cases n2)];have MO:Mg K H0 Z.a_System Z.a_Costs c1 k1 c2 k2 r bl rl r1 r2 mv pt lk q1 v1 f1 q2 v2 f2 (dS A H7):=#[O1.1,O2.1,P6.same m67,gY gbl (L7'.new nbl),m67 _ _ (gY grl6 rlA),T6.same m67,U6.same m67];have ghl7:=s67 _ _ ghl;have gd17:=s67 _ _ gd1;have gd27:=s67 _ _ gd2;have grl7:=s67 _ _ grl6;have kn1:k1∉qa:=λh=>by obtain vs|g|_:=qL k1 h;rw[g] at n1;cases n1
  have kn2:k2∉qa:=λh=>by obtain vs|g|_:=qL k2 h;rw[g] at n2;cases n2
  have inA:∀q∈qa,A q=true:=λq h=>A0up (A0q q h)
  have qL7:Me qa H7 H7 8:=#[λ_ _ _ h=>h,λq h=>by obtain vs|g|l:=qL q h;exact #[vs,s67 _ _ g,l]];exists #[_,_,TB uK,[[q1,v1,f1],[q2,v2,f2]],[[q1,v1,f1],[q2,v2,f2]],(),#[hl,_,rfl,bJ.of ghl7,.cons (NZ gd17 (X1.same s67) (X2.same s67) (X3.same s67)) (.cons (NZ gd27 (Y1.same s67) (Y2.same s67) (Y3.same s67)) .nil)],#[rl,_,rfl,bJ.of grl7,.cons (T16.same s67).kind (.cons (T26.same s67).kind .nil)],?_];rw[decide_eq_true rfl];clear O1 O2 L7 L7' m67 T6 U6 S6 P6 X1 X2 X3 Y1 Y2 Y3 T16 T26 L6 qL A0q s7 s7' nbl B6 gbb6 gq06 grl6 hc gd1 gd2 ghl;exists #[#[_,bJ.of ghl7],?_]
  have pick:∀{i:Nat} {v:V},[V.ref d1,.ref d2][i]?=some v->∃d u1 u2 u3,v=V.ref d/\H7 d=some (.lst [.ref u1,.ref u2,.ref u3])/\d∉qa/\∀j v,[V.ref u1,.ref u2,.ref u3][j]?=some v->∃u,v=V.ref u/\u∈qa:=λ{i v} h=>by
   match i,h with
   | 0,h=>cases h;exact #[d1,x1,x2,x3,rfl,gd17,d1q,at3 (by rw[eqa];simp) (by rw[eqa];simp) (by rw[eqa];simp)]
   | 1,h=>cases h;exact #[d2,y1,y2,y3,rfl,gd27,d2q,at3 (by rw[eqa];simp) (by rw[eqa];simp) (by rw[eqa];simp)]
  refine ib (K:=K) (a:=hl) (xs:=[.ref d1,.ref d2]) (λi σ' H'=>Me qa H7 H' (8+3*i)/\∃u9 u10 u11,σ'=[some (.ref a),some (.ref b),some (.ref r),some (.int w),some (.int mv.9),some (.ref x),some (.ref rl),some (.ref hl),some (.ref bl),u9,u10,u11,none,none,none,none,none]) #[qL7,_,_,_,rfl] (λi σ' H' _ #[o,_]=>bJ.of (o.1 _ _ hlq ghl7)) ?_ ?_
  ·rintro i v σ' Ha hv ⟨Qa,u9,u10,u11,rfl⟩;have i2:i < 2:=(aR.mp hv).1;obtain d|p1|p2|p3|rfl|gd|dq|pk:=pick hv;exists #[#[_,bJ.of (Qa.1 _ _ dq gd)],?_];refine ib (K:=K) (a:=d) (xs:=[.ref p1,.ref p2,.ref p3]) (λj σ' H'=>Me qa H7 H' (8+3*i+j)/\∃u10 u11,σ'=[some (.ref a),some (.ref b),some (.ref r),some (.int w),some (.int mv.9),some (.ref x),some (.ref rl),some (.ref hl),some (.ref bl),some (.ref d),u10,u11,none,none,none,none,none]) #[Qa,_,_,rfl] (λj σ' H' _ #[o,_]=>bJ.of (o.1 _ _ dq gd)) ?_ ?_
   ·rintro j v σ' Hb hv ⟨Qb,u10,u11,rfl⟩;have j3:j < 3:=(aR.mp hv).1;obtain u|rfl|hu:=pk j v hv;obtain vs|gu|lu:=Qb.2 u hu;exists #[_,_,rfl,.inl (bJ.of gu),?_];exists #[(),(),?_];refine eH (n:=vs.9) (λk σ' H'=>Me qa H7 H' (8+3*i+j)/\(∃ws,H' u=some (.lst ws)/\ws.9=vs.9)/\∃u11,σ'=[some (.ref a),some (.ref b),some (.ref r),some (.int w),some (.int mv.9),some (.ref x),some (.ref rl),some (.ref hl),some (.ref bl),some (.ref d),some (.ref u),u11,none,none,none,none,none]) #[Qb,#[_,gu,rfl],_,rfl] ?_ ?_
    ·rintro k' σ' Hc hk ⟨Qc,⟨ws,gw,lw⟩,u11,rfl⟩;exists b6 λt1 Hd sd gt1=>?_
     have gwd:=sd _ _ gw;exists gZ gwd (iu ()) rfl ?_;exact #[(Qc.same sd).set hu (by rw[eQ];lia) (ar _),#[_,aK,by rw[eQ];exact lw],_,rfl]
    rintro σ' Hc ⟨Qc,⟨ws,gw,lw⟩,u11,rfl⟩;exists #[.inl #[rfl,_,bJ.of gw],?_];exists b6 λt1 Hd sd gt1=>?_
    have gwd:=sd _ _ gw;exists jA gwd (bD ()) ?_;exact #[(Qc.same sd).set hu (by rw[aB];show ws.9+1<=_;lia) (),_,_,rfl]
   rintro σ' Hb ⟨Qb,u10,u11,rfl⟩;exact #[Qb.mono (by show 8+3*i+3<=_;lia),_,_,_,rfl]
  rintro σ' H8 ⟨Q8,u9,u10,u11,rfl⟩;obtain NM8|m78:=NM.keep Q8.1 (λq h=>by obtain vs|g|_:=Q8.2 q h;exact #[vs,g]) inA bq q0q kn1 kn2;replace MO:=MO.same m78;clear NM m78 Q8 pick qL7 inA bq q0q kn1 kn2 hlq d1q d2q ghl7 gd17 gd27 grl7;exists #[(),(),?_];refine eH (n:=3) (λi σ' H'=>(∃A,rg b q0 k1 k2 (bT mv pt q1 v1 f1) (bT mv pt q2 v2 f2) A H'/\Mg K H0 Z.a_System Z.a_Costs c1 k1 c2 k2 r bl rl r1 r2 mv pt lk q1 v1 f1 q2 v2 f2 (dS A H'))/\∃u9 u10 u11 u12 u13 u14 u15 u16,σ'=[some (.ref a),some (.ref b),some (.ref r),some (.int w),some (.int mv.9),some (.ref x),some (.ref rl),some (.ref hl),some (.ref bl),u9,u10,u11,u12,u13,u14,u15,u16]) #[#[_,NM8,MO],_,_,_,_,_,_,_,_,rfl] ?_ ?_
  ·clear NM8 MO;rintro i σ' Ha hi ⟨⟨A,NM,MO⟩,u9,u10,u11,u12,u13,u14,u15,u16,rfl⟩;exists #[b,2,rfl,NM.B,(),(),λiv Hb iv0 iv1 B1 w1'=>?_];obtain N1|m1:=NM.bag w1' B1;replace MO:=MO.same m1;clear NM m1;obtain im|c|kn|rt|qs|rs|fs|rfl|ec|er|WT|pM|pN|pT:=Th (K:=K) (H0:=H0) (C:=Z.a_System) (Cc:=Z.a_Costs) (c1:=c1) (kn1:=k1) (c2:=c2) (kn2:=k2) (r:=r) (bl:=bl) (rl:=rl) (r1:=r1) (r2:=r2) (b:=b) (q0:=q0) (lk:=lk) WT1 WT2 iv0 iv1;exists #[b,mv.9,w,rfl,N1.B,(),w1,(),λs st Hc nqs Rs ls ds B5 u5=>?_];obtain N5|m5:=N1.bag u5 B5;replace Rs:=Rs.hid N5.L (N1.L.new nqs);replace MO:=MO.same m5;clear N1 m5;exists #[b,r,H0,mv,pt,lk,rfl,N5.B,B0.at,MO.P.same a9,D,szE,λtt Hd FW B6 u6=>?_];obtain N6|m6:=N5.bag u6 B6;replace MO:=MO.same m6;replace Rs:=Rs.same m6;have t8:=FW.2.1;clear N5 m6;exists #[b,r,tt,w,H0,mv,pt,lk,rfl,(),w1,w2,N6.B,B0.at,MO.P.same a9,D,λp pus He np Gp lp wp B7 u7=>?_];obtain N7|m7:=N6.bag u7 B7;have G7:=Gp.hid N7.L N6.L (aA.refl (dS A Hd)) (N6.L.new np);replace MO:=MO.same m7;replace Rs:=Rs.same m7;clear N6 m7 Gp;obtain ⟨sg,om,bb,j9,KF9⟩|R9:=DT RG D WT FW ls ds #[lp,wp];have gr7:=a9 _ _ MO.gr;exists cy (bJ.of gr7) (eO er) ?_;exists #[r,rt,s,p,H0,_,mv,pt,lk,qs,rs,fs,st,pus,tt,rfl,MO.P.same a9,D,(pM MO).2.same a9,Rs.same a9,G7.same a9,R9.dr,λtd Hf sf NT=>?_];have mf:=cG (A:=A) sf;replace MO:=MO.same mf;replace Rs:=Rs.same mf;replace G7:=G7.same mf;replace NT:=NT.hid (N7.L.same sf);replace N7:=N7.same sf;clear sf mf;exists #[b,2,rfl,N7.B,(),(),λtv Hg tv0 tv1 B8 u8=>?_];obtain N8|m8:=N7.bag u8 B8;replace MO:=MO.same m8;replace Rs:=Rs.same m8;replace G7:=G7.same m8;replace NT:=NT.same m8;clear N7 m8;walk_at "w";by_cases tz:tv=0
   rotate_left
   ·rw[decide_eq_false tz];exists cy (bJ.of (a9 _ _ MO.gb)) (eO ec) ?_;exists cy (bJ.of (a9 _ _ MO.gr)) (eO er) ?_;walk_at "w";obtain Ak|us|KU:=pN N8;refine #[A,r,c,kn,rt,s,p,H0,H0,_,mv,pt,lk,qs,rs,fs,st,pus,tt,sg,om,bb,j9,us,rfl,N8.L,Ak,(pM MO).1,D,F,KF9,KU,MO.P,(pM MO).2,Rs,G7,R9,λA2 us' Hi up dn L2' sm m kn'=>?_];exists #[#[A2,pT N8 up L2' sm m kn',MO.same m],_,_,_,_,_,_,_,_,rfl]
   rw[decide_eq_true tz];obtain dx|sy|_|_|_|gx|_:=(pM MO).1.same a9;exists cy (bJ.of (a9 _ _ MO.gb)) (eO ec) ?_;exists #[c,dx,_,rfl,gx,qQ (by decide +kernel) (by decide +kernel) (by decide +kernel) (by decide +kernel) (by decide +kernel),?_];exists #[c,kn,s,p,H0,_,mv,pt,lk,qs,rs,fs,st,pus,tt,rfl,(pM MO).1.same a9,D,F,Rs.same a9,G7.same a9,R9.dr,λtc Hh sh NC=>?_];exists #[_,_,DS,_,_,(),NC,(NT.same a9).same sh,?_];rw[decide_eq_true rfl];have mh:=cG (A:=A) sh;replace MO:=MO.same mh;replace Rs:=Rs.same mh;replace G7:=G7.same mh;replace N8:=N8.same sh;clear NC NT sh mh gx;exists cy (bJ.of (a9 _ _ MO.gb)) (eO ec) ?_;exists cy (bJ.of (a9 _ _ MO.gr)) (eO er) ?_;walk_at "w";obtain Ak|us|KU:=pN N8;refine #[A,r,c,kn,rt,s,p,H0,H0,_,mv,pt,lk,qs,rs,fs,st,pus,tt,sg,om,bb,j9,us,rfl,N8.L,Ak,(pM MO).1,D,F,KF9,KU,MO.P,(pM MO).2,Rs,G7,R9,λA2 us' Hi up dn L2' sm m kn'=>?_];exists #[#[A2,pT N8 up L2' sm m kn',MO.same m],_,_,_,_,_,_,_,_,rfl]
  clear NM8 MO;rintro σ' Ha ⟨⟨A,NM,MO⟩,u9,u10,u11,u12,u13,u14,u15,u16,rfl⟩;obtain m|pp|ll|gt|mn|pn|ln|Gm|Gp|Gl:=MO.P.same a9;obtain um|gm|qm|_:=id Gm;exists #[#[_,bJ.of gm],?_];refine Jx (K:=K) (as:=mv) (F:=dF K H0) (λ_=>mv.map λ_=>(0:Rat)) gm qm () (λh s=>dF.same h s) ?_ ?_
  ·rintro i xs v Hb NY NN ex sb hF kk1;have gtb:=sb _ _ gt;have gmb:=sb _ _ gm;exists #[#[_,bJ.of gmb],?_];refine cL (K:=K) (as:=mv) (F:=dF K H0) (bS K) (λ_=>(0:Rat)) gmb (Paired.imp' (λ_ _ z=>dF.same z sb) qm) () (λh s=>dF.same h s) (λh s=>h.same s) ?_ ?_
   ·rintro j ys v2 Hc NY2 NN2 ey sc hF2 kk2;exists b6 λt1 Hd sd gt1=>?_
    exact kk2 _ _ sd (bS.mk gt1 rfl)
   rintro zs Hc l1 nl1 sc gl1 pl1 _;exact kk1 l1 Hc sc nl1 #[zs,gl1,pl1]
  rintro ys H1' gp ngp s1 g1 nd1 pr1 nn1;rw[QI (fs:=f1)] at pr1;have ly:=pr1.9;rw[show (L0 mv.9 f1 0).9=mv.9 from lQ] at ly;have lf:=WT1.lf;obtain b1|b2|b3|gr1|R1|R2|R3:=MO.T1.same a9;obtain z3|gz3|qz3:=id R3;have grl9:=a9 _ _ MO.gr;clear gt gm qm Gm Gp Gl mn pn ln R1 R2 R3;exists #[(),(),?_];refine eH (n:=mv.9) (λk' σ' H'=>aA Ha H'/\H' gp=some (.lst ys)/\Paired (dF K Ha H') (L0 mv.9 f1 k') ys/\∃u11,σ'=[some (.ref a),some (.ref b),some (.ref r),some (.int w),some (.int mv.9),some (.ref x),some (.ref rl),some (.ref hl),some (.ref bl),u9,u10,u11,u12,u13,u14,u15,some (.ref gp)]) #[s1,g1,pr1,_,rfl] ?_ ?_
  ·rintro k' σ' Hb hk ⟨sb,gb,prb,u11,rfl⟩;have gr9:=sb _ _ grl9;have gr1b:=sb _ _ gr1;have gz3b:=sb _ _ gz3;obtain vx|ex|nx:=Kt (Paired.imp' (λ_ _ z=>z.same sb) qz3) (j:=k') ();obtain ⟨v,ev⟩:∃v,ys[k']?=some v:=#[_,ai ()];obtain row|erow|q|rfl|nq|zs|gq|qq:=cE prb ev;rw[VB hk] at erow;cases erow;have lzs:=qq.9;rw[show (VU mv.9 f1 k').9=mv.9 by unfold VU;rw[af,bu]] at lzs;have qgp:q≠gp:=λz=>nn1 (by rw[<- z];exact ao ev)
   exists cy (bJ.of gz3b) ex ?_;exists cy (bJ.of gb) (eO ev) ?_;exists gZ gq (iu ()) rfl ?_;refine #[sb.after nq,by rw[a7 λz=>qgp z.symm];exact gb,?_,_,rfl];rw[<- TX hk];exact zA gq nq #[_,aK,wG (nx.updL gq) k' (Paired.imp' (λ_ _ z=>z.updL gq) qq)] prb nd1 ev
  rintro σ' Hb ⟨sb,gb,prb,u11,rfl⟩
  have k1a:Ha k1≠none:=by
   obtain us|h|_:=NM.N1;rw[h];exact λz=>nomatch z
  have GG:bQ K Ha Hb gp (L0 mv.9 f1 mv.9):=#[ys,gb,prb,nn1];replace NM:=NM.same sb;replace MO:=MO.same (cG sb);clear sb gr1 gz3 qz3 grl9 pr1 g1 s1;obtain sg|om|bb|j9|KF:=Qt RG D WT1;obtain dx|sy|_|_|_|gx|_:=MO.C1.same a9;obtain us|KU:=NM.N1;have gbl9:=a9 _ _ MO.gb;exists #[c1,dx,_,rfl,gx,qQ (by decide +kernel) (by decide +kernel) (by decide +kernel) (by decide +kernel) (by decide +kernel),?_];exists #[A,c1,k1,H0,mv,pt,lk,q1,v1,f1,0,sg,om,bb,j9,0,us,rfl,NM.L,NM.A1,MO.C1.co,D,KF,ar _,KU,λg us1 Hm Hc sm KU1 sc ng G1=>?_];rw[Pf D WT1] at G1;exists #[_,_,uK,_,_,(),G1.kind,((GG.smx sm KU.1 (λz=>k1a (by rw[<- z];exact ngp)) k1a).same sc).kind,?_];rw[decide_eq_true rfl];exists k _
end
theorem ln1 {P:List Value->Prop} (h:∀x0,P [x0]):∀us:List Value,us.9=1->P us
 | [x0],_=>h x0
theorem ln2 {P:List Value->Prop} (h:∀x0 x1,P [x0,x1]):∀us:List Value,us.9=2->P us
 | [x0,x1],_=>h x0 x1
theorem Vq {P:List Value->Prop} (h:∀x0 x1 x2,P [x0,x1,x2]):∀us:List Value,us.9=3->P us
 | [x0,x1,x2],_=>h x0 x1 x2
theorem ln4 {P:List Value->Prop} (h:∀x0 x1 x2 x3,P [x0,x1,x2,x3]):∀us:List Value,us.9=4->P us
 | [x0,x1,x2,x3],_=>h x0 x1 x2 x3
theorem ln5 {P:List Value->Prop} (h:∀x0 x1 x2 x3 x4,P [x0,x1,x2,x3,x4]):∀us:List Value,us.9=5->P us
 | [x0,x1,x2,x3,x4],_=>h x0 x1 x2 x3 x4
local macro_rules | `(tactic| walk_at "b") => `(tactic| (intro _ _ _ _ _ _; first | (refine ln1 ?_; intros; rfl) | (refine ln2 ?_; intros; rfl) | (refine Vq ?_; intros; rfl) | (refine ln4 ?_; intros; rfl) | (refine ln5 ?_; intros; rfl)))
theorem all_mk {l:W.OpenLaw} {K:W.Frag} 
 
  (X:K.In h) (G:h.Ns mainGlobals mg) (hfa:mg "law"=some (.ref fa)) (htree:l.prog.given.tree=none)
 (aC:W.nsIn K mainGlobals "System"=some (some (.ref C)))
 (aC_Costs:W.nsIn K mainGlobals "Costs"=some (some (.ref C_Costs)))
  (h0:Dh K "_law_bag" wF f0 e0)
  (h1:Dh K "_law_take" uf f1 e1)
  (h2:Dh K "_law_sizes" mX f2 e2)
  (h3:Dh K "_law_line" ur f3 e3)
  (h4:Dh K "_law_low" wC f4 e4)
  (h5:Dh K "_law_sum" wA f5 e5)
  (h6:Dh K "_law_plus" uj f6 e6)
  (h7:Dh K "_law_prod" ui f7 e7)
  (h8:Dh K "_law_by" yG f8 e8)
  (h9:Dh K "_law_mixed" rN f9 e9)
  (h10:Dh K "_law_two_lines" lG f10 e10)
  (h11:Dh K "_law_number" pJ f11 e11)
  (h12:Dh K "_law_row" wB f12 e12)
  (h13:Dh K "_law_move" uo f13 e13)
  (h14:Dh K "_law_parts" rM f14 e14)
  (h15:Dh K "_law_system" pI f15 e15)
  (h16:Dh K "want_list" tX f16 e16)
  (h17:Dh K "is_whole" wy f17 e17)
  (h18:Dh K "common_divisor" lE f18 e18)
  (h19:Dh K "is_number" ue f19 e19)
  (h20:Dh K "is_row" Bm f20 e20)
  (h21:Dh K "copied_rows" pH f21 e21)
  (a22:W.findIn K (.ref C) "__init__"=some (some (.ref f22))) (i22:W.isFn K (.ref f22)=true) (l22:K.lookup f22=some #[oc22,od22,.func (W.fnOf "__init__" "System.__init__" (ic fJ) (fN fJ) (aM fJ) .none kV22 dc22 pm22 an22 cd22 ct22),sl22]) (c22:W.codeIn K cd22 "System.__init__"=true) (k22:W.keepIn K (.ref f22)=true)
  (h23:Dh K "_law_copied" pO f23 e23)
  (h24:Dh K "_law_made" uq f24 e24)
  (h25:Dh K "_law_weights" nO f25 e25)
  (h26:Dh K "_law_rates" rL f26 e26)
  (h27:Dh K "common_multiple" kB f27 e27)
  (h28:Dh K "common_bottom" mS f28 e28)
  (h29:Dh K "tops_over" tY f29 e29)
  (h30:Dh K "main_line" t9 f30 e30)
  (a31:W.findIn K (.ref C_Costs) "__init__"=some (some (.ref f31))) (i31:W.isFn K (.ref f31)=true) (l31:K.lookup f31=some #[oc31,od31,.func (W.fnOf "__init__" "Costs.__init__" (ic gK) (fN gK) (aM gK) .none kV31 dc31 pm31 an31 cd31 ct31),sl31]) (c31:W.codeIn K cd31 "Costs.__init__"=true) (k31:W.keepIn K (.ref f31)=true)
  (h32:Dh K "_law_puts" uh f32 e32)
  (h33:Dh K "_law_steps" rJ f33 e33)
  (h34:Dh K "_law_few" rO f34 e34)
  (h35:Dh K "_law_effort" pL f35 e35)
  (h36:Dh K "_law_dot" wD f36 e36)
  (h37:Dh K "_law_on" yF f37 e37)
  (h38:Dh K "_law_next" uk f38 e38)
  (h39:Dh K "_law_cost" uw f39 e39)
  (h40:Dh K "grid_turned" pG f40 e40)
  (h41:Dh K "lowest" Bl f41 e41)
  (h42:Dh K "row_dot" yD f42 e42)
  (a43:W.findIn K (.ref C) "moved"=some (some (.ref f43))) (i43:W.isFn K (.ref f43)=true) (l43:K.lookup f43=some #[oc43,od43,.func (W.fnOf "moved" "System.moved" (ic iD) (fN iD) (aM iD) .none kV43 dc43 pm43 an43 cd43 ct43),sl43]) (c43:W.codeIn K cd43 "System.moved"=true) (k43:W.keepIn K (.ref f43)=true)
  (h44:Dh K "course" Bo f44 e44)
  (h45:Dh K "plus" IQ f45 e45)
  (h46:Dh K "flat" IS f46 e46)
  (h47:Dh K "squared" yC f47 e47)
  (h48:Dh K "effort" Bn f48 e48)
  (a49:W.findIn K (.ref C_Costs) "cost"=some (some (.ref f49))) (i49:W.isFn K (.ref f49)=true) (l49:K.lookup f49=some #[oc49,od49,.func (W.fnOf "cost" "Costs.cost" (ic jy) (fN jy) (aM jy) .none kV49 dc49 pm49 an49 cd49 ct49),sl49]) (c49:W.codeIn K cd49 "Costs.cost"=true) (k49:W.keepIn K (.ref f49)=true)
  (h50:Dh K "told_grid" tZ f50 e50)
  (h51:Dh K "whole_grid" rH f51 e51)
  (h52:Dh K "whole_dot" tW f52 e52)
  (h53:Dh K "whole_on" wo f53 e53)
  (a54:W.findIn K (.ref C_Costs) "step_cost"=some (some (.ref f54))) (i54:W.isFn K (.ref f54)=true) (l54:K.lookup f54=some #[oc54,od54,.func (W.fnOf "step_cost" "Costs.step_cost" (ic fL) (fN fL) (aM fL) .none kV54 dc54 pm54 an54 cd54 ct54),sl54]) (c54:W.codeIn K cd54 "Costs.step_cost"=true) (k54:W.keepIn K (.ref f54)=true)
  (h55:Dh K "cleared" yE f55 e55)
  (h56:Dh K "lessened" wu f56 e56)
  (a57:W.findIn K (.ref C_Costs) "ahead_of"=some (some (.ref f57))) (i57:W.isFn K (.ref f57)=true) (l57:K.lookup f57=some #[oc57,od57,.func (W.fnOf "ahead_of" "Costs.ahead_of" (ic gJ) (fN gJ) (aM gJ) .none kV57 dc57 pm57 an57 cd57 ct57),sl57]) (c57:W.codeIn K cd57 "Costs.ahead_of"=true) (k57:W.keepIn K (.ref f57)=true)
  (a58:W.findIn K (.ref C_Costs) "with_left"=some (some (.ref f58))) (i58:W.isFn K (.ref f58)=true) (l58:K.lookup f58=some #[oc58,od58,.func (W.fnOf "with_left" "Costs.with_left" (ic fK) (fN fK) (aM fK) .none kV58 dc58 pm58 an58 cd58 ct58),sl58]) (c58:W.codeIn K cd58 "Costs.with_left"=true) (k58:W.keepIn K (.ref f58)=true)
  (a59:W.findIn K (.ref C_Costs) "worth"=some (some (.ref f59))) (i59:W.isFn K (.ref f59)=true) (l59:K.lookup f59=some #[oc59,od59,.func (W.fnOf "worth" "Costs.worth" (ic iW) (fN iW) (aM iW) .none kV59 dc59 pm59 an59 cd59 ct59),sl59]) (c59:W.codeIn K cd59 "Costs.worth"=true) (k59:W.keepIn K (.ref f59)=true)
  (h60:Dh K "_law_kept" uv f60 e60)
  (h61:Dh K "_law_is_number" lH f61 e61)
  (h62:Dh K "_law_is_row" pK f62 e62)
  (h63:Dh K "_law_is_grid" nP f63 e63)
  (h64:Dh K "_law_grid_well" lI f64 e64)
  (h65:Dh K "on_state" wt f65 e65)
  (a66:W.findIn K (.ref C_Costs) "due"=some (some (.ref f66))) (i66:W.isFn K (.ref f66)=true) (l66:K.lookup f66=some #[oc66,od66,.func (W.fnOf "due" "Costs.due" (ic j8) (fN j8) (aM j8) .none kV66 dc66 pm66 an66 cd66 ct66),sl66]) (c66:W.codeIn K cd66 "Costs.due"=true) (k66:W.keepIn K (.ref f66)=true)
  (a67:W.findIn K (.ref C_Costs) "best"=some (some (.ref f67))) (i67:W.isFn K (.ref f67)=true) (l67:K.lookup f67=some #[oc67,od67,.func (W.fnOf "best" "Costs.best" (ic jz) (fN jz) (aM jz) .none kV67 dc67 pm67 an67 cd67 ct67),sl67]) (c67:W.codeIn K cd67 "Costs.best"=true) (k67:W.keepIn K (.ref f67)=true)
  (h68:Dh K "_law_less" uu f68 e68)
  (h69:Dh K "_law_right" rK f69 e69)
  (h70:Dh K "law" M8 f70 e70)
 (ci0:W.nsIn K mainGlobals "MOST_STATES"=some (some (.int 8 it0)))
 (ci1:W.nsIn K mainGlobals "MOST_PUTS"=some (some (.int 4 it1)))
 (ci2:W.nsIn K mainGlobals "MOST_LOOKS"=some (some (.int 4 it2)))
  (pg:W.plainGet K C Str.empty=true) (hd:W.hasDictIn K C=true) (po:W.plainOver K C=true) (sa:W.findIn K (.ref C) "__setattr__"=some (some (.builtin "object.__setattr__"))) (mk:W.makesIn K C=true) (kc:W.keepIn K (.ref C)=true)
  (n_move:W.findIn K (.ref C) "move"=some none)
  (n_states:W.findIn K (.ref C) "states"=some none)
  (n_put:W.findIn K (.ref C) "put"=some none)
  (n_ins:W.findIn K (.ref C) "ins"=some none)
  (n_look:W.findIn K (.ref C) "look"=some none)
  (n_outs:W.findIn K (.ref C) "outs"=some none)
  (pg_Costs:W.plainGet K C_Costs Str.empty=true) (hd_Costs:W.hasDictIn K C_Costs=true) (po_Costs:W.plainOver K C_Costs=true) (sa_Costs:W.findIn K (.ref C_Costs) "__setattr__"=some (some (.builtin "object.__setattr__"))) (mk_Costs:W.makesIn K C_Costs=true) (kc_Costs:W.keepIn K (.ref C_Costs)=true)
  (n_Costs_known:W.findIn K (.ref C_Costs) "known"=some none)
  (n_Costs_last_weights:W.findIn K (.ref C_Costs) "last_weights"=some none)
  (n_Costs_put_weights:W.findIn K (.ref C_Costs) "put_weights"=some none)
  (n_Costs_state_weights:W.findIn K (.ref C_Costs) "state_weights"=some none)
  (n_Costs_system:W.findIn K (.ref C_Costs) "system"=some none)
  (z_abs:W.nsIn K mainGlobals "abs"=some none)
  (z_len:W.nsIn K mainGlobals "len"=some none)
  (z_min:W.nsIn K mainGlobals "min"=some none)
  (z_int:W.nsIn K mainGlobals "int"=some none)
  (z_range:W.nsIn K mainGlobals "range"=some none)
  (z_isinstance:W.nsIn K mainGlobals "isinstance"=some none)
  (z_list:W.nsIn K mainGlobals "list"=some none)
  (z_bool:W.nsIn K mainGlobals "bool"=some none)
  (z_tuple:W.nsIn K mainGlobals "tuple"=some none)
  (z_all:W.nsIn K mainGlobals "all"=some none)
  (z_enumerate:W.nsIn K mainGlobals "enumerate"=some none)
  (z_max:W.nsIn K mainGlobals "max"=some none)
  (z_zip:W.nsIn K mainGlobals "zip"=some none)
  (z_sum:W.nsIn K mainGlobals "sum"=some none)
  : ∃fd:FuncData,(∀(s:Shared) (v:Value),BindsTo s fd #[[v],[]] [("_law_script",v)])/\∀base:Heap,K.In base->base.Ns mainGlobals mg->cQ l.prog w K mg base iJ 11 fa fd ["_law_script"] (A6 K):=by
 have e:=hfa.symm.trans (W.mg_of X G h70.a);cases e;obtain _|_|_|_|_|_|_|_|_|rfl|_|_:=h70.F.ex;have F22:=og (st:=fJ) l22 c22 k22;have F31:=og (st:=gK) l31 c31 k31;have F43:=og (st:=iD) l43 c43 k43;have F49:=og (st:=jy) l49 c49 k49;have F54:=og (st:=fL) l54 c54 k54;have F57:=og (st:=gJ) l57 c57 k57;have F58:=og (st:=fK) l58 c58 k58;have F59:=og (st:=iW) l59 c59 k59;have F66:=og (st:=j8) l66 c66 k66;have F67:=og (st:=jz) l67 c67 k67
 have T:Txt K mg #[f0,_,f1,_,f2,_,f3,_,f4,_,f5,_,f6,_,f7,_,f8,_,f9,_,f10,_,f11,_,f12,_,f13,_,f14,_,f15,_,f16,_,f17,_,f18,_,f19,_,f20,_,f21,_,f22,_,f23,_,f24,_,f25,_,f26,_,f27,_,f28,_,f29,_,f30,_,f31,_,f32,_,f33,_,f34,_,f35,_,f36,_,f37,_,f38,_,f39,_,f40,_,f41,_,f42,_,f43,_,f44,_,f45,_,f46,_,f47,_,f48,_,f49,_,f50,_,f51,_,f52,_,f53,_,f54,_,f55,_,f56,_,f57,_,f58,_,f59,_,f60,_,f61,_,f62,_,f63,_,f64,_,f65,_,f66,_,f67,_,f68,_,f69,_,fa,_,it0,it1,it2,C,C_Costs]:={
  uJ:=h0.D X G
  aV:=h1.D X G
  pW:=h2.D X G
  kL:=h3.D X G
  hZ:=h4.D X G
  hR:=h5.D X G
  ni:=h6.D X G
  hX:=h7.D X G
  sN:=h8.D X G
  ma:=h9.D X G
  kK:=h10.D X G
  nX:=h11.D X G
  jn:=h12.D X G
  sI:=h13.D X G
  pY:=h14.D X G
  nW:=h15.D X G
  kI:=h16.D X G
  oR:=h17.D X G
  fM:=h18.D X G
  rX:=h19.D X G
  yO:=h20.D X G
  jm:=h21.D X G
  oW:=F22.binds (ps:=["self","move","put","look"]) λ_ _ _ _ _ _=>by refine ln4 ?_;intros;rfl
  o6:=F22
  jr:=h23.D X G
  sJ:=h24.D X G
  iV:=h25.D X G
  l9:=h26.D X G
  jW:=h27.D X G
  dJ:=h28.D X G
  gE:=h29.D X G
  nh:=h30.D X G
  qV:=F31.binds (ps:=["self","system","state_weights","put_weights","last_weights"]) λ_ _ _ _ _ _=>by refine ln5 ?_;intros;rfl
  rj:=F31
  rY:=h32.D X G
  pV:=h33.D X G
  uI:=h34.D X G
  jo:=h35.D X G
  oS:=h36.D X G
  rZ:=h37.D X G
  so:=h38.D X G
  kO:=h39.D X G
  kJ:=h40.D X G
  lN:=h41.D X G
  lM:=h42.D X G
  mT:=#[a43,i43,k43]
  oo:=F43.binds (ps:=["self","state","puts"]) λ_ _ _ _ _ _=>by refine Vq ?_;intros;rfl
  va:=F43
  yP:=h44.D X G
  AD:=h45.D X G
  vn:=h46.D X G
  wN:=h47.D X G
  qI:=h48.D X G
  me:=#[a49,i49,k49]
  nk:=F49.binds (ps:=["self","start","puts"]) λ_ _ _ _ _ _=>by refine Vq ?_;intros;rfl
  yn:=F49
  rW:=h50.D X G
  pU:=h51.D X G
  rV:=h52.D X G
  mK:=h53.D X G
  nZ:=#[a54,i54,k54]
  oX:=F54.binds (ps:=["self","behind"]) λ_ _ _ _ _ _=>by refine ln2 ?_;intros;rfl
  o8:=F54
  wO:=h55.D X G
  uH:=h56.D X G
  oT:=#[a57,i57,k57]
  qU:=F57.binds (ps:=["self","behind"]) λ_ _ _ _ _ _=>by refine ln2 ?_;intros;rfl
  rh:=F57
  iR:=#[a58,i58,k58]
  jd:=F58.binds (ps:=["self","left"]) λ_ _ _ _ _ _=>by refine ln2 ?_;intros;rfl
  o7:=F58
  kP:=#[a59,i59,k59]
  mB:=F59.binds (ps:=["self","left"]) λ_ _ _ _ _ _=>by refine ln2 ?_;intros;rfl
  vZ:=F59
  fA:=h60.D X G
  jb:=h61.D X G
  nY:=h62.D X G
  jN:=h63.D X G
  kM:=h64.D X G
  oQ:=h65.D X G
  xJ:=#[a66,i66,k66]
  zX:=F66.binds (ps:=["self","state","left"]) λ_ _ _ _ _ _=>by refine Vq ?_;intros;rfl
  An:=F66
  vJ:=#[a67,i67,k67]
  yb:=F67.binds (ps:=["self","start","steps"]) λ_ _ _ _ _ _=>by refine Vq ?_;intros;rfl
  yo:=F67
  sL:=h68.D X G
  pX:=h69.D X G
  Sk:=h70.F
  abs:=W.mg_none_of X G z_abs
  len:=W.mg_none_of X G z_len
  min:=W.mg_none_of X G z_min
  int:=W.mg_none_of X G z_int
  range:=W.mg_none_of X G z_range
  isinstance:=W.mg_none_of X G z_isinstance
  list:=W.mg_none_of X G z_list
  bool:=W.mg_none_of X G z_bool
  tuple:=W.mg_none_of X G z_tuple
  all:=W.mg_none_of X G z_all
  enumerate:=W.mg_none_of X G z_enumerate
  max:=W.mg_none_of X G z_max
  zip:=W.mg_none_of X G z_zip
  sum:=W.mg_none_of X G z_sum
  mg_MOST_STATES:=W.mg_of X G ci0
  mg_MOST_PUTS:=W.mg_of X G ci1
  mg_MOST_LOOKS:=W.mg_of X G ci2
  mg_System:=W.mg_of X G aC
  cl_System:=#[pg,hd,po,sa]
  na_move:=n_move
  na_states:=n_states
  na_put:=n_put
  na_ins:=n_ins
  na_look:=n_look
  na_outs:=n_outs
  mk_System:=#[mk,a22,i22,kc]
  mg_Costs:=W.mg_of X G aC_Costs
  cl_Costs:=#[pg_Costs,hd_Costs,po_Costs,sa_Costs]
  na_Costs_known:=n_Costs_known
  na_Costs_last_weights:=n_Costs_last_weights
  na_Costs_put_weights:=n_Costs_put_weights
  na_Costs_state_weights:=n_Costs_state_weights
  na_Costs_system:=n_Costs_system
  mk_Costs:=#[mk_Costs,a31,i31,kc_Costs] }
 exact #[_,λs v=>.of_eq rfl,λbase _ _=>To T htree]
theorem walk {l:W.OpenLaw} {K:Params->W.Frag} (hn:l.most=some 63) (hdf:d.params.defaults=[])
  (hi:PyProof.Rows.importsNone q=true)
  (hY:∀(w:World) (h:Heap),YP w h->(K w.params).In h)
  (F:∀(w:World) (mg:Str->Option Value) (fa:Addr) (h:Heap),(K w.params).In h->h.Ns mainGlobals mg->mg d.name=some (.ref fa) →
   ∃fd:FuncData,(∀(s:Shared) (u:Value),BindsTo s fd #[[u],[]] [("_law_script",u)])/\∀base:Heap,(K w.params).In base->base.Ns mainGlobals mg->cQ l.prog w (K w.params) mg base iJ 11 fa fd ["_law_script"] (A6 (K w.params))) :
  W.WalkO q loose XP YP l.row.toRowW d [] (λf vs=>PySem.call f vs) :=
 L2.Pg (n:=63) (k:=11) (x:="_law_script") (CX:=λ_=>iJ) (sp:=λw=>A6 (K w.params)) hn () hdf #[rfl,(),()] hi hY F (λ_ _ a ns hl _ hS=>#[a,ns,rfl,hS,hl,λ_=>rfl]) λ_ _ _ _ _ z=>z
end Lw
namespace PySem.W.Fast
def tw12964410848740472958:=1
def tw8618527751687722031:=1
def tw4535389044191167380:=1
def tw14728709204944610051:=1
def tw4853962046481616238:=1
def tw3901266252193093859:=1
def tw12915376555493605046:=1
def tw467999842904535379:=1
def tw10950996213338144114:=1
def tw312214663264012090:=1
def tw14333575918794654310:=1
def tw40265766738357029:=1
def tw9636460699728335633:=1
def tw6390018724333406920:=1
def tw10680212935430321668:=1
def tw16600706683209163741:=1
def tw13659234076841998387:=1
def tw1851260379273348589:=1
def tw12338142822928431284:=1
def tw16949756516019303614:=1
def tw688420700739940543:=1
def tw9338033875438904703:=1
def tw7760614791312139011:=1
def tw17210296949534413532:=1
def tw18152273782697829400:=1
def tw5177471379868367454:=1
def tw1621698598233147825:=1
def tw8678018661921859672:=1
def tw10896123696957587637:=1
def tw11826413192892093882:=1
def tw3124262420865753124:=1
def tw9973718832866501891:=1
def tw4827969659450564496:=1
def tw16177829048640922788:=1
def tw4824624340683916723:=1
def tw7887607561729267265:=1
def tw748468862006008857:=1
def tw6822937629769946055:=1
def tw15705216726078594714:=1
def tw8644603637762705346:=1
def tw484581470358901153:=1
def tw16428724254449463055:=1
def tw4336688346640945296:=1
def tw15410829386667855190:=1
def tw353931583233610890:=1
def tw2277283299151880213:=1
def tw4083680841911257738:=1
def tw12534239752778961732:=1
def tw1741514951620881983:=1
def tw11617507985445093587:=1
def tw7688070293010915739:=1
def tw15680869658519361782:=1
def tw12868333143562548318:=1
def tw6486911660327806152:=1
def tw1262105079362925442:=1
def tw13437008754468686430:=1
def tw18404672605498521451:=1
def tw13734764406284587180:=1
def tw56833758323905379:=1
def tw2207498764117942559:=1
def tw2889157362083359046:=1
def tw8624281194066416384:=1
def tw16187000060329677071:=1
def tw2145649306684065038:=1
def tw17488682268810199690:=1
def tw5660477967013869200:=1
def tw14900226522529348237:=1
def tw4331158793144079623:=1
def tw4976163136620080785:=1
def tw12878676707379497207:=1
def tw4696374561263113901:=1
def tw10390432357829104155:=1
def tw9124900676945149156:=1
def tw7139273942675127135:=1
def tw12802743066648688915:=1
def tw8880788289601651674:=1
def tw11218449776952303189:=1
def tw947233730082540531:=1
def tw17963259991942412338:=1
def tw2621094270185824464:=1
def tw17830585137381939326:=1
def tw15125622215945306862:=1
def tw628109125442707626:=1
def tw7532183443378317022:=1
def tw8277353816875201948:=1
def tw4338673488525775128:=1
def tw9531386599506341071:=1
def tw4968756619679638062:=1
def tw5484897243323294002:=1
def tw12124648722736752449:=1
def tw9161927000709669307:=1
def tw9460578657844332736:=1
def tw3580990631766318086:=1
def tw3448537548194110143:=1
def tw336057207122085060:=1
def tw4067866080674725411:=1
def tw7097802432966666791:=1
def tw1646617694984043760:=1
def tw13629888574057208746:=1
def tw13526078706182569374:=1
def tw16931485829596097881:=1
def tw5297190574375061698:=1
def tw10608224459175854402:=1
def tw11199078280748081387:=1
def tw4174750011408591857:=1
def tw10910110739067951157:=1
def tw359490265878635004:=1
def tw8609702629027495715:=1
def tw3503608191039526364:=1
def tw8282997571579305216:=1
def tw9222408082048262161:=1
def tw18211917577869506991:=1
def tw8591800964790696030:=1
def tw559855370664528158:=1
def tw1963369312846542605:=1
def tw4940439595319081307:=1
def tw13291344776448462842:=1
def tw8207370648793709589:=1
def tw430872633158775057:=1
def tw12432094417431281421:=1
def tw15523472489791825930:=1
def tw14185310950395097545:=1
def tw14244646959097125000:=1
def tw16391796197442434420:=1
def tw8577382954309902611:=1
def tw1593334368335370873:=1
def tw3114617213088188522:=1
def tw9746194604051052365:=1
def tw9563876595346343162:=1
def tw4048770686610580285:=1
def tw462630115309525589:=1
def tw8801390449570592801:=1
def tw260671111102758210:=1
def tw12662362923595033769:=1
def tw14800397561836394110:=1
def tw7725749425132575712:=1
def tw11092486174258941788:=1
def tw7907157765295812460:=1
def tw10989931195348864211:=1
def tw10257600863245901843:=1
def tw13196403562609314076:=1
def tw18259621758382350555:=1
def tw1643357963393820467:=1
def tw16622751843310226061:=1
def tw14460345372741661293:=1
def tw3773193236111816583:=1
def tw3113630836509747733:=1
def tw13965258315071990631:=1
def tw13873107685360668794:=1
def tw8149126977675468233:=1
def tw8489650425748128915:=1
def tw8433477995941115628:=1
def tw856125418677921242:=1
def tw11221044581173157668:=1
def tw11622266760893961203:=1
def tw15397869063096022597:=1
def tw7642997539669094489:=1
def tw7940105986194688840:=1
def tw603053652616048405:=1
def tw6443121343878899433:=1
def tw471678313310506924:=1
def tw12750824676906218096:=1
def tw17355008807460308042:=1
def tw15104667749196755966:=1
def tw13000747980763049307:=1
def tw2705031052651973760:=1
def tw11183121526344892910:=1
def tw16592893144227571977:=1
def tw6731048297971418046:=1
def tw14812611293831189145:=1
def tw4661938474186730943:=1
def tw13506088835410052072:=1
def tw11397175603395391010:=1
def tw6652727559572197130:=1
def tw14072098691965445236:=1
def tw841157988986578045:=1
def tw13994578764905113655:=1
def tw1732013655991811501:=1
def tw12442061444759421810:=1
def tw12744509484745707453:=1
def tw1339252837713487119:=1
def tw8891826713168514577:=1
def tw6964838095614298979:=1
def tw8491490445460497056:=1
def tw10632543346226262117:=1
def tw8592489057327814824:=1
def tw9782241529012208274:=1
def tw7784490285659281935:=1
def tw14234384180184704213:=1
def tw8680122462238020582:=1
def tw14217133245944909113:=1
def tw9966268709513809009:=1
def tw15695506573165568667:=1
def tw1698047016201489963:=1
def tw7872612056605485600:=1
def tw3004303898676208096:=1
def tw11741370660360774357:=1
def tw10159994513355631073:=1
def tw8158492889924087433:=1
def tw10239398797319732920:=1
def tw15621286753562650021:=1
def tw7375741125298466857:=1
def tw9509644812763391680:=1
def tw11883940340470103039:=1
def tw17584683640417402821:=1
def tw17102491762914499394:=1
def tw7974654208734682054:=1
def tw3748365770249755666:=1
def tw16159793084573755151:=1
def tw4178217841605659541:=1
def tw2470235384687962382:=1
def tw18197051659014509875:=1
def tw13753358521459809040:=1
def tw15412541973630455936:=1
def tw14480853772133128653:=1
def tw13007635909554586126:=1
def tw17934768423645978739:=1
def tw2598044699500371972:=1
def tw7879868272124338093:=1
def tw6483654543649936362:=1
def tw10430133976046843434:=1
def tw2252928915367152907:=1
def tw2179406508013128356:=1
def tw6781025539764445634:=1
def tw458478162254990998:=1
def tw5476431104304925066:=1
def tw410457167819283561:=1
def tw2171801467035841888:=1
def tw16799156773824594603:=1
def tw12870144051195643853:=1
def tw1915693770962712824:=1
def tw17404072587452582198:=1
def tw16408661423216036109:=1
def tw17853993841396317900:=1
def tw14494161415866052313:=1
def tw9399079469189058685:=1
def tw16134869415873925210:=1
def tw17279005289110314566:=1
def tw17781191359781409205:=1
def tw13532176036891494972:=1
def tw12954756355420034365:=1
def tw6552873565197098433:=1
def tw648295831217027188:=1
def tw12705407195992341388:=1
def tw3658262083937156514:=1
def tw17068840257983445470:=1
def tw617324023633027729:=1
def tw5092893065588781969:=1
def tw17244819466435395940:=1
def tw10911322522830718235:=1
def tw3500469793247726941:=1
def tw4006958218845716744:=1
def tw5922042749520448393:=1
def tw13817177006792321046:=1
def tw5749941262061310365:=1
def tw5189625900292360353:=1
def tw9889798597280216305:=1
def tw15480818512576324353:=1
def tw12257137849323304172:=1
def tw379498351797305347:=1
def tw9530572667657662119:=1
def tw7428558595486294582:=1
def tw3924831269537012555:=1
def tw7763378140179673914:=1
def tw6147192945805308176:=1
def tw10863869310142288357:=1
def tw17129579601460441035:=1
def tw11722883469311396412:=1
def tw14312332735565181392:=1
def tw879198039722221813:=1
def tw9650252589437743416:=1
def tw9985270310610518774:=1
def tw2944941775020478430:=1
def tw11939585661614868952:=1
def tw18185725344481255263:=1
def tw10520765317571077548:=1
def tw8007634718002517022:=1
def tw16391323064183201107:=1
def tw18328245386495831388:=1
def tw1209994037839752995:=1
def tw6363035900447443851:=1
def tw17588788060047803942:=1
def tw9341661257550614410:=1
def tw17454363921622004795:=1
def tw9107912973139602941:=1
def tw8238116952424844323:=1
def tw1748476656345417228:=1
def tw6682974836733185428:=1
def tw7865891615077592257:=1
def tw9158134071875468536:=1
def tw11094349185970431726:=1
def tw9749210293475616868:=1
def tw12779217848340995843:=1
def tw12256628562008445021:=1
def tw17444600413441530020:=1
def tw63104957240998406:=1
def tw8537946568446948547:=1
def tw10417505760684839592:=1
def tw17427319352680320373:=1
def tw9105919696738260712:=1
def tw16467268760386843474:=1
def tw11337734405173095321:=1
def tw2312893249531319359:=1
def tw7287526596395872769:=1
def tw2392761547203977098:=1
def tw7634988894811590430:=1
def tw9307569587970770271:=1
def tw2825588786181219621:=1
def tw16216665477677535310:=1
def tw4610577966422268670:=1
def tw2655971814985671561:=1
def tw15477711852499283457:=1
def tw4136186826748875043:=1
def tw5275125835926678395:=1
def tw16057799886672513377:=1
def tw8517199584198105245:=1
def tw12403797972213799344:=1
def tw9388291201242684774:=1
def tw13836179324853033114:=1
def tw16678706898450970085:=1
def tw12162343309256351558:=1
def tw5701752910356806291:=1
def tw18068717469331592134:=1
def tw1510373721603528964:=1
def tw11205341816080182458:=1
def tw3140500345551654743:=1
def tw10676568242704972422:=1
def tw9449776000713807013:=1
def tw12222133573007953810:=1
def tw13121697996316138482:=1
def tw9231148980876503167:=1
def tw14587510859618304484:=1
def tw9569167252904143999:=1
def tw7938811599181633278:=1
def tw7122789326607379618:=1
def tw10931574491341509661:=1
def tw17231205882131920659:=1
def tw7254660426584458063:=1
def tw17148529320190208763:=1
def tw7374600974739887371:=1
def tw8552202215088911498:=1
def tw18041332989053404862:=1
def tw8760053751734782896:=1
def tw16825146692225491496:=1
def tw12955131617748457829:=1
def tw9954957797431143038:=1
def tw3874568047420010745:=1
def tw13109819221174615110:=1
def tw10103996110193986012:=1
def tw13550572224070916975:=1
def tw1689217291338730190:=1
def tw16509385342766028883:=1
def tw3268006211929793122:=1
def tw10910478282468690346:=1
def tw17179637405410538315:=1
def tw17588596049021695525:=1
def tw8590174896037280635:=1
def tw16359954991613483832:=1
def tw18128046533772246451:=1
def tw15736567274983188571:=1
def tw14257969694658069088:=1
def tw2949792523572170146:=1
def tw14013552599801661669:=1
def tw12489474480744972226:=1
def tw7650078136870843123:=1
def tw11834364273887707162:=1
def tw16220610905615708670:=1
def tw14864640468610534546:=1
def tw2300387936432093496:=1
def tw16786878598980035421:=1
def tw16457107091018293347:=1
def tw8879866129667366766:=1
def tw5945296945359660074:=1
def tw368822677276208871:=1
def tw251667961798398699:=1
def tw765918040153021286:=1
def tw12298804667902762158:=1
def tw815808212987996134:=1
def tw12699681429040302071:=1
def tw13628795512379154608:=1
def tw7955385291861892471:=1
def tw13699977689576701152:=1
def tw12669856081316590058:=1
def tw5942125192765241150:=1
def tw4674349063212155127:=1
def tw16589269282137343663:=1
def tw17344738004919116116:=1
def tw9285313718663748532:=1
def tw15725909068646247838:=1
def tw10194668696237524193:=1
def tw4107143038826323142:=1
def tw12365145955919734696:=1
def tw5266723537030937897:=1
def tw14510984333897148991:=1
def tw225447864277505163:=1
def tw16219636776989328706:=1
def tw18145088680718504314:=1
def tw7801171160189453432:=1
def tw3135780891580631882:=1
def tw3851599158939327387:=1
def tw5333255709812025656:=1
def tw14302652041947574037:=1
def tw8072237417458222757:=1
def tw11021527363604437355:=1
def tw12287380429982971495:=1
def tw2979701249312803223:=1
def tw18014715751637943021:=1
def tw17458503538708985211:=1
def tw246279836479790495:=1
def tw5696577030171822135:=1
def tw15049035652785905094:=1
def tw14105668721365861003:=1
def tw17762646252294696370:=1
def tw12270479793093844972:=1
def tw10951593217419020396:=1
def tw13827102936608412130:=1
def tw9693181294195184238:=1
def tw4253325432148034672:=1
def tw1870983666078873065:=1
def tw9633901901935512630:=1
def tw9583258835685906254:=1
def tw5333105088352976224:=1
def tw6016270709871767154:=1
def tw15138883372503211007:=1
def tw4511823023320381360:=1
def tw10794146870415583610:=1
def tw877285068147952024:=1
def tw9438639939301483847:=1
def tw2603408711088196627:=1
def tw14939631353261336124:=1
def tw2528929963315915821:=1
def tw7146768148001447633:=1
def tw2652027813568873816:=1
def tw14721731805749945867:=1
def tw5892147396700132594:=1
def tw11627175514951518317:=1
def tw12888945084428241113:=1
def tw7370239751036475295:=1
def tw15135010668576248705:=1
def tw1687155958707609959:=1
def tw10025644357806542807:=1
def tw8623939340142535254:=1
def tw727607810354498007:=1
def tw10889588162838248001:=1
def tw1107411121162322498:=1
def tw14026111487422895200:=1
def tw3891375271846435928:=1
def tw4054672679124650895:=1
def tw8798334176097829171:=1
def tw5977515136833797029:=1
def tw5975992279497628799:=1
def tw12940997785174070501:=1
def tw17857093154183939583:=1
def tw40825189416973483:=1
def tw1019908152284119653:=1
def tw1806670822011557034:=1
def tw13751521398408554558:=1
def tw7958776353657157619:=1
def tw4498577489298510867:=1
def tw4657273573770994498:=1
theorem te12964410848740472958:True:=trivial
end PySem.W.Fast
open PySem PySem.W PyProof.Rows
set_option maxRecDepth 100000 in
set_option maxHeartbeats 0 in
theorem PySem.Challenge.cw_helmsum_k67_costs_and_worth_holds : PySem.Challenge.rw_helmsum_k67_costs_and_worth.Holds := by
 w_on;o_law;k_head;(case hw=>w_witness2)
 k_fill
 refine Lw.walk (l:=PySem.Challenge.rw_helmsum_k67_costs_and_worth) rfl rfl ?hi (λw h Y=>PySem.W.kIn_of Y) ?F
 case hi=>decide +kernel
 case F =>
  intro w mg fa h KX G hmg;refine' Lw.all_mk KX G hmg rfl ?aC ?aC_Costs ?_ ?_ ?_ ?_ ?_ ?_ ?_ ?_ ?_ ?_ ?_ ?_ ?_ ?_ ?_ ?_ ?_ ?_ ?_ ?_ ?_ ?_ ?a22 ?i22 ?l22 ?c22 ?k22 ?_ ?_ ?_ ?_ ?_ ?_ ?_ ?_ ?a31 ?i31 ?l31 ?c31 ?k31 ?_ ?_ ?_ ?_ ?_ ?_ ?_ ?_ ?_ ?_ ?_ ?a43 ?i43 ?l43 ?c43 ?k43 ?_ ?_ ?_ ?_ ?_ ?a49 ?i49 ?l49 ?c49 ?k49 ?_ ?_ ?_ ?_ ?a54 ?i54 ?l54 ?c54 ?k54 ?_ ?_ ?a57 ?i57 ?l57 ?c57 ?k57 ?a58 ?i58 ?l58 ?c58 ?k58 ?a59 ?i59 ?l59 ?c59 ?k59 ?_ ?_ ?_ ?_ ?_ ?_ ?a66 ?i66 ?l66 ?c66 ?k66 ?a67 ?i67 ?l67 ?c67 ?k67 ?_ ?_ ?_ ?ci0 ?ci1 ?ci2 ?pg ?hd ?po ?sa ?mk ?kc ?n_move ?n_states ?n_put ?n_ins ?n_look ?n_outs ?pg_Costs ?hd_Costs ?po_Costs ?sa_Costs ?mk_Costs ?kc_Costs ?n_Costs_known ?n_Costs_last_weights ?n_Costs_put_weights ?n_Costs_state_weights ?n_Costs_system ?z_abs ?z_len ?z_min ?z_int ?z_range ?z_isinstance ?z_list ?z_bool ?z_tuple ?z_all ?z_enumerate ?z_max ?z_zip ?z_sum
  all_goals try refine' VA ?_ ?_ ?_ ?_
  all_goals try k_is