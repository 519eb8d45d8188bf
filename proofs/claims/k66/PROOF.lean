import PyProof.Rows.All
import Wide.All
import OpenK.AllK
import Wide.FinOn
import Lean
import PyProof.EqAt
import PyProof.EqKinds
import PyProof.TupleCall
import PyProof.NeKinds
import PySem.Challenge.RW_helmsum_k66_within
set_option Elab.async false
set_option linter.all false
set_option maxRecDepth 100000
local macro_rules | `($x.$i:fieldIdx) => match i.raw.isFieldIdx? with | some 9 => `(($x).length) | some 8 => `(($x).heap) | some 7 => `(($x).size) | some 6 => `(($x).heap.objs.size) | some 5 => `(($x).toArray) | _ => Lean.Macro.throwUnsupported
local macro_rules | `(#[$a,*]) => `(⟨$a,*⟩)
local macro_rules | `(tactic| obtain $p:rcasesPatMed := $e:term) => do
 let a := p.raw[0].getSepArgs
 let q : Lean.TSyntax `rcasesPat ← if a.size == 1 then pure ⟨a[0]!⟩ else do
  let l ← a.mapM fun x => `(Lean.Parser.Tactic.rcasesPatLo| $(⟨x⟩):rcasesPat)
  `(rcasesPat| ⟨$l,*⟩)
 `(tactic| first | (refine Classical.byContradiction fun ng => ?_; (rcases $e:term with $q:rcasesPat) <;> (refine ng ?_; clear ng)) | rcases $e:term with $q:rcasesPat)
local macro_rules | `(()) => `(by first | decide | lia)
abbrev ND9:=@List.Nodup PySem.Str
abbrev ae:=@List.getD_eq_getElem?_getD
abbrev af:=@List.getElem?_eq_getElem
abbrev ag:=@Nat.le_trans
abbrev aj:=@List.length_map
abbrev ao:=@Nat.le_refl
abbrev au:=@Nat.pow_le_pow_right
abbrev av:=@List.mem_of_getElem?
abbrev aw:=@List.length_append
abbrev ax:=@Nat.mul_le_mul_left
abbrev ay:=@Nat.mul_le_mul
abbrev aA:=@List.mem_append
abbrev aB:=@Nat.pow_add
abbrev aD:=@Nat.mul_le_mul_right
abbrev aE:=@List.mem_map
abbrev aF:=@List.getElem?_map
abbrev aG:=@List.mem_cons
abbrev aI:=@List.size_toArray
abbrev aJ:=@List.take_of_length_le
abbrev aK:=@List.getElem_mem
abbrev aM:=@List.getElem?_eq_some_iff
abbrev aP:=@List.not_mem_nil
abbrev aQ:=@List.length_replicate
abbrev aS:=@Rat.intCast_natCast
abbrev aZ:=@PySem.boot_len
abbrev a7:=@Nat.mul_pos
abbrev a8:=@List.getElem?_eq_none
abbrev bc:=@Rat.intCast_mul
abbrev be:=@Nat.le_of_lt
abbrev bg:=@Nat.zero_le
abbrev bo:=@Bool.false_ne_true
abbrev bp:=@List.getElem?_append_right
abbrev bx:=@Nat.lt_of_le_of_lt
abbrev bA:=@List.mem_singleton
abbrev bD:=@List.length_zipWith
abbrev bE:=@List.getElem_of_mem
abbrev bF:=@Nat.lt_of_lt_of_le
abbrev bG:=@List.getElem?_append_left
abbrev bH:=@List.mem_append_right
abbrev bI:=@List.length_singleton
abbrev bN:=@List.getElem?_zipWith
abbrev bO:=@List.length_cons
abbrev bW:=@Int.natAbs_natCast
abbrev bY:=@Nat.mul_comm
abbrev bZ:=@List.length_range
abbrev b7:=@List.mem_cons_of_mem
abbrev b8:=@Int.eq_ofNat_of_zero_le
abbrev cg:=@Nat.ne_of_lt
abbrev ck:=@Int.fdiv_eq_ediv_of_nonneg
abbrev cn:=@Option.some.inj
abbrev cu:=@Nat.mul_assoc
abbrev cv:=@List.mem_or_eq_of_mem_set
abbrev cF:=@List.append_assoc
abbrev cG:=@List.map_append
abbrev cJ:=@List.getElem?_range
abbrev cK:=@List.mem_of_mem_take
abbrev cM:=@Nat.dvd_mul_left
abbrev cN:=@List.length_take
abbrev cR:=@Nat.lt_or_ge
abbrev cS:=@PySem.F.plainAttrs_list
abbrev cY:=@List.nil_append
abbrev cZ:=@PySem.F.type_list_append
abbrev c4:=@PySem.F.slot_list_append
abbrev c7:=@Nat.le_mul_of_pos_right
abbrev dc:=@Nat.pow_lt_pow_right
abbrev dg:=@List.getElem_zipWith
abbrev dh:=@Nat.one_le_two_pow
abbrev di:=@Nat.le_mul_of_pos_left
abbrev dk:=@Int.natAbs_mul
abbrev dq:=@Nat.pow_pos
abbrev dw:=@Nat.succ_mul
abbrev dC:=@Nat.mul_add
abbrev dF:=@List.mem_cons_self
abbrev dG:=@List.mem_append_left
abbrev dI:=@Rat.intCast_inj
abbrev dJ:=@PySem.W.kia_tup
abbrev dM:=@PySem.W.kia_one
abbrev dQ:=@List.nodup_append
abbrev dR:=@List.flatten_cons
abbrev dX:=@Int.mul_assoc
abbrev dZ:=@Rat.intCast_neg
abbrev d5:=@Nat.not_lt_zero
abbrev d6:=@List.length_set
abbrev eh:=@Nat.succ_le_succ
abbrev eo:=@List.mem_flatten
abbrev eB:=@Bool.and_eq_true
abbrev eO:=@Rat.mul_comm
abbrev eP:=@Nat.pow_succ
abbrev eY:=@List.flatten_append
abbrev fk:=@List.nodup_cons
abbrev fu:=@List.drop_eq_getElem_cons
abbrev fB:=@List.mem_replicate
abbrev fD:=@List.ext_getElem
abbrev fE:=@List.cons_append
abbrev fF:=@Int.gcd_dvd_left
abbrev fM:=@Nat.sub_self
abbrev fN:=@Nat.min_self
abbrev fO:=@Nat.lt_irrefl
abbrev fP:=@List.eq_of_mem_replicate
abbrev gh:=@List.getElem?_replicate
abbrev gi:=@Int.gcd_dvd_right
abbrev gM:=@Rat.mul_zero
abbrev gN:=@Int.mul_comm
abbrev gW:=@Rat.div_def
abbrev gX:=@Nat.dvd_trans
abbrev hZ:=@Nat.eq_zero_or_pos
abbrev ij:=@Int.natAbs_dvd_natAbs
abbrev ik:=@Bool.beq_eq_decide_eq
abbrev iD:=@Rat.natCast_mul
abbrev iJ:=@List.map_id
abbrev iK:=@List.ext_getElem?
abbrev iL:=@List.map_cons
abbrev jf:=@List.replicate_succ
abbrev jg:=@List.length_reverse
abbrev ji:=@Nat.lt_succ_self
abbrev jr:=@Int.mul_pos
abbrev js:=@Rat.zero_mul
abbrev jt:=@Int.gcd_comm
abbrev ju:=@Int.emod_lt_of_pos
abbrev jv:=@Bool.false_eq_true
abbrev jJ:=@Nat.le_of_dvd
abbrev kh:=@List.replicate_succ'
abbrev kO:=@PySem.IsL.update
abbrev kQ:=@List.mem_reverse
abbrev kR:=@List.lookup_cons
abbrev k6:=@PySem.F.plain_extend_loop
abbrev lh:=@PySem.mem_of_lookup
abbrev lA:=@Nat.pow_le_pow_left
abbrev lH:=@List.getElem?_take_of_lt
abbrev lS:=@Rat.mul_eq_zero
abbrev lU:=@List.append_nil
abbrev lV:=@Int.emod_nonneg
abbrev lW:=@Bool.eq_iff_iff
abbrev mL:=@Int.dvd_mul_of_dvd_left
abbrev nE:=@Nat.lt_trichotomy
abbrev nF:=@Nat.add_comm
abbrev nG:=@List.nodup_nil
abbrev oX:=@PySem.F.slot_zip_next
abbrev oY:=@Nat.mul_dvd_mul_right
abbrev oZ:=@List.getElem_map
abbrev o5:=@List.all_eq_true
abbrev qQ:=@Rat.one_mul
abbrev qR:=@Nat.pow_mul
abbrev qS:=@Nat.one_mul
abbrev qT:=@Nat.le_succ
abbrev qX:=@Rat.intCast_pos
abbrev qY:=@List.length_zip
abbrev tO:=@Rat.add_zero
abbrev tP:=@List.map_map
abbrev uI:=@Rat.div_mul_cancel
abbrev uJ:=@PySem.W.kitx_tuple
abbrev uK:=@List.mem_range
abbrev uL:=@Int.natAbs_neg
abbrev uM:=@Int.eq_of_mul_eq_mul_right
abbrev xp:=@Rat.mul_one
abbrev xr:=@PySem.W.kitx_list
abbrev xt:=@PySem.W.kitx_dict
abbrev xu:=@Nat.dvd_mul_right
abbrev zI:=@Rat.intCast_eq_zero_iff
abbrev zJ:=@Nat.min_le_right
abbrev zK:=@Int.natCast_dvd_natCast
abbrev Af:=@PySem.W.cellsFrom_some
abbrev Ag:=@Nat.mul_zero
abbrev Ah:=@Nat.dvd_refl
abbrev Ai:=@Int.zero_add
abbrev Cg:=@Rat.intCast_add
abbrev Ci:=@Nat.pow_dvd_pow
abbrev Cj:=@List.map_const'
abbrev Ck:=@Bool.decide_and
abbrev D3:=@List.forIn_nil
abbrev FE:=@PySem.W.plainGet_of
abbrev FF:=@List.zipWith_append
abbrev FH:=@List.filterMap_cons
abbrev Iq:=@List.all_cons
abbrev Iz:=@Rat.not_lt
abbrev IA:=@PySem.W.callWith_K
abbrev IB:=@List.append_of_mem
abbrev La:=@Nat.ne_of_gt
abbrev Lc:=@Int.dvd_refl
abbrev Mq:=@Option.getD_some
abbrev Mr:=@List.length_drop
abbrev ON:=@Nat.mul_one
abbrev OO:=@Nat.add_mul
abbrev OP:=@Int.dvd_gcd
abbrev OW:=@Nat.min_eq_left
abbrev OX:=@List.range_succ
abbrev OY:=@List.of_mem_zip
abbrev OZ:=@List.forIn_cons
abbrev O0:=@Int.gcd_pos_of_ne_zero_right
abbrev RB:=@Rat.mul_nonneg
abbrev Tr:=@PySem.F.entry_extend_loop
abbrev Ts:=@List.getElem?_zip_eq_some
abbrev Tt:=@Int.natAbs_ediv_of_nonneg
abbrev TB:=@Option.isSome_iff_exists
abbrev TC:=@Int.natAbs_eq
abbrev UU:=@PySem.F.args_zip_next_1
abbrev UW:=@Nat.eq_zero_of_zero_dvd
abbrev LR9:=List (List Rat)
abbrev FG9:=PySem.W.Frag
namespace L2
open PySem PySem.Spec PyProof.Rows
abbrev Key:=Sum Int Str
def Q5:Key->Value->Bool
 | .inl k,v=>Value.isInt k v
 | .inr x,v=>Value.isStrOf x v
def Vf (w:World):Key->Int
 | .inl k=>hashInt k
 | .inr x=>hashStr w x
theorem fY:∀{k:Key} {v:Value},Q5 k v=true->(∃i t,k=Sum.inl i/\v=Value.int i t)\/(∃x t,k=Sum.inr x/\v=Value.str x t)
 | .inl i,v,h=>by
  obtain t|e:=Value.isInt_shape (k:=i) (v:=v) h;exact .inl #[i,t,rfl,e]
 | .inr x,v,h=>by
  obtain t|e:=Value.isStrOf_shape (x:=x) (v:=v) h;exact .inr #[x,t,rfl,e]
theorem S0 (a b:Int):decide ((Sum.inl a:Key)=Sum.inl b)=(a == b):=by
 by_cases e:a=b
 ·subst e;simp
 ·have h:¬(Sum.inl a:Key)=Sum.inl b:=λq=>e (Sum.inl.inj q)
  rw[decide_eq_false h];exact (beq_eq_false_iff_ne.mpr e).symm
theorem SV (a b:Str):decide ((Sum.inr a:Key)=Sum.inr b)=decide (a=b):=by
 by_cases e:a=b
 ·subst e;simp
 ·have h:¬(Sum.inr a:Key)=Sum.inr b:=λq=>e (Sum.inr.inj q)
  rw[decide_eq_false h,decide_eq_false e]
theorem SY (a:Int) (b:Str):decide ((Sum.inl a:Key)=Sum.inr b)=false:=decide_eq_false (λq=>nomatch q)
theorem SX (a:Str) (b:Int):decide ((Sum.inr a:Key)=Sum.inl b)=false:=decide_eq_false (λq=>nomatch q)
def Km (prog:Program) (w:World):PySem.KeyKind prog w Key where
 is:=Q5
 hash:=Vf w
 inj:=λv a b ha hb=>by
  rcases fY ha with ⟨i,t,rfl,rfl⟩ | ⟨x,t,rfl,rfl⟩
  ·rcases fY hb with ⟨j,u,rfl,e⟩ | ⟨y,u,rfl,e⟩
   ·injection e with e1 _;rw[e1]
   ·exact nomatch e
  ·rcases fY hb with ⟨j,u,rfl,e⟩ | ⟨y,u,rfl,e⟩
   ·exact nomatch e
   ·injection e with e1 _;rw[e1]
 byValue:=λk v h=>by
  rcases fY h with ⟨i,t,rfl,rfl⟩ | ⟨x,t,rfl,rfl⟩ <;> rfl
 pyHash:=λhv h=>by
  rcases fY hv with ⟨i,t,rfl,rfl⟩ | ⟨x,t,rfl,rfl⟩
  ·exact wpAny_pyHash_int h
  ·exact wpAny_pyHash_str h
 eqBool:=λhu hv h=>by
  rcases fY hu with ⟨i,t,rfl,rfl⟩ | ⟨x,t,rfl,rfl⟩
  ·rcases fY hv with ⟨j,u,rfl,rfl⟩ | ⟨y,u,rfl,rfl⟩
   ·rw[S0] at h;exact wpAny_eqBool_int h
   ·rw[SY] at h;exact SeqAt.EqAt.int_str i t y u _ _ _ _ h
  ·rcases fY hv with ⟨j,u,rfl,rfl⟩ | ⟨y,u,rfl,rfl⟩
   ·rw[SX] at h;exact SeqAt.EqAt.str_int x t j u _ _ _ _ h
   ·rw[SV] at h;exact wpAny_eqBool_str h
 «strs»:=λk x t v h=>by
  rcases fY h with ⟨i,u,rfl,e⟩ | ⟨y,u,rfl,e⟩
  ·exact nomatch e
  ·injection e with e1 _
   subst e1;cases v <;> rfl
inductive V where
  | non | bl (b : Bool) | int (i : Int) | str (x : Str) | byt (b : Array UInt8) | flt (b : UInt64) | ref (a : Addr) | ty (n : String)
  deriving DecidableEq

def RelV:V->Value->Prop
 | .non,u=>u=Value.none
 | .bl b,u=>u=Value.bool b
 | .int i,u=>∃t,u=Value.int i t
 | .str x,u=>∃t,u=Value.str x t
 | .byt b,u=>∃t,u=Value.bytes b t
 | .flt b,u=>∃t,u=Value.float b t
 | .ref a,u=>u=Value.ref a
 | .ty n,u=>u=Value.type n
abbrev cV:List V->List Value->Prop:=Paired RelV
theorem cV.length (r:cV xs us):xs.9=us.9:=Paired.length r
theorem cV.get:∀{xs:List V} {us:List Value} {i:Nat} {x:V},cV xs us->xs[i]?=some x->∃u,us[i]?=some u/\RelV x u
 | _,_,_,_,.nil,e=>by simp at e
 | _,_,0,_,.cons r _,e=>by simp at e;subst e;exact #[_,rfl,r]
 | _,_,i+1,x,.cons _ t,e=>by
  obtain u|h1|h2:=cV.get (i:=i) (x:=x) t (by simpa using e);exact #[u,by simpa using h1,h2]
theorem cV.set {x:V} {u:Value} (r:RelV x u):∀{xs:List V} {us:List Value} (i:Nat),cV xs us->cV (xs.set i x) (us.set i u)
 | _,_,_,.nil=>.nil
 | _,_,0,.cons _ t=>.cons r t
 | _,_,i+1,.cons q t=>.cons q (cV.set r i t)
theorem cV.append:∀{xs ys:List V} {us ws:List Value},cV xs us->cV ys ws->cV (xs++ys) (us++ws)
 | _,_,_,_,.nil,s=>s
 | _,_,_,_,.cons r t,s=>.cons r (cV.append t s)
theorem cV.take:∀{xs:List V} {us:List Value} (n:Nat),cV xs us->cV (xs.take n) (us.take n)
 | _,_,0,_=>.nil
 | _,_,_+1,.nil=>.nil
 | _,_,n+1,.cons r t=>.cons r (cV.take n t)
theorem cV.drop:∀{xs:List V} {us:List Value} (n:Nat),cV xs us->cV (xs.drop n) (us.drop n)
 | _,_,0,r=>r
 | _,_,_+1,.nil=>.nil
 | _,_,n+1,.cons _ t=>cV.drop n t
def CN:Option V->Option Value->Prop
 | some v,some u=>RelV v u
 | none,none=>True
 | _,_=>False
def KV {κ:Type}:List (κ×V)->List (κ×Value)->Prop:=Paired λ(p:κ×V) (q:κ×Value)=>p.1=q.1/\RelV p.2 q.2
def kV:Key->V
 | .inl i=>.int i
 | .inr x=>.str x
inductive HO where
 | lst (xs:List V)
 | tup (xs:List V)
 | dK (kvs:List (Key×V)) | dT (kvs:List (List Key×V))
 | set (S:Int->Bool) (n:Nat)
 | ins (C dx:Addr) (fs:List (Str×V))
 | own (x:Addr)
 | xd (fs:List (Str×V))
 | met (f x:Addr)
 | rng (lo hi:Int)
 | frz (o:Obj) (u:HO)
 | tbl (ps:Array Value)
 | ext (φ:Heap->Prop)
abbrev Hp:=Addr->Option HO
def upd (H:Hp) (a:Addr) (o:HO):Hp:=λb=>if b=a then some o else H b
theorem aL:upd H a o a=some o:=by unfold upd;rw[if_pos rfl]
theorem bM (h:b≠a):upd H a o b=H b:=by unfold upd;rw[if_neg h]
theorem gD {H:Hp} (h:H a=some o) (h':H b=none):a≠b:=by
 intro e;subst e;rw[h] at h';cases h'
section
variable (P:Program) (w:World)
def gR (H:Hp) (h:Heap) (a:Addr):HO->Prop
 | .lst xs=>xs.9<=sizeLine/\∃(its:List Value) (n:Nat),cV xs its/\h.get? a=some { cls:=.type "list",data:=.seq its.toArray n }
 | .tup xs=>xs.9<=sizeLine/\∃its:List Value,cV xs its/\IsTup h a its.5
 | .dK kvs=>kvs.9<=sizeLine/\(a == sysModules)=false/\∃vs,KV kvs vs/\h.DictOf (Km P w) a vs
 | .dT kvs=>kvs.9<=sizeLine/\(a == sysModules)=false/\∃xs:List (List Key×Addr×Value),
   Paired (λ(p:List Key×V) (q:List Key×Addr×Value)=>p.1=q.1/\H q.2.1=some (.tup (p.1.map kV))/\RelV p.2 q.2.2) kvs xs /\
   ∃o es ep,h.get? a=some o/\o.ExactDict/\o.data=.dict es ep/\es.toList=xs.map (entryOfKey (tupleKind (Km P w)))/\(xs.map (·.1)).Nodup
 | .set S n=>h.SetOf (intKind P w) a S n
 | .ins C dx fs=>H dx=some (.own a)/\fs.9<=1000/\dx≠a/\h.get? a=some (PySem.W.instObj C dx) /\
   ∃mA,h.Ns1 dx mA/\(∀f,CN (fs.lookup f) (mA f))/\PySem.Within mA (fs.map (·.1))
 | .own _=>∃o,h.get? a=some o
 | .xd fs=>∃mA,h.Ns1 a mA/\∀f,CN (fs.lookup f) (mA f)
 | .rng lo hi=>∃t u v,h.get? a=some { cls:=.type "range",data:=.fields [.int lo t,.int hi u,.int 1 v].toArray }
 | .frz o u=>h.get? a=some o/\gR H h a u
 | .tbl ps=>h.get? a=some { cls:=.none,data:=.fields ps }
 | .met f x=>h.get? a=some (PySem.W.methodObj (.ref f) (.ref x))
 | .ext φ=>φ h/\(∃o,h.get? a=some o)/\∀h1 h2:Heap,φ h1->(∀o,h1.get? a=some o->h2.get? a=some o)->φ h2
def Ae (H:Hp) (h:Heap):Prop:=∀a o,H a=some o->gR P w H h a o
end
section
variable {P:Program} {w:World} {H H':Hp} {h h':Heap} {a:Addr} {o:HO}
theorem gR.lt (x:gR P w H h a o):a < h.objs.7:=by
 cases o with
 | lst xs=>obtain _|_|_|_|e:=x;exact Heap.lt_size e
 | tup xs=>obtain _|_|_|p:=x;exact p.lt
 | dK kvs=>obtain _|_|_|_|o|_|_|e|_:=x;exact Heap.lt_size e
 | dT kvs=>obtain _|_|_|_|o|_|_|e|_:=x;exact Heap.lt_size e
 | set S n=>obtain o|_|_|_|e|_:=x;exact Heap.lt_size e
 | ins C dx fs=>obtain _|_|_|e|_:=x;exact Heap.lt_size e
 | own y=>obtain _|e:=x;exact Heap.lt_size e
 | xd fs=>obtain _|⟨_,_,_,e,_⟩|_:=x;exact Heap.lt_size e
 | rng lo hi=>obtain _|_|_|e:=x;exact Heap.lt_size e
 | frz ob u=>obtain e|_:=x;exact Heap.lt_size e
 | tbl ps=>exact Heap.lt_size (show h.get? a=some _ from x)
 | met f y=>exact Heap.lt_size (show h.get? a=some _ from x)
 | ext φ=>obtain _|⟨_,e⟩|_:=x;exact Heap.lt_size e
theorem Paired.mapP {α β:Type} {F G:α->β->Prop}:∀{l₁:List α} {l₂:List β},Paired F l₁ l₂->(∀a b,F a b->G a b)->Paired G l₁ l₂
 | _,_,.nil,_=>.nil
 | _,_,.cons r t,f=>.cons (f _ _ r) (Paired.mapP t f)
theorem Paired.imp' {F G:α->β->Prop} (f:∀a b,F a b->G a b) {l₁:List α} {l₂:List β} (r:Paired F l₁ l₂):Paired G l₁ l₂:=Paired.mapP r f
theorem gR.stay (x:gR P w H h a o) (k:∀b u,(b=a\/H b=some (.own a))->h.get? b=some u->h'.get? b=some u)
  (ho:∀b,H b=some (.own a)->H' b=some (.own a)) (ht:∀b xs,H b=some (.tup xs)->H' b=some (.tup xs)):gR P w H' h' a o:=by
 induction o with
 | lst xs=>obtain z|its|n|r|e:=x;exact #[z,its,n,r,k _ _ (.inl rfl) e]
 | tup xs=>obtain z|its|r|ob|e|c:=x;exact #[z,its,r,ob,k _ _ (.inl rfl) e,c]
 | dK kvs=>obtain z|y|vs|r|ob|es|ep|e|c:=x;exact #[z,y,vs,r,ob,es,ep,k _ _ (.inl rfl) e,c]
 | dT kvs =>
  obtain z|y|xs|r|ob|es|ep|e|c:=x;exact #[z,y,xs,Paired.mapP r λp q z=>#[z.1,ht _ _ z.2.1,z.2.2],ob,es,ep,k _ _ (.inl rfl) e,c]
 | set S n=>obtain ob|es|ep|t|e|c:=x;exact #[ob,es,ep,t,k _ _ (.inl rfl) e,c]
 | ins C dx fs =>
  obtain d|z|ne|e|mA|⟨od,es,ep,e2,c⟩|r:=x;exact #[ho _ d,z,ne,k _ _ (.inl rfl) e,mA,#[od,es,ep,k _ _ (.inr d) e2,c],r]
 | own y=>obtain ob|e:=x;exact #[ob,k _ _ (.inl rfl) e]
 | xd fs=>obtain mA|⟨od,es,ep,e,c⟩|r:=x;exact #[mA,#[od,es,ep,k _ _ (.inl rfl) e,c],r]
 | rng lo hi=>obtain t|u|v|e:=x;exact #[t,u,v,k _ _ (.inl rfl) e]
 | frz ob u ih=>obtain e|q:=x;exact #[k _ _ (.inl rfl) e,ih q]
 | tbl ps =>
  have e:h.get? a=some { cls:=.none,data:=.fields ps }:=x;show h'.get? a=some { cls:=.none,data:=.fields ps }
  exact k a _ (.inl rfl) e
 | met f y =>
  have e:h.get? a=some (PySem.W.methodObj (.ref f) (.ref y)):=x;show h'.get? a=some (PySem.W.methodObj (.ref f) (.ref y))
  exact k a _ (.inl rfl) e
 | ext φ=>obtain p|⟨o,e⟩|st:=x;exact #[st _ _ p λo q=>k _ _ (.inl rfl) q,#[o,k _ _ (.inl rfl) e],st]
theorem Ae.lt (x:Ae P w H h) (e:H a=some o):a < h.objs.7:=(x a o e).lt
theorem Ae.fresh (x:Ae P w H h) (e:h.objs.7<=a):H a=none:=by
 cases q:H a with
 | none=>rfl
 | some u=>exact absurd (bF (x.lt q) e) (fO _)
theorem Ae.kept (x:Ae P w H h) (k:∀b u,h.get? b=some u->h'.get? b=some u):Ae P w H h':=λa o e =>
 (x a o e).stay (λb u _ q=>k b u q) (λ_ q=>q) λ_ _ q=>q
theorem Ae.laid (x:Ae P w H h) (k:∀b u,h.get? b=some u->h'.get? b=some u) (hp:h.objs.7<=a) (new:gR P w (upd H a o) h' a o):Ae P w (upd H a o) h':=λb u e=>by
 have hn:=x.fresh hp;by_cases hb:b=a
 ·subst hb;rw[aL] at e;cases e;exact new
 ·rw[bM hb] at e;exact (x b u e).stay (λc v _ q=>k c v q) (λc q=>by rw[bM (gD q hn)];exact q) λc xs q=>by rw[bM (gD q hn)];exact q
end
def Rd (H:Hp) (a:Addr) (u:HO):Prop:=H a=some u\/∃o,H a=some (.frz o u)
theorem Rd.ok (r:Rd H a u) (x:Ae P w H h):gR P w H h a u:=by
 rcases r with r | ⟨o,r⟩
 ·exact x a u r
 ·obtain _|q:=x a _ r;exact q
def U3:Option HO->Prop
 | some (.lst _)=>True
 | some (.dK _)=>True
 | some (.dT _)=>True
 | some (.set _ _)=>True
 | some (.ins _ _ _)=>True
 | some (.ext _)=>True
 | _=>False
section
variable {P:Program} {w:World} {H:Hp} {h h':Heap} {x e:Addr} {o':HO}
theorem Ae.write (ok:Ae P w H h) (mu:U3 (H x)) (he:e=x\/H e=some (.own x)) (k:∀b u,b≠e->h.get? b=some u->h'.get? b=some u) (heo:∃u,h'.get? e=some u)
  (new:gR P w (upd H x o') h' x o'):Ae P w (upd H x o') h':=λb u q=>by
 have nown:∀c y,H c=some (.own y)->c≠x:=λc y r z=>by subst z;rw[r] at mu;exact mu
 have ntup:∀c xs,H c=some (.tup xs)->c≠x:=λc xs r z=>by subst z;rw[r] at mu;exact mu
 by_cases hb:b=x
 ·subst hb;rw[aL] at q;cases q;exact new
 ·rw[bM hb] at q;by_cases hbe:b=e
  ·have q':H b=some (.own x):=by
    rcases he with z | z
    ·exact absurd (hbe.trans z) hb
    ·rw[hbe];exact z
   rw[q] at q';cases q';obtain v|hv:=heo;exact #[v,by rw[hbe];exact hv]
  ·refine (ok b u q).stay (λc v hc r=>k c v ?_ r) (λc r=>by rw[bM (nown c b r)];exact r) λc xs r=>by rw[bM (ntup c xs r)];exact r
   rcases hc with rfl | hc
   ·exact hbe
   ·rintro rfl;rcases he with z | z
    ·exact nown c b hc z
    ·rw[hc] at z;cases z;exact hb rfl
end
structure Un (fs ex:List Addr) (H H':Hp) (h h':Heap):Prop where
 keep:∀b o,h.get? b=some o->H b=none->b∉fs->b∉ex->h'.get? b=some o
 slot:∀b o,h.get? b=some o->H b=none->b∈fs->b∉ex->∃sl,h'.get? b=some { o with slots:=sl }
 free:∀b o,h.get? b=some o->H b=none->b∉ex->H' b=none
 there:∀b o,h.get? b=some o->b∉ex->∃o',h'.get? b=some o'
 tups:∀b xs,H b=some (.tup xs)->H' b=some (.tup xs)
 frzs:∀b o u,H b=some (.frz o u)->H' b=some (.frz o u)
 tbls:∀b ps,H b=some (.tbl ps)->∃more,H' b=some (.tbl (ps++more))
section
variable {fs fs' ex ex':List Addr} {H H1 H2:Hp} {h h1 h2 h':Heap} {a x e:Addr} {o:HO}
theorem Un.any (u:Un fs ex H H1 h h1) (q:h.get? b=some ob) (n:H b=none) (hx:b∉ex):∃sl,h1.get? b=some { ob with slots:=sl }:=by
 by_cases hb:b∈fs
 ·exact u.slot b ob q n hb hx
 ·exact #[ob.slots,u.keep b ob q n hb hx]
theorem Un.kept (k:∀b u,h.get? b=some u->h'.get? b=some u):Un fs ex H H h h' :=
 #[λb ob q _ _ _=>k b ob q,λb ob q _ _ _=>#[ob.slots,k b ob q],λ_ _ _ n _=>n,λb ob q _=>#[ob,k b ob q],λ_ _ q=>q,λ_ _ _ q=>q,λ_ ps q=>#[[].toArray,by rw[q];simp]]
theorem Un.refl:Un fs ex H H h h:=Un.kept λ_ _ q=>q
theorem Un.laid (k:∀b u,h.get? b=some u->h'.get? b=some u) (hp:h.objs.7<=a) (hn:H a=none):Un fs ex H (upd H a o) h h' where
 keep:=λb u q _ _ _=>k b u q
 slot:=λb u q _ _ _=>#[u.slots,k b u q]
 free:=λb u q n _=>by rw[bM (cg (bF (Heap.lt_size q) hp))];exact n
 there:=λb u q _=>#[u,k b u q]
 tups:=λb xs q=>by rw[bM (gD q hn)];exact q
 frzs:=λb u xs q=>by rw[bM (gD q hn)];exact q
 tbls:=λb ps q=>#[[].toArray,by rw[bM (gD q hn),q];simp]
theorem Un.write (mu:U3 (H x)) (he:e=x\/H e=some (.own x)) (k:∀b u,b≠e->h.get? b=some u->h'.get? b=some u) (heo:∃u,h'.get? e=some u):Un fs ex H (upd H x o) h h':=by
 have hx:∀b,H b=none->b≠x:=λb n z=>by subst z;rw[n] at mu;exact mu
 have hb:∀b,H b=none->b≠e:=λb n z=>by
  subst z;rcases he with r | r
  ·exact hx b n r
  ·rw[n] at r;cases r
 have hm:∀b u,H b=some u->¬U3 (some u)->b≠x:=λb u q nm z=>by subst z;rw[q] at mu;exact nm mu
 refine #[λb u q n _ _=>k b u (hb b n) q,λb u q n _ _=>#[u.slots,k b u (hb b n) q],λb u q n _=>by rw[bM (hx b n)];exact n,λb u q _=>?_,
  λb xs q=>by rw[bM (hm b _ q λz=>z)];exact q,λb u xs q=>by rw[bM (hm b _ q λz=>z)];exact q,λb ps q=>#[[].toArray,by rw[bM (hm b _ q λz=>z),q];simp]]
 by_cases hbe:b=e
 ·subst hbe;exact heo
 ·exact #[u,k b u hbe q]
end
def UY (h:Heap) (H:Hp):List Addr:=(List.range h.objs.7).filter λa=>(H a).isSome
def EZ (h:Heap) (H:Hp):Heap:=PySem.W.hideAll h (UY h H)
theorem L4 (h:Heap) (H:Hp):(EZ h H).objs.size=h.objs.7:=PySem.W.hideAll_size _ _
theorem N3 (e:h.get? b=some o) (n:H b=none):(EZ h H).get? b=some o :=
 PySem.W.hideAll_get _ e λhm=>by
  have q:(H b).isSome=true:=(List.mem_filter.mp hm).2;rw[n] at q;simp at q
theorem Qj (e:(EZ h H).get? b=some o):h.get? b=some o/\H b=none:=by
 have e':h.get? b=some o:=PySem.W.of_hideAll (UY h H) e;refine #[e',?_];cases q:H b with
 | none=>rfl
 | some x =>
  have hm:b∈UY h H:=List.mem_filter.mpr #[uK.mpr (Heap.lt_size e'),by simp [q]];have z:(EZ h H).get? b=none:=PySem.W.hideAll_none (UY h H) hm;rw[z] at e;cases e
structure Mod (K:FG9) (mg:Str->Option Value) (base:Heap):Prop where
 kin:K.In base
 glob:base.Ns mainGlobals mg
 blt:∃mb,base.Ns builtinsNs mb/\∀x:Str,x≠"__name__"->mb x=bootBuiltins x
 nolimit:base.NoLimit
 seer:base.NoSeer
structure Cx where
 prog:Program
 w:World
 K:FG9
 mg:Str->Option Value
 base:Heap
 A:Around
 N:List Str
 s₀:Shared
 H₀:Hp
 env:Env
 outer:List Env
 stack:List Env
 ex:List Addr
 fn:Str->Bool
 calm:Bool
 pn:List (Addr×Obj)
 xe:Value->Shared->Prop
def Mm (l:List Env):List Addr:=l.filterMap (·.frame)
abbrev Cx.fs (X:Cx):List Addr:=Mm X.outer
def Vl (sc:Scope) (x:Str):Prop:=sc.names.lookup x=some .local\/sc.names.lookup x=some .cell\/sc.names.lookup x=some .free
def Loc (sc:Scope) (x:Str):Prop:=sc.names.lookup x=some .local\/sc.names.lookup x=some .cell
def Look (env:Env) (h:Heap) (m:Str->Option Value) (x:Str) (u:Value):Prop :=
 (env.kindOf x=some .local/\m x=some u)\/((env.kindOf x=some .cell\/env.kindOf x=some .free)/\∃c,env.cells.lookup x=some c/\h.IsCell c (some u))
structure Cx.Ok (X:Cx):Prop where
 mod:Mod X.K X.mg X.base
 kind:X.env.scope.kind=.function
 glob:X.env.globals=mainGlobals
 blt:X.env.builtins=builtinsNs
 above:X.s₀.6<=X.env.locals
 inj:∀x y c,X.env.cells.lookup x=some c->X.env.cells.lookup y=some c->x=y
 has:∀x,(X.env.kindOf x=some .cell\/X.env.kindOf x=some .free)->∃c,X.env.cells.lookup x=some c
 cab:∀x c,X.fn x=true->X.env.cells.lookup x=some c->X.s₀.6<=c
 hd:X.calm=true->X.A.handled=none
 frames:X.A.frames=some X.stack
 stk:X.stack=X.outer\/(X.stack=X.env :: X.outer/\X.env.frame=some X.env.locals)
 exf:∀b∈X.ex,b≠X.env.locals/\∀x c,X.env.cells.lookup x=some c->c≠b
 bs:∀b o,X.base.get? b=some o->X.s₀.heap.get? b=some o/\X.H₀ b=none
 bsz:X.base.objs.7<=X.s₀.heap.objs.size
 noex:∀b o,X.base.get? b=some o->b∉X.ex
 exfs:∀b∈X.ex,b∉X.fs
 funs:X.s₀.heap.FunFrames X.base X.outer
 frf:∀b∈X.fs,X.H₀ b=none
structure Inv (X:Cx) (pins:List (Addr×Obj)) (σ:List (Option V)) (H:Hp) (s:Shared):Prop where
 ok:X.Ok
 os:s.os=X.s₀.os
 bare:AllBare s.gens
 base:Un X.fs X.ex X.H₀ H X.s₀.heap s.heap
 loc:∃m,s.heap.Ns X.env.locals m/\∀(i:Nat) (x:Str) (v:V),X.N[i]?=some x->σ[i]?=some (some v)->Vl X.env.scope x->∃u,RelV v u/\Look X.env s.heap m x u
 cell:∀x c,X.env.cells.lookup x=some c->∃v,s.heap.IsCell c v
 free:H X.env.locals=none
 freeC:∀x c,X.env.cells.lookup x=some c->H c=none
 pin:∀p∈X.pn++pins,s.heap.get? p.1=some p.2/\H p.1=none/\p.1≠X.env.locals/\p.1∉X.fs/\∀v,p.2.data≠.cell v
 hok:Ae X.prog X.w H s.heap
 len:σ.9=X.N.9
section
variable {X:Cx} {pins:List (Addr×Obj)} {σ:List (Option V)} {H H':Hp} {s:Shared} {h':Heap}
theorem Cx.Ok.nofr (ok:X.Ok) (e:X.base.get? b=some o):b∉X.fs:=λhb=>by
 have:=(ok.funs.mem hb).1;rw[e] at this;cases this
theorem Inv.bs (I:Inv X pins σ H s):∀b o,X.base.get? b=some o->s.heap.get? b=some o/\H b=none:=λb o e =>
 #[I.base.keep b o (I.ok.bs b o e).1 (I.ok.bs b o e).2 (I.ok.nofr e) (I.ok.noex b o e),I.base.free b o (I.ok.bs b o e).1 (I.ok.bs b o e).2 (I.ok.noex b o e)]
theorem Inv.bk (I:Inv X pins σ H s):∀b o,X.base.get? b=some o->s.heap.get? b=some o:=λb o e=>(I.bs b o e).1
theorem Inv.mod (I:Inv X pins σ H s):Mod X.K X.mg X.base:=I.ok.mod
theorem Inv.kIn (I:Inv X pins σ H s):X.K.In s.8:=I.ok.mod.kin.keeps I.bk
theorem Inv.nolimit (I:Inv X pins σ H s):s.heap.NoLimit:=I.ok.mod.nolimit.keeps I.bk
theorem Inv.lt (I:Inv X pins σ H s):X.env.locals < s.6:=let ⟨_,hn,_⟩:=I.loc;hn.lt
theorem Inv.sz (I:Inv X pins σ H s):X.s₀.6<=s.6:=ag I.ok.above (be I.lt)
theorem Inv.nofs (I:Inv X pins σ H s) {a:Addr} (h:s.6<=a):a∉X.fs:=λhb=>by
 obtain _|o|ho|_:=I.ok.funs.mem hb;exact absurd (bF (Heap.lt_size ho) (ag I.sz h)) (fO _)
theorem Inv.cne (I:Inv X pins σ H s):∀x c,X.env.cells.lookup x=some c->c≠X.env.locals:=λx c e z=>by
 obtain v|o|ho|hd:=I.cell x c e;obtain m|⟨o',es,ep,ho',hd',_⟩|_:=I.loc;rw[z,ho'] at ho;cases ho;rw[hd'] at hd;cases hd
theorem Inv.funs (I:Inv X pins σ H s):s.heap.FunFrames X.base X.outer:=by
 have all:∀(l:List Env),(∀b∈Mm l,b∈X.fs)->X.s₀.heap.FunFrames X.base l->s.heap.FunFrames X.base l:=by
  intro l
  induction l with
  | nil=>intro _ _;trivial
  | cons env r ih =>
   intro hs hl;obtain hk|⟨L,o,hf,hn,ho,hd⟩|hr:=hl;have hL:L∈X.fs:=hs L (by unfold Mm;rw[FH,hf];exact dF);obtain sl|e:=I.base.slot L o ho (I.ok.frf L hL) hL λz=>I.ok.exfs L z hL
   exact #[hk,#[L,_,hf,hn,e,hd],ih (λb hb=>hs b (by unfold Mm;rw[FH,hf];exact b7 _ hb)) hr]
 exact all X.outer (λ_ hb=>hb) I.ok.funs
theorem Inv.stack (I:Inv X pins σ H s):s.heap.FunFrames X.base X.stack:=by
 rcases I.ok.stk with e | ⟨e,hf⟩
 ·rw[e];exact I.funs
 ·rw[e];obtain m|hn|_:=I.loc;refine .cons (by rw[I.ok.kind];decide) hf hn ?_ I.funs;exact Heap.get?_none_of_le (ag I.ok.bsz I.ok.above)
theorem Inv.stkSub (I:Inv X pins σ H s):∀b∈Mm X.stack,b∈X.env.locals :: X.fs:=λb hb=>by
 rcases I.ok.stk with e | ⟨e,hf⟩
 ·rw[e] at hb;exact b7 _ hb
 ·rw[e] at hb;unfold Mm at hb;rw[FH,hf] at hb;exact hb
theorem Inv.stkFree (I:Inv X pins σ H s):∀b∈Mm X.stack,H b=none:=λb hb=>by
 rcases aG.mp (I.stkSub b hb) with e | hb
 ·rw[e];exact I.free
 ·obtain _|o|ho|_:=I.ok.funs.mem hb;exact I.base.free b o ho (I.ok.frf b hb) λz=>I.ok.exfs b z hb
theorem Inv.step {ch:List Addr} (I:Inv X pins σ H s)
  (hch:∀b∈ch,(b∈X.ex\/X.s₀.6<=b)/\b≠X.env.locals/\(∀x c,X.env.cells.lookup x=some c->c≠b)/\∀p∈X.pn++pins,p.1≠b)
  (keep:∀b o,b≠X.env.locals->b∉X.fs->b∉ch->s.heap.get? b=some o->H b=none->h'.get? b=some o)
  (slot:∀b o,b≠X.env.locals->b∈X.fs->b∉ch->s.heap.get? b=some o->H b=none->∃sl,h'.get? b=some { o with slots:=sl }) (free:∀b o,b∉ch->s.heap.get? b=some o->H b=none->H' b=none)
  (there:∀b o,b∉ch->s.heap.get? b=some o->∃o',h'.get? b=some o')
  (tups:∀b xs,H b=some (.tup xs)->H' b=some (.tup xs)) (frzs:∀b o u,H b=some (.frz o u)->H' b=some (.frz o u)) (tbls:∀b ps,H b=some (.tbl ps)->∃more,H' b=some (.tbl (ps++more)))
  (ns:∀m,s.heap.Ns X.env.locals m->h'.Ns X.env.locals m) (hok:Ae X.prog X.w H' h') (hg:AllBare g') :
  Inv X pins σ H' { s with heap:=h',gens:=g',drawn:=d',toks:=t' }:=by
 have neL:∀b o,X.s₀.heap.get? b=some o->b≠X.env.locals:=λb o e=>cg (bF (Heap.lt_size e) I.ok.above)
 have neC:∀b o,X.s₀.heap.get? b=some o->b∉X.ex->b∉ch:=λb o e hx hb=>by
  rcases (hch b hb).1 with z | z
  ·exact hx z
  ·exact absurd (bF (Heap.lt_size e) z) (fO _)
 have cellK:∀x c,X.env.cells.lookup x=some c->∀v,s.heap.IsCell c v->h'.IsCell c v:=λx c e v #[o,ho,hd]=>by
  have nch:c∉ch:=λz=>(hch c z).2.2.1 x c e rfl
  by_cases hc:c∈X.fs
  ·obtain sl|q:=slot c o (I.cne x c e) hc nch ho (I.freeC x c e);exact #[_,q,hd]
  ·exact #[o,keep c o (I.cne x c e) hc nch ho (I.freeC x c e),hd]
 refine #[I.ok,I.os,hg,#[λb o e n hb hx=>?_,λb o e n hb hx=>?_,λb o e n hx=>?_,λb o e hx=>?_,λb xs e=>tups b xs (I.base.tups b xs e),λb o xs e=>frzs b o xs (I.base.frzs b o xs e),λb ps e=>?_],?_,λx c e=>?_,?_,λx c e=>?_,λp hp=>?_,hok,I.len]
 ·exact keep b o (neL b o e) hb (neC b o e hx) (I.base.keep b o e n hb hx) (I.base.free b o e n hx)
 ·obtain sl|e1:=I.base.slot b o e n hb hx;obtain sl'|e2:=slot b _ (neL b o e) hb (neC b o e hx) e1 (I.base.free b o e n hx);exact #[sl',e2]
 ·obtain o'|e1:=I.base.there b o e hx;exact free b o' (neC b o e hx) e1 (I.base.free b o e n hx)
 ·obtain o'|e1:=I.base.there b o e hx;exact there b o' (neC b o e hx) e1
 ·obtain m1|e1:=I.base.tbls b ps e;obtain m2|e2:=tbls b _ e1;exact #[m1++m2,by rw[e2,Array.append_assoc]]
 ·obtain m|hn|hl:=I.loc;refine #[m,ns m hn,λi x v e1 e2 e3=>?_];obtain u|r|l:=hl i x v e1 e2 e3;refine #[u,r,?_];rcases l with l | ⟨k,c,e,z⟩
  ·exact .inl l
  ·exact .inr #[k,c,e,cellK x c e _ z]
 ·obtain v|z:=I.cell x c e;exact #[v,cellK x c e v z]
 ·obtain m|⟨o,_,_,ho,_⟩|_:=I.loc;exact free _ o (λz=>(hch _ z).2.1 rfl) ho I.free
 ·obtain v|o|ho|hd:=I.cell x c e;exact free c o (λz=>(hch c z).2.2.1 x c e rfl) ho (I.freeC x c e)
 ·obtain e|n|ne|nf|d:=I.pin p hp;have nch:p.1∉ch:=λz=>(hch p.1 z).2.2.2 p hp rfl
  exact #[keep p.1 p.2 ne nf nch e n,free p.1 p.2 nch e n,ne,nf,d]
theorem Inv.un (I:Inv X pins σ H s) (u:Un X.fs [] H H' s.heap h') (hok:Ae X.prog X.w H' h'):Inv X pins σ H' { s with heap:=h',toks:=t' }:=by
 obtain m|⟨o,es,ep,ho,r⟩|_:=id I.loc;obtain sl|hL:=u.any ho I.free (by simp)
 exact I.step (g':=s.gens) (d':=s.drawn) (ch:=[]) (λ_ z=>nomatch z) (λb o _ hb _ e n=>u.keep b o e n hb (by simp)) (λb o _ hb _ e n=>u.slot b o e n hb (by simp)) (λb o _ e n=>u.free b o e n (by simp)) (λb o _ e=>u.there b o e (by simp)) u.tups u.frzs u.tbls (λm' hm=>by
  obtain o'|es'|ep'|ho'|r':=hm;rw[ho] at ho';cases ho';exact #[_,es',ep',hL,r']) hok I.bare
theorem Inv.call (I:Inv X pins σ H s) (u:Un (Mm X.stack) ch H H' s.heap h') (hok:Ae X.prog X.w H' h') (hg:AllBare g')
  (hch:∀b∈ch,(b∈X.ex\/X.s₀.6<=b)/\b≠X.env.locals/\(∀x c,X.env.cells.lookup x=some c->c≠b)/\∀p∈X.pn++pins,p.1≠b) :
  Inv X pins σ H' { s with heap:=h',gens:=g',drawn:=d',toks:=t' }:=by
 obtain m|⟨o,es,ep,ho,r⟩|_:=id I.loc;obtain sl|hL:=u.any ho I.free λz=>(hch _ z).2.1 rfl
 exact I.step (ch:=ch) hch (λb o hL hb hc e n=>u.keep b o e n (λz=>(aG.mp (I.stkSub b z)).elim hL hb) hc) (λb o _ _ hc e n=>u.any e n hc) (λb o hc e n=>u.free b o e n hc) (λb o hc e=>u.there b o e hc) u.tups u.frzs u.tbls (λm' hm=>by
  obtain o'|es'|ep'|ho'|r':=hm;rw[ho] at ho';cases ho';exact #[_,es',ep',hL,r']) hok hg
theorem Inv.turned (I:Inv X pins σ H s) (k:∀b o,b≠it->s.heap.get? b=some o->h'.get? b=some o) (hn:H it=none) (hL:it≠X.env.locals)
  (h1:it∈X.ex\/X.s₀.6<=it) (h2:∀x c,X.env.cells.lookup x=some c->c≠it) (h3:∀p∈X.pn++pins,p.1≠it):Inv X pins σ H { s with heap:=h',toks:=t' }:=by
 have nit:∀b u,H b=some u->b≠it:=λb u e z=>by rw[z,hn] at e;cases e
 refine I.step (g':=s.gens) (d':=s.drawn) (ch:=[it]) (λb hb=>?_) (λb o _ _ hc e _=>k b o (λz=>hc (by simp [z])) e) (λb o _ _ hc e _=>#[o.slots,k b o (λz=>hc (by simp [z])) e]) (λ_ _ _ _ n=>n)
  (λb o hc e=>#[o,k b o (λz=>hc (by simp [z])) e]) (λ_ _ e=>e) (λ_ _ _ e=>e) (λb ps e=>#[[].toArray,by rw[e];simp]) (λm hm=>?_) (λb u e=>?_) I.bare
 ·have e:b=it:=by simpa using hb
  subst e;exact #[h1,hL,h2,h3]
 ·obtain o|es|ep|ho|r:=hm;exact #[o,es,ep,k _ o (Ne.symm hL) ho,r]
 ·refine (I.hok b u e).stay (λc v hc q=>k c v ?_ q) (λ_ q=>q) λ_ _ q=>q
  rcases hc with z | z
  ·rw[z];exact nit b u e
  ·exact nit c _ z
theorem Inv.tok (I:Inv X pins σ H s) (t:Nat):Inv X pins σ H { s with toks:=t }:=I.un (h':=s.8) (t':=t) Un.refl I.hok
theorem Inv.kept (I:Inv X pins σ H s) (k:∀b u,s.heap.get? b=some u->h'.get? b=some u):Inv X pins σ H { s with heap:=h',toks:=t' }:=I.un (Un.kept k) (I.hok.kept k)
theorem Inv.laid {a:Addr} (I:Inv X pins σ H s) (k:∀b u,s.heap.get? b=some u->h'.get? b=some u) (hp:s.6<=a) (new:gR X.prog X.w (upd H a o) h' a o) :
  Inv X pins σ (upd H a o) { s with heap:=h',toks:=t' }:=I.un (Un.laid k hp (I.hok.fresh hp)) (I.hok.laid k hp new)
theorem Inv.write (I:Inv X pins σ H s) (mu:U3 (H x)) (he:e=x\/H e=some (.own x)) (k:∀b u,b≠e->s.heap.get? b=some u->h'.get? b=some u) (heo:∃u,h'.get? e=some u)
  (new:gR X.prog X.w (upd H x o) h' x o):Inv X pins σ (upd H x o) { s with heap:=h',toks:=t' }:=I.un (Un.write mu he k heo) (I.hok.write mu he k heo new)
theorem Inv.pins_of (I:Inv X pins σ H s) (h:∀p∈pins',s.heap.get? p.1=some p.2/\H p.1=none/\p.1≠X.env.locals/\p.1∉X.fs/\∀v,p.2.data≠.cell v):Inv X pins' σ H s :=
 #[I.ok,I.os,I.bare,I.base,I.loc,I.cell,I.free,I.freeC,λp hp=>(aA.mp hp).elim (λz=>I.pin p (dG _ z)) (h p),I.hok,I.len]
theorem GI {N:List Str} (hN:N.Nodup) {i j:Nat} (a:N[i]?=some x) (b:N[j]?=some x):i=j:=by
 obtain h1|e1:=aM.mp a;obtain h2|e2:=aM.mp b;exact (List.getElem_inj hN).mp (e1.trans e2.symm)
theorem C2 {M:Model} {A:Around} {E:Value->Shared->Prop} {i:Nat} {x:Str} {v:V} {u:Value} {Q:Unit->Shared->Prop} (I:Inv X pins σ H s) (hN:X.N.Nodup) (hi:X.N[i]?=some x) (hx:Loc X.env.scope x) (r:RelV v u)
  (h:∀s',Inv X pins (σ.set i (some v)) H s'->(∃a,Heap.SameBut a s.heap s'.8/\(a=X.env.locals\/X.env.cells.lookup x=some a))->Q .unit s') (hf:X.fn x=true\/X.env.scope.names.lookup x=some .local:=by first | exact .inl rfl | exact .inr rfl | assumption):wpAny M A (storeName X.env x u) Q E s:=by
 obtain m|hn|hl:=id I.loc;have hcls:(X.env.scope.kind == .class || (X.env.scope.kind == .module && X.env.locals != X.env.globals))=false:=by rw[I.ok.kind];rfl
 have hiσ:i < σ.9:=by rw[I.len];exact (aM.mp hi).1
 have cne:=I.cne
 have tracked:∀{a:Addr} {h':Heap},(∃o,s.heap.get? a=some o/\H a=none)->Heap.SameBut a s.heap h'->Ae X.prog X.w H h':=λ{a h'} ha hs b ob e=>by
  obtain _|_|hfree:=ha;refine (I.hok b ob e).stay (λc w' hc q=>(hs.2 c ?_).trans q) (λ_ q=>q) λ_ _ q=>q
  rintro rfl;rcases hc with rfl | hc
  ·rw[hfree] at e;cases e
  ·rw[hfree] at hc;cases hc
 rcases hx with hk | hk
 ·refine wpAny_storeName_local hk hn (λh' hn' hs=>?_) hcls;obtain oL|_|_|hoL|_:=id hn;refine h _ #[I.ok,I.os,I.bare,#[λb o e n hb hx=>?_,λb o e n hb hx=>?_,I.base.free,λb o e hx=>?_,I.base.tups,I.base.frzs,I.base.tbls],#[_,hn',λj y v' e1 e2 e3=>?_],λy c e=>?_,I.free,I.freeC,λp hp=>?_,tracked #[oL,hoL,I.free] hs,by simpa using I.len] #[_,hs,.inl rfl]
  ·exact (hs.2 b (cg (bF (Heap.lt_size e) I.ok.above))).trans (I.base.keep b o e n hb hx)
  ·obtain sl|e1:=I.base.slot b o e n hb hx;exact #[sl,(hs.2 b (cg (bF (Heap.lt_size e) I.ok.above))).trans e1]
  ·obtain o'|e1:=I.base.there b o e hx;exact #[o',(hs.2 b (cg (bF (Heap.lt_size e) I.ok.above))).trans e1]
  ·by_cases hj:j=i
   ·subst hj;rw[hi] at e1;cases e1;rw[List.getElem?_set_self hiσ] at e2;cases e2;exact #[u,r,.inl #[hk,by simp]]
   ·rw[List.getElem?_set_ne (Ne.symm hj)] at e2;obtain u'|r'|q:=hl j y v' e1 e2 e3;refine #[u',r',?_];rcases q with ⟨k,e⟩ | ⟨k,c,e,z⟩
    ·refine .inl #[k,?_];have:y≠x:=λe=>hj (GI hN e1 (e ▸ hi))
     simp [this,e]
    ·exact .inr #[k,c,e,z.sameBut hs (cne y c e)]
  ·obtain w'|z:=I.cell y c e;exact #[w',z.sameBut hs (cne y c e)]
  ·obtain e|n|ne|nf|d:=I.pin p hp;exact #[(hs.2 p.1 ne).trans e,n,ne,nf,d]
 ·have hfn:X.fn x=true:=by
   rcases hf with z | z
   ·exact z
   ·rw[z] at hk;cases hk
  obtain c|hc:=I.ok.has x (.inl hk);obtain w'|z:=I.cell x c hc;refine wpAny_storeName_cell I.ok.kind hk hc z (λh' hc' hs=>?_);obtain oc|hoc|hocd:=id z;refine h { s with heap:=h' } ⟨I.ok,I.os,I.bare,⟨λb o e n hb hx=>?_,λb o e n hb hx=>?_,I.base.free,λb o e hx=>?_,I.base.tups,I.base.frzs,I.base.tbls⟩,#[m,hn.sameBut hs (Ne.symm (cne x c hc)),λj y v' e1 e2 e3=>?_],λy c' e=>?_,I.free,I.freeC,λp hp=>?_,tracked #[oc,hoc,I.freeC x c hc] hs,by simpa using I.len⟩ #[c,hs,.inr hc]
  ·exact (hs.2 b (cg (bF (Heap.lt_size e) (I.ok.cab x c hfn hc)))).trans (I.base.keep b o e n hb hx)
  ·obtain sl|e1:=I.base.slot b o e n hb hx;exact #[sl,(hs.2 b (cg (bF (Heap.lt_size e) (I.ok.cab x c hfn hc)))).trans e1]
  ·obtain o'|e1:=I.base.there b o e hx;exact #[o',(hs.2 b (cg (bF (Heap.lt_size e) (I.ok.cab x c hfn hc)))).trans e1]
  ·by_cases hj:j=i
   ·subst hj;rw[hi] at e1;cases e1;rw[List.getElem?_set_self hiσ] at e2;cases e2;exact #[u,r,.inr #[.inl hk,c,hc,hc']]
   ·rw[List.getElem?_set_ne (Ne.symm hj)] at e2;obtain u'|r'|q:=hl j y v' e1 e2 e3;refine #[u',r',?_];rcases q with q | ⟨k,c',e,z'⟩
    ·exact .inl q
    ·refine .inr #[k,c',e,z'.sameBut hs ?_];rintro rfl;exact hj (GI hN e1 (I.ok.inj _ _ _ e hc ▸ hi))
  ·by_cases hcc:c'=c
   ·subst hcc;exact #[_,hc']
   ·obtain w2|z2:=I.cell y c' e;exact #[w2,z2.sameBut hs hcc]
  ·obtain e|n|ne|nf|d:=I.pin p hp;refine #[(hs.2 p.1 ?_).trans e,n,ne,nf,d];intro q;rw[q,hoc] at e;have q':oc=p.2:=cn e;exact d w' (by rw[<- q'];exact hocd)
theorem vA {M:Model} {A:Around} {E:Value->Shared->Prop} {i:Nat} {x:Str} {v:V} {u:Value} {Q:Unit->Shared->Prop} (I:Inv X pins σ H s) (hN:X.N.Nodup) (hi:X.N[i]?=some x) (hx:Loc X.env.scope x) (r:RelV v u)
  (h:∀s',Inv X pins (σ.set i (some v)) H s'->Q .unit s') (hf:X.fn x=true\/X.env.scope.names.lookup x=some .local:=by first | exact .inl rfl | exact .inr rfl | assumption):wpAny M A (storeName X.env x u) Q E s :=
 C2 I hN hi hx r (λs' I' _=>h s' I') hf
theorem Inv.call' (I:Inv X pins σ H s) (ho:s'.os=s.os) (u:Un (Mm X.stack) ch H H' s.heap s'.8) (hok:Ae X.prog X.w H' s'.8) (hg:AllBare s'.gens)
  (hch:∀b∈ch,(b∈X.ex\/X.s₀.6<=b)/\b≠X.env.locals/\(∀x c,X.env.cells.lookup x=some c->c≠b)/\∀p∈X.pn++pins,p.1≠b):Inv X pins σ H' s':=by
 obtain h'|g'|d'|t'|o':=s';have e:o'=s.os:=ho;subst e;exact I.call (g':=g') (t':=t') (d':=d') u hok hg hch
end
abbrev XK:=Value->Option Addr->Hp->Prop
abbrev St:=List (Option V)
abbrev VK:=V->Hp->Prop
abbrev TE:=St->Hp->VK->Prop
abbrev TT:=St->Hp->(Bool->Hp->Prop)->Prop
abbrev TA:=St->Hp->(List V->Hp->Prop)->Prop
structure Ends where
 nx:St->Hp->Prop
 rt:VK
 bk:St->Hp->Prop:=λ_ _=>False
 ct:St->Hp->Prop:=λ_ _=>False
abbrev TS:=Ends->St->Hp->Prop
def EP (X:Cx) (pins:List (Addr×Obj)) (σ:St) (Q:VK) (u:Value) (s':Shared):Prop:=∃v H',Inv X pins σ H' s'/\RelV v u/\Q v H'
def TP (X:Cx) (pins:List (Addr×Obj)) (σ:St) (Q:Bool->Hp->Prop) (b:Bool) (s':Shared):Prop:=∃H',Inv X pins σ H' s'/\Q b H'
def AP (X:Cx) (pins:List (Addr×Obj)) (σ:St) (Q:List V->Hp->Prop) (us:List Value) (s':Shared):Prop:=∃vs H',Inv X pins σ H' s'/\cV vs us/\Q vs H'
def SP (X:Cx) (pins:List (Addr×Obj)) (D:Ends) (f:Flow) (s':Shared):Prop :=
 match f with
 | .next=>∃σ' H',Inv X pins σ' H' s'/\D.nx σ' H'
 | .brk=>∃σ' H',Inv X pins σ' H' s'/\D.bk σ' H'
 | .cont=>∃σ' H',Inv X pins σ' H' s'/\D.ct σ' H'
 | .ret u=>∃v σ' H',Inv X pins σ' H' s'/\RelV v u/\D.rt v H'
def PE (X:Cx) (e:Expr) (t:TE):Prop :=
 ∀(pins:List (Addr×Obj)) (s:Shared) (σ:St) (H:Hp) (Q:VK),Inv X pins σ H s->t σ H Q->wpAny (model X.prog X.w) X.A (eval e X.env) (EP X pins σ Q) X.xe s
def PT (X:Cx) (e:Expr) (t:TT):Prop :=
 ∀(pins:List (Addr×Obj)) (s:Shared) (σ:St) (H:Hp) (Q:Bool->Hp->Prop),Inv X pins σ H s->t σ H Q->wpAny (model X.prog X.w) X.A (isTrue e X.env (eval e X.env)) (TP X pins σ Q) X.xe s
def PW (X:Cx) (e:Expr) (t:TT):Prop :=
 ∀(whole:Sem Value) (pins:List (Addr×Obj)) (s:Shared) (σ:St) (H:Hp) (Q:Bool->Hp->Prop),Inv X pins σ H s->t σ H Q->wpAny (model X.prog X.w) X.A (isTrue e X.env whole) (TP X pins σ Q) X.xe s
theorem PW.pt (h:PW X e t):PT X e t:=h _
def PA (X:Cx) (es:List Expr) (t:TA):Prop :=
 ∀(pos:Pos) (pins:List (Addr×Obj)) (s:Shared) (σ:St) (H:Hp) (Q:List V->Hp->Prop),Inv X pins σ H s->t σ H Q->wpAny (model X.prog X.w) X.A (spliced (backTo pos (starEach es X.env))) (AP X pins σ Q) X.xe s
def PS (X:Cx) (st:Stmt) (t:TS):Prop :=
 ∀(pins:List (Addr×Obj)) (s:Shared) (σ:St) (H:Hp) (D:Ends),Inv X pins σ H s->t D σ H->wpAny (model X.prog X.w) X.A (exec st X.env) (SP X pins D) X.xe s
def JG (X:Cx) (st:List Stmt) (t:TS):Prop :=
 ∀(pins:List (Addr×Obj)) (s:Shared) (σ:St) (H:Hp) (D:Ends),Inv X pins σ H s->t D σ H->wpAny (model X.prog X.w) X.A (execs st X.env) (SP X pins D) X.xe s
theorem gL {t:Sem α} {Q Q':α->Shared->Prop} (h:wpAny M A t Q E s) (hQ:∀a s,Q a s->Q' a s):wpAny M A t Q' E s:=wpAny_mono h hQ λ_ _ x=>x
section
variable {X:Cx}
def RL (i:Nat):TE:=λσ H Q=>∃v,σ[i]?=some (some v)/\Q v H
def tC (v:V):TE:=λ_ H Q=>Q v H
theorem SG {i:Nat} {x:Str} {pos:Pos} (hN:X.N[i]?=some x) (hv:Vl X.env.scope x) (hd:(x == ("__debug__":Str))=false:=by decide) (hcd:(x == ("__classdict__":Str))=false:=by decide):PE X (.Name x pos) (RL i):=by
 intro pins s σ H Q I h;obtain v|e|h:=h;obtain m|hn|hl:=I.loc;obtain u|r|l:=hl i x v hN e hv;have fin:EP X pins σ Q u s:=#[v,H,I,r,h];rcases l with ⟨hk,hm⟩ | ⟨hk,c,hc,hcell⟩
 ·exact wpAny_Name (wpAny_loadName_local I.ok.kind hk hn hm fin) hd
 ·rcases hk with hk | hk
  ·exact wpAny_Name (wpAny_loadName_cell I.ok.kind hk hc hcell fin) hd
  ·exact wpAny_Name (wpAny_loadName_free I.ok.kind hk hc hcell fin hcd) hd
theorem ak:PE X (.Constant (.int i) j pos) (tC (.int i)):=λ_ _ _ H _ I h=>wpAny_Constant_int #[.int i,H,I.tok _,#[_,rfl],h]
theorem lF:PE X (.Constant (.bool b) j pos) (tC (.bl b)):=λ_ _ _ H _ I h=>Constant_bool #[.bl b,H,I,rfl,h]
theorem xZ:PE X (.Constant .none j pos) (tC .non):=λ_ _ _ H _ I h=>Constant_none #[.non,H,I,rfl,h]
theorem jR:PE X (.Constant (.str x) j pos) (tC (.str x)):=λ_ _ _ H _ I h=>Calls.Constant_str #[.str x,H,I.tok _,#[_,rfl],h]
def Gl (X:Cx) (x:Str):Prop:=X.env.kindOf x=some .globalImplicit
theorem EV {E:Value->Shared->Prop} {pins:List (Addr×Obj)} {s:Shared} {σ:St} {H:Hp} {x:Str} {u:Value} {pos:Pos} {Q:Value->Shared->Prop} (I:Inv X pins σ H s) (hg:Gl X x) (hm:X.mg x=some u) (h:Q u s)
  (hd:(x == ("__debug__":Str))=false:=by decide):wpAny (model X.prog X.w) X.A (eval (.Name x pos) X.env) Q E s :=
 Calls.Name_function_global I.ok.kind hg (Calls.loadGlobal_global (by rw[I.ok.glob];exact I.mod.glob.keeps I.bk) hm h) hd
theorem j7 {E:Value->Shared->Prop} {pins:List (Addr×Obj)} {s:Shared} {σ:St} {H:Hp} {x:Str} {u:Value} {pos:Pos} {Q:Value->Shared->Prop} (I:Inv X pins σ H s) (hg:Gl X x) (hm:X.mg x=none) (hv:bootBuiltins x=some u) (h:Q u s)
  (hn:x≠"__name__":=by decide) (hd:(x == ("__debug__":Str))=false:=by decide):wpAny (model X.prog X.w) X.A (eval (.Name x pos) X.env) Q E s:=by
 obtain mb|h1|h2:=I.mod.blt;exact Calls.Name_function_global I.ok.kind hg (Calls.loadGlobal_builtin (by rw[I.ok.glob];exact I.mod.glob.keeps I.bk) hm (by rw[I.ok.blt];exact h1.keeps I.bk) ((h2 x hn).trans hv) h) hd
theorem vI {x:Str} {v:V} {u:Value} {pos:Pos} (hg:Gl X x) (hm:X.mg x=some u) (r:RelV v u) (hd:(x == ("__debug__":Str))=false:=by decide):PE X (.Name x pos) (tC v) :=
 λ_ _ _ H _ I h=>EV I hg hm #[v,H,I,r,h] hd
theorem zZ {x:Str} {v:V} {u:Value} {pos:Pos} (hg:Gl X x) (hm:X.mg x=none) (hv:bootBuiltins x=some u) (r:RelV v u) (hn:x≠"__name__":=by decide) (hd:(x == ("__debug__":Str))=false:=by decide):PE X (.Name x pos) (tC v) :=
 λ_ _ _ H _ I h=>j7 I hg hm hv #[v,H,I,r,h] hn hd
variable {a b:Expr} {ta tb:TE} {pos:Pos}
def tB (t:TE):TT:=λσ H Q=>t σ H λx H1=>∃c,x=.bl c/\Q c H1
theorem fQ {e:Expr} {t:TE} (h:PE X e t) (he:∀whole,isTrue e X.env whole=(do let v <- whole;standAt e.pos;holding [v] (truthy v)):=by intro _;rfl):PT X e (tB t):=by
 intro pins s σ H Q I hw;refine isTrue_plain (gL (h pins s σ H _ I hw) λv s1 #[x,H1,I1,r1,q1]=>?_) (he _);obtain d|rfl|q:=q1;cases r1;exact wpAny_truthy_bool #[H1,I1,q]
variable {tA tB':TT} {rest:List Expr}
def T1 (t u:TT):TT:=λσ H Q=>t σ H λc H1=>if c=true then u σ H1 Q else Q false H1
def tOr (t u:TT):TT:=λσ H Q=>t σ H λc H1=>if c=true then Q true H1 else u σ H1 Q
def TV (t:TT):TT:=λσ H Q=>t σ H λc H1=>Q (!c) H1
theorem jP (ha:PT X a tA):PW X (.BoolOp .And [a] pos) tA:=by
 intro wh pins s σ H Q I h;refine isTrue_and (gL (ha pins s σ H Q I h) λc s1 e=>?_);cases c with
 | true=>exact isTrue_and_nil e
 | false=>exact e
theorem jw (ha:PT X a tA):PW X (.BoolOp .Or [a] pos) tA:=by
 intro wh pins s σ H Q I h;refine isTrue_or (gL (ha pins s σ H Q I h) λc s1 e=>?_);cases c with
 | false=>exact isTrue_or_nil e
 | true=>exact e
theorem jx (ha:PT X a tA) (hb:PW X (.BoolOp .And (b :: rest) pos) tB'):PW X (.BoolOp .And (a :: b :: rest) pos) (T1 tA tB'):=by
 intro wh pins s σ H Q I h;refine isTrue_and (gL (ha pins s σ H _ I h) λc s1 #[H1,I1,q1]=>?_);cases c with
 | true=>exact hb wh pins s1 σ H1 Q I1 q1
 | false=>exact #[H1,I1,q1]
theorem lE (ha:PT X a tA) (hb:PW X (.BoolOp .Or (b :: rest) pos) tB'):PW X (.BoolOp .Or (a :: b :: rest) pos) (tOr tA tB'):=by
 intro wh pins s σ H Q I h;refine isTrue_or (gL (ha pins s σ H _ I h) λc s1 #[H1,I1,q1]=>?_);cases c with
 | true=>exact #[H1,I1,q1]
 | false=>exact hb wh pins s1 σ H1 Q I1 q1
theorem iP (ha:PT X a tA):PT X (.UnaryOp .Not a pos) (TV tA):=by
 intro pins s σ H Q I h;exact isTrue_not (ha pins s σ H (λc H1=>Q (!c) H1) I h)
def QX (ta tb:TE):TE:=λσ H Q=>ta σ H λx H1=>∃c,x=.bl c/\if c=true then tb σ H1 Q else Q (.bl false) H1
def QQ (ta:TE):TE:=λσ H Q=>ta σ H λx H1=>∃c,x=.bl c/\Q (.bl (!c)) H1
theorem IZ (h:PE X a t):PE X (.BoolOp op [a] pos) t:=λpins s σ H Q I hw=>BoolOp_one (h pins s σ H Q I hw)
theorem Jb (ha:PE X a ta) (hb:PE X (.BoolOp .And (b :: rest) pos) tb):PE X (.BoolOp .And (a :: b :: rest) pos) (QX ta tb):=by
 intro pins s σ H Q I h;refine BoolOp_and (gL (ha pins s σ H _ I h) λv s1 #[x,H1,I1,r1,q1]=>?_);obtain c|rfl|q1:=q1;cases r1;refine wpAny_truthy_bool ?_;cases c with
 | true=>exact hb pins s1 σ H1 Q I1 q1
 | false=>exact #[.bl false,H1,I1,rfl,q1]
theorem SH (ha:PE X a ta):PE X (.UnaryOp .Not a pos) (QQ ta):=by
 intro pins s σ H Q I h;refine UnaryOp_ (gL (ha pins s σ H _ I h) λv s1 #[x,H1,I1,r1,q1]=>?_);obtain c|rfl|q1:=q1;cases r1;exact not_of (wpAny_truthy_bool #[.bl (!c),H1,I1,rfl,q1])
def tIf (t:TT) (ta tb:TE):TE:=λσ H Q=>t σ H λc H1=>if c=true then ta σ H1 Q else tb σ H1 Q
theorem Nu (hc:PT X c tA) (ha:PE X a ta) (hb:PE X b tb):PE X (.IfExp c a b pos) (tIf tA ta tb):=by
 intro pins s σ H Q I h;refine wpAny_IfExp (gL (hc pins s σ H _ I h) λd s1 #[H1,I1,q1]=>?_);cases d with
 | true=>exact ha pins s1 σ H1 Q I1 q1
 | false=>exact hb pins s1 σ H1 Q I1 q1
end
def bR (K:FG9) (H:Hp) (a:Addr) (xs:List V):Prop :=
 Rd H a (.lst xs) \/
  ∃(o:Obj) (its:Array Value) (n:Nat),K.lookup a=some o/\o.cls=.type "list"/\o.dict=none/\o.data=.seq its n/\its.7<=sizeLine/\cV xs its.toList
def jB (K:FG9) (H:Hp) (a:Addr) (xs:List V):Prop :=
 Rd H a (.tup xs) \/
  ∃(o:Obj) (its:Array Value) (n:Nat),K.lookup a=some o/\o.cls=.type "tuple"/\o.data=.seq its n/\its.7<=sizeLine/\cV xs its.toList
def Vj:Value->Option V
 | .none=>some .non
 | .bool b=>some (.bl b)
 | .int i _=>some (.int i)
 | .str x _=>some (.str x)
 | .bytes b _=>some (.byt b)
 | .float b _=>some (.flt b)
 | .ref a=>some (.ref a)
 | .type n=>some (.ty n)
 | _=>none
theorem RelV.abs (r:RelV x u):Vj u=some x:=by
 cases x with
 | non=>cases r;rfl
 | bl _=>cases r;rfl
 | int _=>obtain t|rfl:=r;rfl
 | str _=>obtain t|rfl:=r;rfl
 | byt _=>obtain t|rfl:=r;rfl
 | flt _=>obtain t|rfl:=r;rfl
 | ref _=>cases r;rfl
 | ty _=>cases r;rfl
theorem RelV.inj (r:RelV x u) (q:RelV y u):x=y:=cn (r.abs.symm.trans q.abs)
theorem cV.inj:∀{xs ys:List V} {us:List Value},cV xs us->cV ys us->xs=ys
 | _,_,_,.nil,.nil=>rfl
 | _,_,_,.cons r t,.cons r' t'=>by rw[r.inj r',cV.inj t t']
section
variable {X:Cx} {pins:List (Addr×Obj)} {σ:St} {H:Hp} {s:Shared} {a:Addr} {xs ys:List V}
theorem bR.of {K:FG9} (h:H a=some (.lst xs)):bR K H a xs:=.inl (.inl h)
theorem jB.of {K:FG9} (h:H a=some (.tup xs)):jB K H a xs:=.inl (.inl h)
theorem Inv.list (I:Inv X pins σ H s) (h:bR X.K H a xs):∃its:List Value,cV xs its/\PlainL s.heap a its.5/\xs.9<=sizeLine:=by
 rcases h with h | ⟨o,its,n,hk,hc,hd,hs,hz,r⟩
 ·obtain z|its|n|r|e:=h.ok I.hok;exact #[its,r,#[_,n,e,rfl,rfl,rfl],z]
 ·refine #[its.toList,r,#[o,n,I.kIn a o hk,hc,hd,by simpa using hs],?_];have e:=r.9;simp only[Array.length_toList] at e
  lia
theorem Inv.tuple (I:Inv X pins σ H s) (h:jB X.K H a xs):∃its:List Value,cV xs its/\IsTup s.heap a its.5/\xs.9<=sizeLine:=by
 rcases h with h | ⟨o,its,n,hk,hc,hs,hz,r⟩
 ·obtain z|its|r|p:=h.ok I.hok;exact #[its,r,p,z]
 ·refine #[its.toList,r,#[o,I.kIn a o hk,hc,n,by simpa using hs],?_];have e:=r.9;simp only[Array.length_toList] at e
  lia
theorem Inv.list_inj (I:Inv X pins σ H s) (h:bR X.K H a xs) (h':bR X.K H a ys):xs=ys:=by
 obtain its|r|⟨o,n,e,_,_,d⟩|_:=I.list h;obtain its'|r'|⟨o',n',e',_,_,d'⟩|_:=I.list h';rw[e] at e';cases e';rw[d] at d';injection d' with d1 _
 have:its=its':=by simpa using congrArg Array.toList d1
 subst this;exact r.inj r'
theorem Inv.tuple_inj (I:Inv X pins σ H s) (h:jB X.K H a xs) (h':jB X.K H a ys):xs=ys:=by
 obtain its|r|⟨o,e,_,n,d⟩|_:=I.tuple h;obtain its'|r'|⟨o',e',_,n',d'⟩|_:=I.tuple h';rw[e] at e';cases e';rw[d] at d';injection d' with d1 _
 have:its=its':=by simpa using congrArg Array.toList d1
 subst this;exact r.inj r'
end
abbrev Cx.wish (X:Cx) (E:Value->Shared->Prop):Cx:={ X with xe:=E }
abbrev Cx.nox (X:Cx):Cx:=X.wish λ_ _=>False
theorem Cx.Ok.wish {X:Cx} (ok:X.Ok) (E:Value->Shared->Prop):(X.wish E).Ok :=
 #[ok.mod,ok.kind,ok.glob,ok.blt,ok.above,ok.inj,ok.has,ok.cab,ok.hd,ok.frames,ok.stk,ok.exf,ok.bs,ok.bsz,ok.noex,ok.exfs,ok.funs,ok.frf]
theorem Cx.Ok.unwish {X:Cx} (ok:(X.wish E).Ok):X.Ok :=
 #[ok.mod,ok.kind,ok.glob,ok.blt,ok.above,ok.inj,ok.has,ok.cab,ok.hd,ok.frames,ok.stk,ok.exf,ok.bs,ok.bsz,ok.noex,ok.exfs,ok.funs,ok.frf]
section
variable {X:Cx} {pins:List (Addr×Obj)} {σ:St} {H:Hp} {s:Shared} {E:Value->Shared->Prop}
theorem Inv.wish (I:Inv X pins σ H s) (E:Value->Shared->Prop):Inv (X.wish E) pins σ H s:=#[I.ok.wish E,I.os,I.bare,I.base,I.loc,I.cell,I.free,I.freeC,I.pin,I.hok,I.len]
theorem Inv.unwish (I:Inv (X.wish E) pins σ H s):Inv X pins σ H s:=#[I.ok.unwish,I.os,I.bare,I.base,I.loc,I.cell,I.free,I.freeC,I.pin,I.hok,I.len]
theorem SP.unwish (h:SP (X.wish E) pins D f s'):SP X pins D f s':=by
 cases f with
 | next=>obtain σ'|H'|I|q:=h;exact #[σ',H',I.unwish,q]
 | brk=>obtain σ'|H'|I|q:=h;exact #[σ',H',I.unwish,q]
 | cont=>obtain σ'|H'|I|q:=h;exact #[σ',H',I.unwish,q]
 | ret u=>obtain v|σ'|H'|I|r|q:=h;exact #[v,σ',H',I.unwish,r,q]
theorem JG.nox {st:List Stmt} (h:JG X.nox st t):JG X st t:=λpins s σ H D I hw =>
 wpAny_mono (h pins s σ H D (I.wish _) hw) (λ_ _ q=>q.unwish) λ_ _ z=>False.elim z
end
section
variable {X:Cx} {st:Stmt} {rest:List Stmt} {t u:TS} {e:Expr} {te:TE} {pos:Pos}
def QR:TS:=λD σ H=>D.nx σ H
def TN (t u:TS):TS:=λD σ H=>t { D with nx:=u D } σ H
theorem bK:JG X [] QR:=λ_ _ σ H _ I h=>wpAny_execs_nil #[σ,H,I,h]
theorem ar (h1:PS X st t) (h2:JG X rest u):JG X (st :: rest) (TN t u):=by
 intro pins s σ H D I h;refine wpAny_execs_cons (gL (h1 pins s σ H { D with nx:=u D } I h) λf s1 q=>?_);cases f with
 | next =>
  obtain σ'|H'|I'|q:=q;exact h2 pins s1 σ' H' D I' q
 | ret v=>exact q
 | brk=>exact q
 | cont=>exact q
theorem az (h1:PS X st t):JG X [st] t:=by
 intro pins s σ H D I h;refine wpAny_execs_cons (gL (h1 pins s σ H D I h) λf s1 q=>?_);cases f with
 | next=>exact wpAny_execs_nil q
 | ret v=>exact q
 | brk=>exact q
 | cont=>exact q
theorem Inv.quiet {σ:St} (I:Inv X pins σ H s):interactive X.env=false:=by simp [interactive,I.ok.kind]
def QV (te:TE):TS:=λD σ H=>te σ H λ_ H1=>D.nx σ H1
theorem ie (he:PE X e te) (hs:swapsWith e none pos.line X.env=pure false:=by rfl):PS X (.Expr e pos) (QV te):=by
 intro pins s σ H D I h;exact wpAny_Expr_any (gL (he pins s σ H _ I h) λv s1 #[x,H1,I1,r1,q1]=>#[σ,H1,I1,q1]) I.quiet hs
def TQ (te:TE):TS:=λD σ H=>te σ H D.rt
theorem aV (he:PE X e te):PS X (.Return (some e) pos) (TQ te):=by
 intro pins s σ H D I h;exact wpAny_Return_some (gL (he pins s σ H _ I h) λv s1 #[x,H1,I1,r1,q1]=>#[x,σ,H1,I1,r1,q1])
def TY (c:TT) (t u:TS):TS:=λD σ H=>c σ H λb H1=>if b=true then t D σ H1 else u D σ H1
theorem cD (hc:PT X c tc) (ha:JG X a t) (hb:JG X b u):PS X (.If c a b pos) (TY tc t u):=by
 intro pins s σ H D I h;refine wpAny_If (gL (hc pins s σ H _ I h) λd s1 #[H1,I1,q1]=>?_);cases d with
 | true=>exact ha pins s1 σ H1 D I1 q1
 | false=>exact hb pins s1 σ H1 D I1 q1
end
abbrev TG:=V->St->Hp->(St->Hp->Prop)->Prop
abbrev OQ:=List V->St->Hp->(St->Hp->Prop)->Prop
def PG (X:Cx) (target:Expr) (t:TG):Prop :=
 ∀(pins:List (Addr×Obj)) (s:Shared) (σ:St) (H:Hp) (v:V) (u:Value) (Q:St->Hp->Prop),Inv X pins σ H s->RelV v u->t v σ H Q →
  wpAny (model X.prog X.w) X.A (assign target X.env u) (λ_ s'=>∃σ' H',Inv X pins σ' H' s'/\Q σ' H') X.xe s
def UL (X:Cx) (ts:List Expr) (t:OQ):Prop :=
 ∀(pins:List (Addr×Obj)) (s:Shared) (σ:St) (H:Hp) (vs:List V) (us:List Value) (Q:St->Hp->Prop),Inv X pins σ H s->cV vs us->t vs σ H Q →
  wpAny (model X.prog X.w) X.A (assignInOrder ((assignEach ts X.env).map (·.2)) us) (λ_ s'=>∃σ' H',Inv X pins σ' H' s'/\Q σ' H') X.xe s
abbrev JE:=V->V->V->Hp->(Hp->Prop)->Prop
def Tf (X:Cx) (t:JE):Prop :=
 ∀(pins:List (Addr×Obj)) (s:Shared) (σ:St) (H:Hp) (o i v:V) (ov iv u:Value) (Q:Hp->Prop),Inv X pins σ H s->RelV o ov->RelV i iv->RelV v u->t o i v H Q →
  wpAny (model X.prog X.w) X.A (setItem ov iv u) (λ_ s'=>∃H',Inv X pins σ H' s'/\Q H') X.xe s
abbrev UK:=V->V->Hp->VK->Prop
def PIp (X:Cx) (op:Operator) (t:UK):Prop :=
 ∀(pins:List (Addr×Obj)) (s:Shared) (σ:St) (H:Hp) (x y:V) (v u:Value) (Q:VK),Inv X pins σ H s->RelV x v->RelV y u->t x y H Q →
  wpAny (model X.prog X.w) X.A (inplaceOp op v u) (EP X pins σ Q) X.xe s
section
variable {X:Cx} {pos:Pos}
def Kx (i:Nat):TG:=λv σ H Q=>Q (σ.set i (some v)) H
theorem aU {i:Nat} {x:Str} (hN:X.N.Nodup) (hi:X.N[i]?=some x:=by exact rfl) (hx:Loc X.env.scope x:=by exact Or.inl rfl) (hf:X.fn x=true\/X.env.scope.names.lookup x=some .local:=by first | exact .inl rfl | exact .inr rfl | assumption):PG X (.Name x pos) (Kx i):=by
 intro pins s σ H v u Q I r h;exact wpAny_assign_Name (vA I hN hi hx r (λs' I'=>#[_,H,I',h]) hf)
def UE:OQ:=λvs σ H Q=>vs=[]/\Q σ H
def Rh (t:TG) (u:OQ):OQ:=λvs σ H Q=>∃v r,vs=v :: r/\t v σ H λσ' H'=>u r σ' H' Q
theorem i8:UL X [] UE:=by
 intro pins s σ H vs us Q I r h;obtain e|h:=h;subst e;cases r;exact assignInOrder_nil #[σ,H,I,h]
theorem cO {e:Expr} {es:List Expr} {t:TG} {u:OQ} (h1:PG X e t) (h2:UL X es u)
  (hs:(assignEach (e :: es) X.env).map (·.2)=assign e X.env :: (assignEach es X.env).map (·.2):=by rfl):UL X (e :: es) (Rh t u):=by
 intro pins s σ H vs us Q I r h;obtain v|vr|e1|h:=h;subst e1;cases r with
 | cons r rr =>
  rw[hs];refine assignInOrder_cons (gL (h1 pins s σ H _ _ _ I r h) λ_ s1 #[σ1,H1,I1,q1]=>?_);exact h2 pins s1 σ1 H1 _ _ Q I1 rr q1
def S7 (K:FG9) (n:Nat) (t:OQ):TG:=λv σ H Q=>∃a xs,v=.ref a/\jB K H a xs/\xs.9=n/\t xs σ H Q
theorem xY {es:List Expr} {k:Nat} {t:OQ} {n:Nat} (hc:X.calm=true) (h:UL X es t)
  (hn:(assignEach es X.env).9=n:=by rfl) (hst:(assignEach es X.env).findIdx? (·.1)=none:=by rfl):PG X (.Tuple es k pos) (S7 X.K n t):=by
 intro pins s σ H v u Q I r hw;obtain a|xs|e1|hq|hl|hw:=hw;subst e1;cases r;obtain its|rv|ht|hz:=I.tuple hq;refine assign_Tuple_tuple (I.ok.hd hc) ht (by simp [hn,<- hl,rv.9]) hst λh' hx=>?_
 have I1:Inv X pins σ H { s with heap:=h' }:=I.kept (t':=s.toks) λb o e=>hx b o (cg (Heap.lt_size e)) e
 exact h pins _ σ H xs _ Q I1 (by simpa using rv) hw
def UD (to ti:TE) (t:JE):TG:=λv σ H Q=>to σ H λo H1=>ti σ H1 λi H2=>t o i v H2 λH3=>Q σ H3
theorem iB {o i : Expr} {to ti : TE} {t : JE} (ho : PE X o to) (hi : PE X i ti) (hs : Tf X t)
    (ha : ∀ v, assign (.Subscript o i pos) X.env v = (do
      let ov <- holding [v] (eval o X.env)
      let iv <- holding [v, ov] (eval i X.env)
      standAt pos
      holding [v, ov, iv] (setItem ov iv v)
      release [v, ov, iv] []) := by intro _; rfl) : PG X (.Subscript o i pos) (UD to ti t) := by
  intro pins s σ H v u Q I r h;rw [ha];refine wpAny_bind (wpAny_holding (gL (ho pins s σ H _ I h) λov s1 #[x, H1, I1, r1, q1] => ?_));refine wpAny_bind (wpAny_holding (gL (hi pins s1 σ H1 _ I1 q1) λiv s2 #[y, H2, I2, r2, q2] => ?_));refine wpAny_bind (wpAny_standAt (wpAny_bind (wpAny_holding (gL (hs pins s2 σ H2 x y v ov iv u _ I2 r1 r2 r q2) λ_ s3 #[H3, I3, q3] => ?_))));exact wpAny_release #[σ, H3, I3, q3]
def O8 (te:TE) (g:TG):TS:=λD σ H=>te σ H λx H1=>g x σ H1 D.nx
theorem gv {tg e:Expr} {te:TE} {g:TG} (he:PE X e te) (hg:PG X tg g) (hs:swapsWithSole [tg] e pos.line X.env=pure false:=by rfl) (hw:swappedStores [tg] e X.env=pure none:=by rfl)
  (h1:(assignEach [tg] X.env).map (·.2)=[assign tg X.env]:=by rfl):PS X (.Assign [tg] e pos) (O8 te g):=by
 intro pins s σ H D I h;refine wpAny_Assign_stores (gL (he pins s σ H _ I h) λv s1 #[x,H1,I1,r1,q1]=>?_) hs hw;rw[h1];exact gL (hg pins s1 σ H1 x v _ I1 r1 q1) λ_ s2 q=>q
theorem aW {i:Nat} {x:Str} {e:Expr} {te:TE} {pos':Pos} (hN:X.N.Nodup) (hi:X.N[i]?=some x) (hx:Loc X.env.scope x) (he:PE X e te) (hs:swapsWith e (some (.Name x pos')) pos.line X.env=pure false:=by rfl) (hf:X.fn x=true\/X.env.scope.names.lookup x=some .local:=by first | exact .inl rfl | exact .inr rfl | assumption) :
  PS X (.Assign [.Name x pos'] e pos) (O8 te (Kx i)):=by
 intro pins s σ H D I h;refine wpAny_Assign_Name (gL (he pins s σ H _ I h) λv s1 #[y,H1,I1,r1,q1]=>?_) hs;exact vA I1 hN hi hx r1 (λs2 I2=>#[_,H1,I2,q1]) hf
def TR (i j:Nat) (ta:TA):TS:=λD σ H=>ta σ H λvs H1=>∃v w,vs=[v,w]/\D.nx ((σ.set i (some v)).set j (some w)) H1
theorem Nk {i j:Nat} {x y:Str} {a b:Expr} {ta:TA} {px py pt:Pos} {kt k2 pt2} (hc:X.calm=true) (hN:X.N.Nodup) (hi:X.N[i]?=some x) (hj:X.N[j]?=some y) (hij:i≠j)
  (hx:X.env.scope.names.lookup x=some .local) (hy:X.env.scope.names.lookup y=some .local) (ha:PA X [a,b] ta)
  (hw:swappedStores [.Tuple [.Name x px,.Name y py] kt pt] (.Tuple [a,b] k2 pt2) X.env=pure (some [x,y]))
  (hs:swapsWithSole [.Tuple [.Name x px,.Name y py] kt pt] (.Tuple [a,b] k2 pt2) pos.line X.env=pure false:=by rfl) :
  PS X (.Assign [.Tuple [.Name x px,.Name y py] kt pt] (.Tuple [a,b] k2 pt2) pos) (TR i j ta):=by
 intro pins s σ H D I h;rw[exec_Assign_arm];refine wpAny_bind (wpAny_standAt ?_);rw[hs];refine wpAny_bind (wpAny_pure ?_);rw[if_neg ()];refine wpAny_bind (Tuple_ (gL (ha _ pins s σ H _ I h) λus s1 #[vs,H1,I1,r1,q1]=>?_));obtain v|w|e1|q1:=q1;subst e1
 obtain ⟨u1,u2,rfl,rv,rw'⟩:∃u1 u2,us=[u1,u2]/\RelV v u1/\RelV w u2:=by
  cases r1 with
  | cons p q =>
   cases q with
   | cons p' q' =>
    cases q';exact #[_,_,rfl,p,p']
 refine wpAny_newObj_type ?_ (by show 2<=sizeLine;decide);have I2:Inv X pins σ H1 { s1 with heap:=s1.heap.push { cls:=.type "tuple",data:=.seq [u1,u2].5 } }:=I1.kept (t':=s1.toks) λb o e=>Heap.get?_push_of_some _ e
 rw[hw];refine wpAny_bind (wpAny_pure ?_);show wpAny (model X.prog X.w) X.A (do rule "assign.swapped-stores";let items <- unpackItems (.ref s1.6) 2 none;assignInOrder [λv=>bindName X.env y v,λv=>bindName X.env x v] items.reverse;pure Flow.next) _ _ _
 refine wpAny_bind (wpAny_rule (wpAny_bind (unpackItems_tuple (items:=[u1,u2].toArray) (I.ok.hd hc) (IsTup.new s1.heap _) λh' hx'=>?_)));have I3:=I2.kept (h':=h') (t':=s1.toks) λb o e=>hx' b o (cg (Heap.lt_size e)) e
 show wpAny _ _ (assignInOrder [λv=>bindName X.env y v,λv=>bindName X.env x v] [u2,u1] >>= λ_=>pure Flow.next) _ _ _
 refine wpAny_bind (assignInOrder_cons (wpAny_bindName (vA I3 hN hj (.inl hy) rw' (λs2 I4=>?_) (.inr hy))));refine assignInOrder_cons (wpAny_bindName (vA I4 hN hi (.inl hx) rv (λs3 I5=>assignInOrder_nil (wpAny_pure ?_)) (.inr hx)));rw[List.set_comm _ _ (Ne.symm hij)] at I5;exact #[_,H1,I5,q1]
def QW (to ti te:TE) (tget:V->V->Hp->VK->Prop) (tip:UK) (tset:JE):TS:=λD σ H=>to σ H λo H1=>ti σ H1 λi H2=>tget o i H2 λx H3=>te σ H3 λy H4=>tip x y H4 λz H5=>tset o i z H5 λH6=>D.nx σ H6
def UM (X:Cx) (t:V->V->Hp->VK->Prop):Prop :=
 ∀(pins:List (Addr×Obj)) (s:Shared) (σ:St) (H:Hp) (o i:V) (ov iv:Value) (Q:VK),Inv X pins σ H s->RelV o ov->RelV i iv->t o i H Q →
  wpAny (model X.prog X.w) X.A (getItem ov iv) (EP X pins σ Q) X.xe s
theorem Qa {o i e:Expr} {to ti te:TE} {tget:V->V->Hp->VK->Prop} {tip:UK} {tset:JE} {op:Operator} {tpos:Pos} (ho:PE X o to) (hi:PE X i ti) (hg:UM X tget) (he:PE X e te) (hp:PIp X op tip) (hs:Tf X tset)
  (ha:∀ov iv new,augStore i ov iv new=(do holding [new,ov,iv] (setItem ov iv new);release [new,ov,iv] [];pure .next):=by intros;rfl):PS X (.AugAssign (.Subscript o i tpos) op e pos) (QW to ti te tget tip tset):=by
 intro pins s σ H D I h;refine wpAny_AugAssign_SubscriptAny (gL (ho pins s σ H _ I h) λov s1 #[x1,H1,I1,r1,q1]=>?_) ha;refine gL (hi pins s1 σ H1 _ I1 q1) λiv s2 #[x2,H2,I2,r2,q2]=>?_
 refine gL (hg pins s2 σ H2 x1 x2 ov iv _ I2 r1 r2 q2) λold s3 #[x3,H3,I3,r3,q3]=>?_
 refine gL (he pins s3 σ H3 _ I3 q3) λv s4 #[x4,H4,I4,r4,q4]=>?_
 refine gL (hp pins s4 σ H4 x3 x4 old v _ I4 r3 r4 q4) λnew s5 #[x5,H5,I5,r5,q5]=>?_
 exact gL (hs pins s5 σ H5 x1 x2 x5 ov iv new _ I5 r1 r2 r5 q5) λ_ s6 #[H6,I6,q6]=>#[σ,H6,I6,q6]
def ipI (f:Int->Int->Int):UK:=λx y H Q=>∃i j,x=.int i/\y=.int j/\Q (.int (f i j)) H
theorem S3:PIp X .Add (ipI λi j=>i+j):=by
 intro pins s σ H x y v u Q I r1 r2 h;obtain i|j|e1|e2|q:=h;subst e1;subst e2;obtain t|rfl:=r1;obtain t'|rfl:=r2;exact iadd_int #[.int _,H,I.tok _,#[_,rfl],q]
end
section
variable {X:Cx} {pos:Pos}
def MD (c:TT) (tb:TS):TS:=λD σ H=>∃W:Nat->St->Hp->Prop,(∃m,W m σ H)/\∀m σ H,W m σ H →
 c σ H λb H1=>if b=true then ∃N:St->Hp->Prop,(∀σ' H',N σ' H'->∃m',m' < m/\W m' σ' H')/\tb { D with nx:=N,ct:=N,bk:=D.nx } σ H1 else D.nx σ H1
theorem AZ (hp:PassesOwn (model X.prog X.w) X.A X.env X.xe) (hc:PT X c tc) (hb:JG X body tb):PS X (.While c body [] pos) (MD tc tb):=by
 intro pins s σ H D I h;obtain W|⟨m0,w0⟩|turn:=h;refine wpAny_While (codeAny_whileLoop (λn s'=>∃σ' H',Inv X pins σ' H' s'/\W n σ' H') ?_ m0 #[σ,H,I,w0]);rintro n s1 ⟨σ1,H1,I1,w1⟩;refine wpAny_passesOwn hp (gL (hc pins s1 σ1 H1 _ I1 (turn n σ1 H1 w1)) λb s2 #[H2,I2,q2]=>?_);cases b with
 | true =>
  obtain N|hN|q2:=q2;rw[if_pos rfl];refine wpAny_passesOwn hp (gL (hb pins s2 σ1 H2 _ I2 q2) λf s3 q3=>?_);cases f with
  | next =>
   obtain σ3|H3|I3|n3:=q3;obtain m'|hm|w3:=hN σ3 H3 n3;exact #[m',hm,σ3,H3,I3,w3]
  | cont =>
   obtain σ3|H3|I3|n3:=q3;obtain m'|hm|w3:=hN σ3 H3 n3;exact #[m',hm,σ3,H3,I3,w3]
  | brk=>exact q3
  | ret v=>exact q3
 | false =>
  rw[if_neg bo];exact wpAny_execs_nil #[σ1,H2,I2,q2]
end
structure It where
 go:Nat->Hp->Prop
 yld:Nat->Hp->V->Hp->Prop
 stop:Nat->Hp->Prop
def kH (X:Cx) (pins:List (Addr×Obj)) (H:Hp) (b:Addr):Prop :=
 H b=none/\b≠X.env.locals/\b∉X.fs/\(b∈X.ex\/X.s₀.6<=b)/\(∀x c,X.env.cells.lookup x=some c->c≠b)/\∀p∈X.pn++pins,p.1≠b
theorem Inv.fpOk {σ:St} {b:Addr} (I:Inv X pins σ H s) (hb:s.6<=b) (hn:H' b=none):kH X pins H' b:=by
 refine #[hn,La (bF I.lt hb),I.nofs hb,.inr (ag I.sz hb),λx c e z=>?_,λp hp z=>?_]
 ·obtain v|q:=I.cell x c e;exact absurd (bF q.lt (by rw[z];exact hb)) (fO _)
 ·exact absurd (bF (Heap.lt_size (I.pin p hp).1) (by rw[z];exact hb)) (fO _)
structure Turn (P:Program) (w:World) (K:FG9) (tg:Expr) (J:It) (fp:List Addr) (it:Addr) (tn:Nat->Heap->Prop):Prop where
 mem:it∈fp
 obj:∀i h,tn i h->∀b∈fp,∃o,h.get? b=some o/\∀v,o.data≠.cell v
 keep:∀i h h',tn i h->(∀b∈fp,∀o,h.get? b=some o->h'.get? b=some o)->tn i h'
 item:∀(X:Cx),X.prog=P->X.w=w->X.K=K->X.calm=true->∀(i:Nat) (pins:List (Addr×Obj)) (s:Shared) (σ:St) (H:Hp) (E:Value->Shared->Prop),Inv X pins σ H s->(∀b∈fp,kH X pins H b)->tn i s.8->J.go i H →
  wpAny (model P w) X.A (pyNext (.ref it)) (λr s1=>∃u,r=some u /\
   wpAny (model P w) X.A (letOwnedTupleGo tg (.ref it) u) (λ_ s2=>∃x H',Inv X pins σ H' s2/\RelV x u/\J.yld i H x H'/\tn (i+1) s2.8/\∀b∈fp,H' b=none) E s1) E s
 done:∀(X:Cx),X.prog=P->X.w=w->X.K=K->X.calm=true->∀(i:Nat) (pins:List (Addr×Obj)) (s:Shared) (σ:St) (H:Hp) (E:Value->Shared->Prop),Inv X pins σ H s->(∀b∈fp,kH X pins H b)->tn i s.8->J.stop i H →
  wpAny (model P w) X.A (pyNext (.ref it)) (λr s1=>r=none/\Inv X pins σ H s1) E s
 self:∀(A:Around) (i:Nat) (s:Shared) (Q:Value->Shared->Prop) (E:Value->Shared->Prop),tn i s.8->Q (.ref it) s->wpAny (model P w) A (pyIter (.ref it)) Q E s
abbrev TI:=St->Hp->(It->Hp->Prop)->Prop
def PIE (X:Cx) (pins:List (Addr×Obj)) (σ:St) (tg:Expr) (R:It->Hp->Prop) (itv:Value) (s2:Shared):Prop :=
 ∃(it:Addr) (fp:List Addr) (tn:Nat->Heap->Prop) (J:It) (H':Hp),itv=.ref it/\Inv X pins σ H' s2/\Turn X.prog X.w X.K tg J fp it tn/\tn 0 s2.8/\(∀b∈fp,kH X pins H' b)/\R J H'
def PI (X:Cx) (tg iter:Expr) (wi:TI):Prop :=
 ∀(pins:List (Addr×Obj)) (s:Shared) (σ:St) (H:Hp) (R:It->Hp->Prop),Inv X pins σ H s->wi σ H R →
  wpAny (model X.prog X.w) X.A (eval iter X.env) (λv s1=>wpAny (model X.prog X.w) X.A (pyIter v) (PIE X pins σ tg R) X.xe s1) X.xe s
theorem Kw (ho:s.heap.get? it=some o) (hc:o.cls=.type n) (hd:o.data=.fields vs)
  (hn:["enumerate","zip","dict_itemiterator","dict_reverseitemiterator","odict_iterator","itertools.zip_longest","itertools.pairwise"].contains n=false) (hQ:Q .unit s):wpAny M A (letOwnedTupleGo tg (.ref it) u) Q E s:=by
 unfold letOwnedTupleGo
 cases tg <;> first
  | exact wpAny_pure hQ
  | (cases u <;> first | exact wpAny_pure hQ | (refine wpAny_bind (wpAny_load ho ?_);rw[hc,hd];show wpAny M A (if (["enumerate","zip","dict_itemiterator","dict_reverseitemiterator","odict_iterator","itertools.zip_longest","itertools.pairwise"].contains n && vs[0]? == some (rawInt _))=true then _ else _) Q E s;rw[if_neg (by intro h;rw[hn,Bool.false_and] at h;cases h)];exact wpAny_pure hQ))
def OR (K:FG9) (a:Addr):It :=
 #[λi H=>∃xs x,bR K H a xs/\xs[i]?=some x,λi H x H'=>H'=H/\∀xs,bR K H a xs->xs[i]?=some x,λi H=>∃xs,bR K H a xs/\xs.9<=i]
def QJ (K:FG9) (a:Addr):It :=
 #[λi H=>∃xs x,jB K H a xs/\xs[i]?=some x,λi H x H'=>H'=H/\∀xs,jB K H a xs->xs[i]?=some x,λi H=>∃xs,jB K H a xs/\xs.9<=i]
def Iw (lo:Int) (n:Nat):It:=#[λi _=>i < n,λi H x H'=>H'=H/\x=.int (lo+i),λi _=>n<=i]
theorem C0 {P:Program} {w:World} {K:FG9} {tg:Expr} (a it:Addr):Turn P w K tg (OR K a) [it] it (λi h=>h.IsListIter it a i) where
 mem:=by simp
 obj:=λi h st b hb=>by
  have e:b=it:=by simpa using hb
  subst e;obtain o|e|c|d:=st;exact #[o,e,λv z=>by rw[d] at z;cases z]
 keep:=λi h h' st k=>st.at λo e=>k it (by simp) o e
 item:=by
  intro X hP hw hK hc i pins s σ H E I hf st hg;subst hP hw hK;obtain xs|x|hq|hx:=hg;obtain its|rv|p|hz:=I.list hq;obtain u|hu|ru:=rv.get hx;obtain f0|f1|f2|f3|f4|f5:=hf it (by simp);refine wpAny_pyNext_list_item st p.isList (x:=u) (by simpa using hu) λh' st' sb=>?_
  have I1:Inv X pins σ H { s with heap:=h' }:=I.turned (t':=s.toks) (λb o hb e=>(sb.2 b hb).trans e) f0 f1 f3 f4 f5;obtain o|e|c|d:=id st';exact #[u,rfl,Kw (s:={ s with heap:=h' }) e c d () ⟨x,H,I1,ru,⟨rfl,λys hy=>by rw[I.list_inj hy hq];exact hx⟩,st',λb hb=>(hf b hb).1⟩]
 done:=by
  intro X hP hw hK hc i pins s σ H E I hf st hg;subst hP hw hK;obtain xs|hq|hx:=hg;obtain its|rv|p|hz:=I.list hq;obtain f0|f1|f2|f3|f4|f5:=hf it (by simp);have hl:=rv.9;exact wpAny_pyNext_list_end (I.ok.hd hc) st p.isList (by simp;lia) λh' eb=>#[rfl,I.turned (t':=s.toks) (λb o hb e=>eb b o hb e) f0 f1 f3 f4 f5]
 self:=λ_ _ _ _ _ st h=>wpAny_pyIter_listiter st h
theorem Ak {P:Program} {w:World} {K:FG9} {tg:Expr} (a it:Addr):Turn P w K tg (QJ K a) [it] it (λi h=>h.IsTupleIter it a i) where
 mem:=by simp
 obj:=λi h st b hb=>by
  have e:b=it:=by simpa using hb
  subst e;obtain o|e|c|d:=st;exact #[o,e,λv z=>by rw[d] at z;cases z]
 keep:=λi h h' st k=>st.at λo e=>k it (by simp) o e
 item:=by
  intro X hP hw hK hc i pins s σ H E I hf st hg;subst hP hw hK;obtain xs|x|hq|hx:=hg;obtain its|rv|p|hz:=I.tuple hq;obtain u|hu|ru:=rv.get hx;obtain f0|f1|f2|f3|f4|f5:=hf it (by simp);refine wpAny_pyNext_tuple_item st (show s.heap.IsTuple a its.toArray from p) (x:=u) (by simpa using hu) λh' st' sb=>?_
  have I1:Inv X pins σ H { s with heap:=h' }:=I.turned (t':=s.toks) (λb o hb e=>(sb.2 b hb).trans e) f0 f1 f3 f4 f5;obtain o|e|c|d:=id st';exact #[u,rfl,Kw (s:={ s with heap:=h' }) e c d () ⟨x,H,I1,ru,⟨rfl,λys hy=>by rw[I.tuple_inj hy hq];exact hx⟩,st',λb hb=>(hf b hb).1⟩]
 done:=by
  intro X hP hw hK hc i pins s σ H E I hf st hg;subst hP hw hK;obtain xs|hq|hx:=hg;obtain its|rv|p|hz:=I.tuple hq;obtain f0|f1|f2|f3|f4|f5:=hf it (by simp);have hl:=rv.9;exact wpAny_pyNext_tuple_end (I.ok.hd hc) st (show s.heap.IsTuple a its.toArray from p) (by simp;lia) λh' eb=>#[rfl,I.turned (t':=s.toks) (λb o hb e=>eb b o hb e) f0 f1 f3 f4 f5]
 self:=λ_ _ _ _ _ st h=>wpAny_pyIter_tupleiter st h
theorem IG {P:Program} {w:World} {K:FG9} {tg:Expr} (it:Addr) (lo:Int) (n:Nat):Turn P w K tg (Iw lo n) [it] it (λi h=>IsRangeIter h it (lo+(i:Nat)*1) ((n:Int) - (i:Nat)) 1) where
 mem:=by simp
 obj:=λi h st b hb=>by
  have e:b=it:=by simpa using hb
  subst e
  exact #[_,st,λv z=>by
   have z':Data.fields _=Data.cell v:=z;cases z']
 keep:=λi h h' st k=>k it (by simp) _ st
 item:=by
  intro X hP hw hK hc i pins s σ H E I hf st hg;subst hP hw hK;obtain f0|f1|f2|f3|f4|f5:=hf it (by simp);have W:=Walks.range (prog:=X.prog) (w:=X.w) (I.ok.hd hc) it lo 1 n;refine W.item i s _ _ hg st λv h' tk hv st' kk=>?_
  obtain t|rfl:=hv;have I1:Inv X pins σ H { s with heap:=h',toks:=tk }:=I.turned (λb o hb e=>kk b o (by simpa using hb) e) f0 f1 f3 f4 f5;refine #[_,rfl,Kw (s:={ s with heap:=h',toks:=tk }) (n:="range_iterator") st' rfl rfl () ⟨.int (lo+i),H,I1,⟨t,?_⟩,⟨rfl,rfl⟩,st',λb hb=>(hf b hb).1⟩];rw[Int.mul_one]
 done:=by
  intro X hP hw hK hc i pins s σ H E I hf st hg;subst hP hw hK;obtain f0|f1|f2|f3|f4|f5:=hf it (by simp);exact wpAny_pyNext_range_end (I.ok.hd hc) st (by have:n<=i:=hg;lia) λh' eb=>#[rfl,I.turned (t':=s.toks) (λb o hb e=>eb b o hb e) f0 f1 f3 f4 f5]
 self:=λ_ _ _ _ _ st h=>wpAny_pyIter_rangeiter st h
section
variable {X:Cx} {tg:Expr}
def NZ (K:FG9) (tl:TE):TI:=λσ H R=>tl σ H λx H1=>∃a,x=.ref a/\(∃xs,bR K H1 a xs)/\R (OR K a) H1
def UB (K:FG9) (tl:TE):TI:=λσ H R=>tl σ H λx H1=>∃a,x=.ref a/\(∃xs,jB K H1 a xs)/\R (QJ K a) H1
theorem cE (hl:PE X l tl):PI X tg l (NZ X.K tl):=by
 intro pins s σ H R I h;refine gL (hl pins s σ H _ I h) λv s1 #[x,H1,I1,r1,q1]=>?_
 obtain a|e|⟨xs,hq⟩|q:=q1;subst e;cases r1;obtain its|rv|p|hz:=I1.list hq;refine wpAny_pyIter_list p.isList ?_;refine #[s1.6,[s1.6],_,_,H1,rfl,I1.kept (t':=s1.toks) λb o e=>Heap.get?_push_of_some _ e,C0 a _,#[_,Heap.get?_push_size _ rfl,rfl,rfl],λb hb=>?_,q];have e:b=s1.6:=by simpa using hb
 subst e;exact I1.fpOk (ao _) (I1.hok.fresh (ao _))
theorem Nt (hl:PE X l tl):PI X tg l (UB X.K tl):=by
 intro pins s σ H R I h;refine gL (hl pins s σ H _ I h) λv s1 #[x,H1,I1,r1,q1]=>?_
 obtain a|e|⟨xs,hq⟩|q:=q1;subst e;cases r1;obtain its|rv|p|hz:=I1.tuple hq;refine wpAny_pyIter_tuple (show s1.heap.IsTuple a its.toArray from p) ?_;refine #[s1.6,[s1.6],_,_,H1,rfl,I1.kept (t':=s1.toks) λb o e=>Heap.get?_push_of_some _ e,Ak a _,#[_,Heap.get?_push_size _ rfl,rfl,rfl],λb hb=>?_,q];have e:b=s1.6:=by simpa using hb
 subst e;exact I1.fpOk (ao _) (I1.hok.fresh (ao _))
theorem Gv {σ:St} {lo hi:Int} (I:Inv X pins σ H s) (h1:-(2^62)<=lo) (h2:lo < 2^62) (h3:-(2^62)<=hi) (h4:hi < 2^62)
  (q:R (Iw lo (hi - lo).toNat) H):wpAny (model X.prog X.w) X.A (pyIter (.ref s.6)) (PIE X pins σ tg R) E { s with heap:=s.heap.push { cls:=.type "range",data:=.fields [.int lo t,.int hi u,.int 1 v].toArray },toks:=tk }:=by
 refine wpAny_pyIter_range (IsRange.new ..) (small_one h1 h2 h3 h4) ?_;have I1:Inv X pins σ H { s with heap:=s.heap.push { cls:=.type "range",data:=.fields [.int lo t,.int hi u,.int 1 v].toArray },toks:=tk }:=I.kept λb o e=>Heap.get?_push_of_some _ e
 refine #[(s.heap.push { cls:=.type "range",data:=.fields [.int lo t,.int hi u,.int 1 v].toArray }).objs.size,[(s.heap.push { cls:=.type "range",data:=.fields [.int lo t,.int hi u,.int 1 v].toArray }).objs.size],_,_,H,rfl,
  I1.kept (t':=tk) λb o e=>Heap.get?_push_of_some _ e,IG _ lo (hi - lo).toNat,?_,λb hb=>?_,q]
 ·have e1:lo+((0:Nat):Int)*1=lo:=by simp
  have e2:(((hi - lo).toNat:Nat):Int) - ((0:Nat):Int)=Builtin.Range.rangeSize lo hi 1:=by rw[rangeSize_one];split <;> lia
  show IsRangeIter _ _ (lo+((0:Nat):Int)*1) ((((hi - lo).toNat:Nat):Int) - ((0:Nat):Int)) 1
  rw[e1,e2];exact Heap.get?_push_size _ rfl
 ·have e:b=(s.heap.push { cls:=.type "range",data:=.fields [.int lo t,.int hi u,.int 1 v].toArray }).objs.size:=by simpa using hb
  subst e;exact I1.fpOk (ao _) (I1.hok.fresh (ao _))
def Q9 (ta:TA):TI:=λσ H R=>ta σ H λvs H1=>∃j:Int,vs=[.int j]/\-(2^62)<=j/\j < 2^62/\R (Iw 0 j.toNat) H1
def Q8 (ta:TA):TI:=λσ H R=>ta σ H λvs H1=>∃i j:Int,vs=[.int i,.int j]/\(-(2^62)<=i/\i < 2^62/\-(2^62)<=j/\j < 2^62)/\R (Iw i (j - i).toNat) H1
theorem cz {a:Expr} {ta:TA} {p pos:Pos} (hg:Gl X "range") (hm:X.mg "range"=none) (ha:PA X [a] ta) (hs:starEach [a] X.env=[(false,eval a X.env)]:=by rfl):PI X tg (.Call (.Name "range" p) [a] [] pos) (Q9 ta):=by
 intro pins s σ H R I h;refine Call_ (j7 I hg hm boot_range (PyProof.Rows.callWith_type1 (gL (ha pos pins s σ H _ I h) λus s1 #[vs,H1,I1,r1,q1]=>?_) hs rfl));obtain j|e|q1|q2|q:=q1;subst e;cases r1 with
 | cons r rr =>
  cases rr;obtain t|rfl:=r;exact call_range_1 (Gv I1 () () q1 q2 (by simpa using q))
theorem LB {a b:Expr} {ta:TA} {p pos:Pos} (hg:Gl X "range") (hm:X.mg "range"=none) (ha:PA X [a,b] ta) (hs:starEach [a,b] X.env=[(false,eval a X.env),(false,eval b X.env)]:=by rfl) (hs2:starEach [b] X.env=[(false,eval b X.env)]:=by rfl) :
  PI X tg (.Call (.Name "range" p) [a,b] [] pos) (Q8 ta):=by
 intro pins s σ H R I h;refine Call_ (j7 I hg hm boot_range (PyProof.Rows.callWith_type1 (gL (ha pos pins s σ H _ I h) λus s1 #[vs,H1,I1,r1,q1]=>?_) (by rw[hs,hs2]) (by rw[hs2];rfl)));obtain i|j|e|⟨q1,q2,q3,q4⟩|q:=q1;subst e;cases r1 with
 | cons r rr =>
  cases rr with
  | cons r' rr =>
   cases rr;obtain t|rfl:=r;obtain t'|rfl:=r';exact call_range_2 (Gv I1 q1 q2 q3 q4 q)
def TZ (wi:TI) (g:TG) (tb:TS):TS:=λD σ H=>wi σ H λJ H1=>∃W:Nat->Nat->St->Hp->Prop,(∃m,W 0 m σ H1)/\∀i m σ H,W i m σ H →
 (J.stop i H/\D.nx σ H)\/(J.go i H/\∃N:St->Hp->Prop,(∀σ' H',N σ' H'->∃m',m' < m/\W (i+1) m' σ' H')/\∀x H',J.yld i H x H'->g x σ H' λσ2 H2=>tb { D with nx:=N,ct:=N,bk:=D.nx } σ2 H2)
def A1 (fp:List Addr) (h:Heap):List (Addr×Obj):=fp.filterMap λb=>(h.get? b).map λo=>(b,o)
theorem qi (hb:b∈fp) (e:h.get? b=some o):(b,o)∈A1 fp h:=List.mem_filterMap.mpr #[b,hb,by rw[e];rfl]
theorem LL (hp:p∈A1 fp h):p.1∈fp/\h.get? p.1=some p.2:=by
 obtain b|hb|e:=List.mem_filterMap.mp hp;cases q:h.get? b with
 | none=>rw[q] at e;cases e
 | some o =>
  rw[q] at e;have e':(b,o)=p:=cn e;subst e';exact #[hb,q]
theorem Inv.pinned {σ:St} (I:Inv X pins σ H s) (hf:∀b∈fp,kH X pins H b) (ho:∀b∈fp,∃o,s.heap.get? b=some o/\∀v,o.data≠.cell v):Inv X (pins++A1 fp s.8) σ H s :=
 I.pins_of λp hp=>(aA.mp hp).elim (λz=>I.pin p (bH _ z)) λz=>by
  obtain hb|e:=LL z;obtain f0|f1|f2|_:=hf p.1 hb;obtain o|e'|d:=ho p.1 hb;rw[e] at e';cases e';exact #[e,f0,f1,f2,d]
theorem Inv.unpinned {σ:St} (I:Inv X (pins++pl) σ H s):Inv X pins σ H s:=I.pins_of λp hp=>I.pin p (bH _ (dG _ hp))
theorem dY {iter:Expr} {body:List Stmt} {wi:TI} {g:TG} {tb:TS} {pos:Pos} (hp:PassesOwn (model X.prog X.w) X.A X.env X.xe) (hc:X.calm=true) (hi:PI X tg iter wi) (hg:PG X tg g) (hb:JG X body tb)
  (hs:∀x,foldedSetIterable iter X.env x=pure x:=by intro _;rfl):PS X (.For tg iter body [] pos) (TZ wi g tb):=by
 intro pins s σ H D I h;refine wpAny_For (gL (hi pins s σ H _ I h) λv s1 h1=>gL h1 λitv s2 h2=>?_) hs;obtain it|fp|tn|J|H2|e|I2|T|st2|f2|W|⟨m0,w0⟩|turn:=h2;subst e;have stat:∀{H':Hp},(∀b∈fp,H' b=none)->∀b∈fp,kH X pins H' b:=λhn b hb=>#[hn b hb,(f2 b hb).2]
 refine codeAny_forLoop_any (λn s'=>∃i σ' H',Inv X pins σ' H' s'/\tn i s'.8/\(∀b∈fp,H' b=none)/\W i n σ' H') ?_ m0 #[0,σ,H2,I2,st2,λb hb=>(f2 b hb).1,w0];rintro n s3 ⟨i,σ3,H3,I3,st3,fr3,w3⟩;rcases turn i n σ3 H3 w3 with ⟨stop,qn⟩ | ⟨go,N,hN,step⟩
 ·refine wpAny_passesOwn hp (gL (T.done X rfl rfl rfl hc i pins s3 σ3 H3 X.xe I3 (stat fr3) st3 stop) λr s4 #[hr,I4]=>?_);subst hr;exact wpAny_execs_nil #[σ3,H3,I4,qn]
 ·refine wpAny_passesOwn hp (gL (T.item X rfl rfl rfl hc i pins s3 σ3 H3 X.xe I3 (stat fr3) st3 go) λr s4 #[u,hr,h4]=>?_);subst hr;refine wpAny_passesOwn hp (gL h4 λ_ s5 #[x,H5,I5,r5,y5,st5,fr5]=>?_);have I5':=I5.pinned (stat fr5) (T.obj _ _ st5);refine wpAny_passesOwn hp (gL (hg _ s5 σ3 H5 x u _ I5' r5 (step x H5 y5)) λ_ s6 #[σ6,H6,I6,q6]=>?_);refine wpAny_passesOwn hp (gL (hb _ s6 σ6 H6 _ I6 q6) λf s7 q7=>?_)
  have again:∀{σ7:St} {H7:Hp},Inv X (pins++A1 fp s5.8) σ7 H7 s7->N σ7 H7->∃m,m < n/\∃i σ' H',Inv X pins σ' H' s7/\tn i s7.8/\(∀b∈fp,H' b=none)/\W i m σ' H':=λ{σ7 H7} I7 n7=>by
   obtain m'|hm|w7:=hN σ7 H7 n7;refine #[m',hm,i+1,σ7,H7,I7.unpinned,T.keep _ _ _ st5 λb hb o e=>(I7.pin (b,o) (bH _ (bH _ (qi hb e)))).1,λb hb=>?_,w7];obtain o|e|d:=T.obj _ _ st5 b hb;exact (I7.pin (b,o) (bH _ (bH _ (qi hb e)))).2.1
  cases f with
  | next=>obtain σ7|H7|I7|n7:=q7;exact again I7 n7
  | cont=>obtain σ7|H7|I7|n7:=q7;exact again I7 n7
  | brk=>obtain σ7|H7|I7|q7:=q7;exact #[σ7,H7,I7.unpinned,q7]
  | ret v=>obtain x7|σ7|H7|I7|r7|q7:=q7;exact #[x7,σ7,H7,I7.unpinned,r7,q7]
end
theorem iq {K:FG9} {g:TG} {tb:TS} {D:Ends} (Pv:Nat->St->Hp->Prop) (h0:Pv 0 σ H) (hl:∀i σ H,i<=xs.9->Pv i σ H->bR K H a xs)
  (hs:∀i x σ H,xs[i]?=some x->Pv i σ H->g x σ H λσ2 H2=>tb { D with nx:=Pv (i+1),ct:=Pv (i+1),bk:=D.nx } σ2 H2) (hd:∀σ H,Pv xs.9 σ H->D.nx σ H) :
  ∃W:Nat->Nat->St->Hp->Prop,(∃m,W 0 m σ H)/\∀i m σ H,W i m σ H →
   ((OR K a).stop i H/\D.nx σ H)\/((OR K a).go i H/\∃N:St->Hp->Prop,(∀σ' H',N σ' H'->∃m',m' < m/\W (i+1) m' σ' H')/\∀x H',(OR K a).yld i H x H'->g x σ H' λσ2 H2=>tb { D with nx:=N,ct:=N,bk:=D.nx } σ2 H2):=by
 refine #[λi m σ H=>m=xs.9 - i/\i<=xs.9/\Pv i σ H,#[xs.9,by simp,bg _,h0],?_];rintro i m σ H ⟨rfl,hi,p⟩;have q:=hl i σ H hi p;by_cases hlt:i < xs.9
 ·refine .inr #[#[xs,xs[i],q,by simp [hlt]],Pv (i+1),λσ' H' p'=>#[xs.9 - (i+1),(),rfl,hlt,p'],λx H' y=>?_];obtain e|y:=y;subst e;exact hs i x σ _ (y xs q) p
 ·have e:i=xs.9:=()
  subst e;exact .inl #[#[xs,q,ao _],hd σ H p]
theorem E6 {K:FG9} {g:TG} {tb:TS} {D:Ends} (Pv:Nat->St->Hp->Prop) (h0:Pv 0 σ H) (hl:∀i σ H,i<=xs.9->Pv i σ H->jB K H a xs)
  (hs:∀i x σ H,xs[i]?=some x->Pv i σ H->g x σ H λσ2 H2=>tb { D with nx:=Pv (i+1),ct:=Pv (i+1),bk:=D.nx } σ2 H2) (hd:∀σ H,Pv xs.9 σ H->D.nx σ H) :
  ∃W:Nat->Nat->St->Hp->Prop,(∃m,W 0 m σ H)/\∀i m σ H,W i m σ H →
   ((QJ K a).stop i H/\D.nx σ H)\/((QJ K a).go i H/\∃N:St->Hp->Prop,(∀σ' H',N σ' H'->∃m',m' < m/\W (i+1) m' σ' H')/\∀x H',(QJ K a).yld i H x H'->g x σ H' λσ2 H2=>tb { D with nx:=N,ct:=N,bk:=D.nx } σ2 H2):=by
 refine #[λi m σ H=>m=xs.9 - i/\i<=xs.9/\Pv i σ H,#[xs.9,by simp,bg _,h0],?_];rintro i m σ H ⟨rfl,hi,p⟩;have q:=hl i σ H hi p;by_cases hlt:i < xs.9
 ·refine .inr #[#[xs,xs[i],q,by simp [hlt]],Pv (i+1),λσ' H' p'=>#[xs.9 - (i+1),(),rfl,hlt,p'],λx H' y=>?_];obtain e|y:=y;subst e;exact hs i x σ _ (y xs q) p
 ·have e:i=xs.9:=()
  subst e;exact .inl #[#[xs,q,ao _],hd σ H p]
theorem Dw {lo:Int} {g:TG} {tb:TS} {D:Ends} (Pv:Nat->St->Hp->Prop) (h0:Pv 0 σ H)
  (hs:∀i σ H,i < n->Pv i σ H->g (.int (lo+i)) σ H λσ2 H2=>tb { D with nx:=Pv (i+1),ct:=Pv (i+1),bk:=D.nx } σ2 H2) (hd:∀σ H,Pv n σ H->D.nx σ H) :
  ∃W:Nat->Nat->St->Hp->Prop,(∃m,W 0 m σ H)/\∀i m σ H,W i m σ H →
   ((Iw lo n).stop i H/\D.nx σ H)\/((Iw lo n).go i H/\∃N:St->Hp->Prop,(∀σ' H',N σ' H'->∃m',m' < m/\W (i+1) m' σ' H')/\∀x H',(Iw lo n).yld i H x H'->g x σ H' λσ2 H2=>tb { D with nx:=N,ct:=N,bk:=D.nx } σ2 H2):=by
 refine #[λi m σ H=>m=n - i/\i<=n/\Pv i σ H,#[n,by simp,bg _,h0],?_];rintro i m σ H ⟨rfl,hi,p⟩;by_cases hlt:i < n
 ·refine .inr #[hlt,Pv (i+1),λσ' H' p'=>#[n - (i+1),(),rfl,hlt,p'],λx H' y=>?_];obtain e|y:=y;subst e y;exact hs i σ _ hlt p
 ·have e:i=n:=()
  subst e;exact .inl #[ao _,hd σ H p]
abbrev R2:=V->V->Hp->VK->Prop
def zF (X:Cx) (f:Value->Value->Sem Value) (r:R2):Prop :=
 ∀(pins:List (Addr×Obj)) (s:Shared) (σ:St) (H:Hp) (x y:V) (v u:Value) (Q:VK),Inv X pins σ H s->RelV x v->RelV y u->r x y H Q →
  wpAny (model X.prog X.w) X.A (f v u) (EP X pins σ Q) X.xe s
def Vm (X:Cx) (f:Value->Sem Value) (r:V->Hp->VK->Prop):Prop :=
 ∀(pins:List (Addr×Obj)) (s:Shared) (σ:St) (H:Hp) (x:V) (v:Value) (Q:VK),Inv X pins σ H s->RelV x v->r x H Q →
  wpAny (model X.prog X.w) X.A (f v) (EP X pins σ Q) X.xe s
def nB (X:Cx) (f:Value) (r:List V->Hp->VK->Prop):Prop :=
 ∀(pins:List (Addr×Obj)) (s:Shared) (σ:St) (H:Hp) (xs:List V) (us:List Value) (Q:VK),Inv X pins σ H s->cV xs us->r xs H Q →
  wpAny (model X.prog X.w) X.A (call f us) (EP X pins σ Q) X.xe s
def TU (r:R2) (ta tb:TE):TE:=λσ H Q=>ta σ H λx H1=>tb σ H1 λy H2=>r x y H2 Q
def UZ (r:V->Hp->VK->Prop) (ta:TE):TE:=λσ H Q=>ta σ H λx H1=>r x H1 Q
def rI (C:Int->Int->Prop) (g:Int->Int->V):R2:=λx y H Q=>∃i j,x=.int i/\y=.int j/\C i j/\Q (g i j) H
def P7 (g:Int->Int->V):R2:=λx y H Q=>∃i j,x=.int i/\y=.int j/\Q (g i j) H
def rU (g:Int->V):V->Hp->VK->Prop:=λx H Q=>∃i,x=.int i/\Q (g i) H
section
variable {X:Cx} {a b c:Expr} {ta tb tc:TE} {pos:Pos}
theorem Te (ha:PE X a ta) (hb:PE X b tb) {σ:St} {R:V->V->Hp->Prop} (I:Inv X pins σ H s)
  (h:ta σ H λx H1=>tb σ H1 λy H2=>R x y H2) {f:Value->Value->Sem Value}
  (hf:∀v u s2 x y H2,Inv X pins σ H2 s2->RelV x v->RelV y u->R x y H2->wpAny (model X.prog X.w) X.A (f v u) Q X.xe s2) :
  wpAny (model X.prog X.w) X.A (eval a X.env) (λv s₁=>wpAny (model X.prog X.w) X.A (eval b X.env) (λu s₂=>wpAny (model X.prog X.w) X.A (f v u) Q X.xe s₂) X.xe s₁) X.xe s:=by
 refine gL (ha pins s σ H _ I h) λv s1 #[x,H1,I1,r1,q1]=>?_
 refine gL (hb pins s1 σ H1 _ I1 q1) λu s2 #[y,H2,I2,r2,q2]=>?_
 exact hf v u s2 x y H2 I2 r1 r2 q2
theorem bJ (ho:zF X (binaryOp op) r) (ha:PE X a ta) (hb:PE X b tb):PE X (.BinOp a op b pos) (TU r ta tb):=by
 intro pins s σ H Q I h;exact wpAny_BinOp (Te ha hb I h λv u s2 x y H2 I2 rx ry q=>ho pins s2 σ H2 x y v u Q I2 rx ry q)
theorem tU (ho:Vm X (unaryOp op) r) (ha:PE X a ta):PE X (.UnaryOp op a pos) (UZ r ta):=by
 intro pins s σ H Q I h;exact UnaryOp_ (gL (ha pins s σ H _ I h) λv s1 #[x,H1,I1,r1,q1]=>ho pins s1 σ H1 x v Q I1 r1 q1)
theorem Ve {g:Int->Int->Int}
  (rule:∀(i j:Int) (t u:Tok) (s:Shared) (Q:Value->Shared->Prop) (E:Value->Shared->Prop),C i j->Q (.int (g i j) s.toks) { s with toks:=s.toks+1 }->wpAny (model X.prog X.w) X.A (f (.int i t) (.int j u)) Q E s) :
  zF X f (rI C λi j=>.int (g i j)):=by
 intro pins s σ H x y v u Q I rx ry h;obtain i|j|rfl|rfl|hc|q:=h;obtain t|rfl:=rx;obtain t'|rfl:=ry;exact rule i j t t' s _ _ hc #[.int (g i j),H,I.tok _,#[_,rfl],q]
theorem Uo {g:Int->Int->Int}
  (rule:∀(i j:Int) (t u:Tok) (s:Shared) (Q:Value->Shared->Prop) (E:Value->Shared->Prop),Q (.int (g i j) s.toks) { s with toks:=s.toks+1 }->wpAny (model X.prog X.w) X.A (f (.int i t) (.int j u)) Q E s) :
  zF X f (P7 λi j=>.int (g i j)):=by
 intro pins s σ H x y v u Q I rx ry h;obtain i|j|rfl|rfl|q:=h;obtain t|rfl:=rx;obtain t'|rfl:=ry;exact rule i j t t' s _ _ #[.int (g i j),H,I.tok _,#[_,rfl],q]
theorem Qh {g:Int->Int->Bool}
  (rule:∀(i j:Int) (t u:Tok) (s:Shared) (Q:Value->Shared->Prop) (E:Value->Shared->Prop),Q (.bool (g i j)) s->wpAny (model X.prog X.w) X.A (f (.int i t) (.int j u)) Q E s) :
  zF X f (P7 λi j=>.bl (g i j)):=by
 intro pins s σ H x y v u Q I rx ry h;obtain i|j|rfl|rfl|q:=h;obtain t|rfl:=rx;obtain t'|rfl:=ry;exact rule i j t t' s _ _ #[.bl (g i j),H,I,rfl,q]
def Tq (i j:Int):Prop:=(-(2^64) < i/\i < 2^64)\/(-(2^64) < j/\j < 2^64)
theorem Tq.ok (h:Tq i j):IntMulOk i j:=by
 rcases h with ⟨h1,h2⟩ | ⟨h1,h2⟩
 ·exact .of_left (intBits_le_64 h1 h2)
 ·exact .of_right (intBits_le_64 h1 h2)
theorem eJ:zF X (binaryOp .Add) (P7 λi j=>.int (i+j)):=Uo λ_ _ _ _ _ _ _ q=>add_int q
theorem kB:zF X (binaryOp .Sub) (P7 λi j=>.int (i - j)):=Uo λ_ _ _ _ _ _ _ q=>sub_int q
theorem nX:zF X (binaryOp .Mod) (rI (λ_ j=>0 < j) λi j=>.int (i % j)):=Ve λi j _ _ _ _ _ hc q=>by
 have h1:(0:Int) < j:=hc;exact mod_int' () (by rw[Int.fmod_eq_emod_of_nonneg i ()];exact q)
theorem Qg:zF X (binaryOp .Mod) (rI (λ_ j=>j≠0) λi j=>.int (i.fmod j)):=Ve λ_ _ _ _ _ _ _ hc q=>mod_int' hc q
theorem unI {g:Int->Int}
  (rule:∀(i:Int) (t:Tok) (s:Shared) (Q:Value->Shared->Prop) (E:Value->Shared->Prop),Q (.int (g i) s.toks) { s with toks:=s.toks+1 }->wpAny (model X.prog X.w) X.A (f (.int i t)) Q E s) :
  Vm X f (rU λi=>.int (g i)):=by
 intro pins s σ H x v Q I rx h;obtain i|rfl|q:=h;obtain t|rfl:=rx;exact rule i t s _ _ #[.int (g i),H,I.tok _,#[_,rfl],q]
theorem nH:Vm X (unaryOp .USub) (rU λi=>.int (-i)):=unI λ_ _ _ _ _ q=>neg_int q
end
def T7:V->V->Bool
 | .non,.non=>true | .non,.int _=>true | .int _,.non=>true | .non,.bl _=>true | .bl _,.non=>true | .non,.str _=>true | .str _,.non=>true
 | .int _,.int _=>true | .bl _,.bl _=>true | .str _,.str _=>true | .byt _,.byt _=>true
 | .int _,.str _=>true | .str _,.int _=>true | .bl _,.str _=>true | .str _,.bl _=>true
 | _,_=>false
def Vd:R2:=λx y H Q=>T7 x y=true/\Q (.bl (decide (x=y))) H
def Vb:R2:=λx y H Q=>T7 x y=true/\Q (.bl (!decide (x=y))) H
theorem KL:decide (V.int i=V.int j)=(i == j):=by
 rw[lW];simp
theorem Ot:decide (V.bl i=V.bl j)=(i == j):=by
 rw[lW];simp
theorem KJ:decide (V.str i=V.str j)=(i == j):=by
 rw[lW];simp
theorem KN:decide (V.byt i=V.byt j)=(i.toList == j.toList):=by
 rw[lW];cases i;cases j;simp
section
variable {X:Cx} {a b c:Expr} {ta tb tc:TE} {pos:Pos}
theorem dH {σ:St} (I:Inv X pins σ H s) (q:Q (.bl k) H) (e:k=k'):EP X pins σ Q (.bool k') s:=by
 subst e;exact #[.bl k,H,I,rfl,q]
theorem dS:zF X (compareOp .Eq) Vd:=by
 intro pins s σ H x y v u Q I rx ry h;obtain hs|q:=h;cases x with
 | non =>
  cases rx;cases y with
  | non=>cases ry;exact PySem.EqNone.eq_none_none (dH I q (by simp))
  | bl j=>cases ry;exact PySem.EqNone.eq_none_bool (dH I q (by simp))
  | int j=>obtain t'|rfl:=ry;exact PySem.EqNone.eq_none_int (dH I q (by simp))
  | str j=>obtain t'|rfl:=ry;exact PySem.EqNone.eq_none_str (dH I q (by simp))
  | _=>exact absurd (show false=true from hs) bo
 | bl i =>
  cases rx;cases y with
  | non=>cases ry;exact PySem.EqNone.eq_bool_none (dH I q (by simp))
  | bl j=>cases ry;exact eq_bool (dH I q Ot)
  | str j=>obtain t'|rfl:=ry;exact PySem.EqMixed.eq_bool_str (dH I q (by simp))
  | _=>exact absurd (show false=true from hs) bo
 | int i =>
  obtain t|rfl:=rx;cases y with
  | non=>cases ry;exact PySem.EqNone.eq_int_none (dH I q (by simp))
  | int j=>obtain t'|rfl:=ry;exact eq_int (dH I q KL)
  | str j=>obtain t'|rfl:=ry;exact PySem.EqMixed.eq_int_str (dH I q (by simp))
  | _=>exact absurd (show false=true from hs) bo
 | str i =>
  obtain t|rfl:=rx;cases y with
  | non=>cases ry;exact PySem.EqNone.eq_str_none (dH I q (by simp))
  | bl j=>cases ry;exact PySem.EqMixed.eq_str_bool (dH I q (by simp))
  | int j=>obtain t'|rfl:=ry;exact PySem.EqMixed.eq_str_int (dH I q (by simp))
  | str j=>obtain t'|rfl:=ry;exact eq_str (dH I q KJ)
  | _=>exact absurd (show false=true from hs) bo
 | byt i =>
  obtain t|rfl:=rx;cases y with
  | byt j=>obtain t'|rfl:=ry;exact PySem.W.eq_bytes (dH I q KN)
  | _=>exact absurd (show false=true from hs) bo
 | _=>cases y <;> exact absurd (show false=true from hs) bo
theorem tW:zF X (compareOp .NotEq) Vb:=by
 intro pins s σ H x y v u Q I rx ry h;obtain hs|q:=h;cases x with
 | non =>
  cases rx;cases y with
  | non=>cases ry;exact PySem.EqNone.ne_none_none (dH I q (by simp))
  | bl j=>cases ry;exact PySem.EqNone.ne_none_bool (dH I q (by simp))
  | int j=>obtain t'|rfl:=ry;exact PySem.EqNone.ne_none_int (dH I q (by simp))
  | str j=>obtain t'|rfl:=ry;exact PySem.EqNone.ne_none_str (dH I q (by simp))
  | _=>exact absurd (show false=true from hs) bo
 | bl i =>
  cases rx;cases y with
  | non=>cases ry;exact PySem.EqNone.ne_bool_none (dH I q (by simp))
  | bl j=>cases ry;exact ne_bool (dH I q (congrArg not Ot))
  | str j=>obtain t'|rfl:=ry;exact PySem.EqMixed.ne_bool_str (dH I q (by simp))
  | _=>exact absurd (show false=true from hs) bo
 | int i =>
  obtain t|rfl:=rx;cases y with
  | non=>cases ry;exact PySem.EqNone.ne_int_none (dH I q (by simp))
  | int j=>obtain t'|rfl:=ry;exact ne_int (dH I q (congrArg not KL))
  | str j=>obtain t'|rfl:=ry;exact PySem.EqMixed.ne_int_str (dH I q (by simp))
  | _=>exact absurd (show false=true from hs) bo
 | str i =>
  obtain t|rfl:=rx;cases y with
  | non=>cases ry;exact PySem.EqNone.ne_str_none (dH I q (by simp))
  | bl j=>cases ry;exact PySem.EqMixed.ne_str_bool (dH I q (by simp))
  | int j=>obtain t'|rfl:=ry;exact PySem.EqMixed.ne_str_int (dH I q (by simp))
  | str j=>obtain t'|rfl:=ry;exact ne_str (dH I q (congrArg not KJ))
  | _=>exact absurd (show false=true from hs) bo
 | byt i =>
  obtain t|rfl:=rx;cases y with
  | byt j=>obtain t'|rfl:=ry;exact PySem.W.ne_bytes (dH I q (congrArg not KN))
  | _=>exact absurd (show false=true from hs) bo
 | _=>cases y <;> exact absurd (show false=true from hs) bo
theorem rZ:zF X (compareOp .Lt) (P7 λi j=>.bl (decide (i < j))):=Qh λ_ _ _ _ _ _ _ q=>lt_int q
theorem Nw:zF X (compareOp .LtE) (P7 λi j=>.bl (decide (i<=j))):=Qh λ_ _ _ _ _ _ _ q=>le_int q
theorem oI:zF X (compareOp .Gt) (P7 λi j=>.bl (decide (j < i))):=Qh λ_ _ _ _ _ _ _ q=>gt_int q
theorem Ds:zF X (compareOp .GtE) (P7 λi j=>.bl (decide (j<=i))):=Qh λ_ _ _ _ _ _ _ q=>ge_int q
theorem EB:zF X (compareOp .IsNot) (λx y H Q=>y=.non/\Q (.bl (!decide (x=.non))) H):=by
 intro pins s σ H x y v u Q I rx ry h;obtain rfl|q:=h;cases ry;refine isnot_none_gen (dH I q ?_)
 cases x <;> first
  | (cases rx;rfl)
  | (obtain ⟨t,rfl⟩:=rx;rfl)
theorem bw (b:Expr) {op:CmpOp} (h:op≠.In:=by decide) (h2:op≠.NotIn:=by decide):behindInMarks op b=false:=by
 have e1:(op == CmpOp.In)=false:=by cases op <;> first | rfl | exact absurd rfl h
 have e2:(op == CmpOp.NotIn)=false:=by cases op <;> first | rfl | exact absurd rfl h2
 cases b <;> simp [behindInMarks,e1,e2]
theorem iG (ho:zF X (compareOp op) r) (ha:PE X a ta) (hb:PE X b tb) (hm:behindInMarks op b=false):PE X (.Compare a [op] [b] pos) (TU r ta tb):=by
 intro pins s σ H Q I h;exact wpAny_Compare1 (Te ha hb I h λv u s2 x y H2 I2 rx ry q=>ho pins s2 σ H2 x y v u Q I2 rx ry q) hm
def ME (t:TE):TT:=λσ H Q=>t σ H λx H'=>∃k,x=.bl k/\Q k H'
theorem br (ho:zF X (compareOp op) r) (ha:PE X a ta) (hb:PE X b tb) (hm:behindInMarks op b=false):PT X (.Compare a [op] [b] pos) (ME (TU r ta tb)):=by
 intro pins s σ H Q I h
 refine wpAny_isTrue_Compare1 (gL (ha pins s σ H _ I h) λv s1 #[x,H1,I1,r1,q1]=>gL (hb pins s1 σ H1 _ I1 q1) λu s2 #[y,H2,I2,r2,q2] =>
  gL (ho pins s2 σ H2 x y v u _ I2 r1 r2 q2) λc s3 #[z,H3,I3,r3,k,e,q3]=>?_) hm
 subst e;cases r3;exact wpAny_truthy_bool #[H3,I3,q3]
def MG (r r':R2) (ta tb tc:TE):TE:=λσ H Q=>ta σ H λx H1=>tb σ H1 λy H2=>r x y H2 λz H3=>∃k,z=.bl k /\
 (if k=true then tc σ H3 λw' H4=>r' y w' H4 Q else Q (.bl false) H3)
theorem Nj {op op':CmpOp} {r r':R2} (ho:zF X (compareOp op) r) (ho':zF X (compareOp op') r') (ha:PE X a ta) (hb:PE X b tb) (hc:PE X c tc)
  (hm:lastMarks [op,op'] [b,c]=false:=by with_unfolding_all rfl):PT X (.Compare a [op,op'] [b,c] pos) (ME (MG r r' ta tb tc)):=by
 intro pins s σ H Q I h
 refine isTrue_chain (gL (ha pins s σ H _ I h) λv s1 #[x,H1,I1,r1,q1]=>test_link (gL (hb pins s1 σ H1 _ I1 q1) λu s2 #[y,H2,I2,r2,q2] =>
  gL (ho pins s2 σ H2 x y v u _ I2 r1 r2 q2) λd s3 #[z,H3,I3,r3,k,e,q3]=>?_)) hm
 subst e;cases r3;refine wpAny_truthy_bool ?_;cases k with
 | false =>
  obtain k'|e'|q':=q3;cases e';exact ite_ff #[H3,I3,q']
 | true =>
  refine ite_tt (test_last (gL (hc pins s3 σ H3 _ I3 q3) λw' s4 #[z',H4,I4,r4,q4]=>gL (ho' pins s4 σ H4 y z' u w' _ I4 r2 r4 q4) λd' s5 #[z2,H5,I5,r5,k2,e2,q5]=>?_));subst e2;cases r5;exact wpAny_truthy_bool #[H5,I5,q5]
theorem Br:(sizeLine:Nat) < 2^63:=by rw[sizeLine_eq];decide
theorem vals1 (r:cV [x] us):∃u,us=[u]/\RelV x u:=by
 cases r with
 | cons r1 r2=>cases r2;exact #[_,rfl,r1]
theorem vals2 (r:cV [x,y] us):∃u w',us=[u,w']/\RelV x u/\RelV y w':=by
 cases r with
 | cons r1 r2 =>
  cases r2 with
  | cons r3 r4=>cases r4;exact #[_,_,rfl,r1,r3]
theorem wU:nB X (.builtin "abs") (λxs H Q=>∃i,xs=[.int i]/\Q (.int (if i < 0 then -i else i)) H):=by
 intro pins s σ H xs us Q I r h;obtain i|rfl|q:=h;obtain u|rfl|t|rfl:=vals1 r;exact call_abs_int λu tk=>#[.int (if i < 0 then -i else i),H,I.tok _,#[_,rfl],q]
theorem oQ (hc:X.calm=true):nB X (.builtin "min") (λxs H Q=>∃i j,xs=[.int i,.int j]/\Q (.int (if j < i then j else i)) H):=by
 intro pins s σ H xs us Q I r h;obtain i|j|rfl|q:=h;obtain u|w'|rfl|⟨t,rfl⟩|⟨t',rfl⟩:=vals2 r;refine min_two_ints (I.ok.hd hc) λh' tk k=>#[_,H,I.kept k,?_,q]
 by_cases hj:j < i
 ·rw[if_pos hj,if_pos hj];exact #[_,rfl]
 ·rw[if_neg hj,if_neg hj];exact #[_,rfl]
end
structure JH (h:Heap) (x dx C:Addr) (mA:Str->Option Value):Prop where
 obj:h.get? x=some (PySem.W.instObj C dx)
 ns:h.Ns1 dx mA
 ne:dx≠x
theorem LU {h:Heap} (n:h.Ns1 dx mA):∃od,h.get? dx=some od/\∀name,PySem.W.lookIn name od=some (mA name):=by
 obtain o|es|ep|ho|hd|hk|_|hm:=n;refine #[o,ho,λname=>?_];have e:=hm name;unfold nsFind findBy at e;rw[<- Array.find?_toList] at e;unfold PySem.W.lookIn;rw[hd]
 dsimp only
 split
 ·rename_i y q
  rw[q] at e;exact congrArg some e
 ·rename_i q
  rw[q] at e
  have a:es.toList.any (·.refKey)=false:=by
   rw[List.any_eq_false];intro y hy;obtain z|t|hkey:=hk y (Array.mem_toList_iff.mp hy);simp [DictEntry.refKey,hkey]
  have a':¬es.toList.any (·.refKey)=true:=by rw[a];exact bo
  rw[if_neg a'];exact congrArg some e
theorem JH.look (I:JH h x dx C mA):∃od,PySem.W.InstAt h x (PySem.W.instObj C dx) C (some od)/\∀name,PySem.W.lookIn name od=some (mA name) :=
 let ⟨od,ho,hl⟩:=LU I.ns
 #[od,#[I.obj,rfl,rfl,ho],hl]
section
variable {prog:Program} {w:World} {A:Around} {E:Value->Shared->Prop} {s:Shared} {K:FG9} {x dx C f:Addr} {mA:Str->Option Value} {name:Str} {v:Value}
theorem get_map (X:K.In s.8) (I:JH s.heap x dx C mA) (hg:PySem.W.plainGet K C name=true) (hh:PySem.W.hasDictIn K C=true)
  (ha:PySem.W.findIn K (.ref C) name=some none) (hv:mA name=some v) (hv':PySem.W.handedIn v=true) (h:Q v { s with toks:=s.toks+1 }) :
  wpAny (model prog w) A (getAttr (.ref x) name expr) Q E s:=by
 obtain od|J|hl:=I.look;exact PySem.W.get_value X J (FE hg).1 (PySem.W.findObj_own hh ha rfl (by rw[hl,hv])) hv' h
theorem N7 (X:K.In s.8) (I:JH s.heap x dx C mA) (hg:PySem.W.plainGet K C name=true)
  (hf:PySem.W.findIn K (.ref C) name=some (some (.ref f))) (ht:PySem.W.isFn K (.ref f)=true) (hv:mA name=none) (h:Q (.ref f,[.ref x]) s) :
  wpAny (model prog w) A (getMethod (.ref x) name pl) Q E s:=by
 obtain od|J|hl:=I.look;exact PySem.W.method_fn X J (FE hg).1 (FE hg).2 hf (beq_iff_eq.mp ht) (by show (PySem.W.lookIn name od).map (·.isSome)=some false;rw[hl,hv];rfl) h
theorem Pk (X:K.In s.8) (I:JH s.heap x dx C mA)
  (hs:PySem.W.findIn K (.ref C) "__setattr__"=some (some (.builtin "object.__setattr__"))) (hp:PySem.W.plainOver K C=true) (ht:PySem.W.takerIn K C name=some none) (hh:PySem.W.hasDictIn K C=true)
  (hw:PySem.Within mA ns) (hsz:ns.9<=sizeLine)
  (h:∀h',JH h' x dx C (λy=>if y=name then some v else mA y)->Heap.SameBut dx s.heap h'->Q .unit { s with heap:=h',toks:=s.toks+2 }) :
  wpAny (model prog w) A (setAttr (.ref x) name v) Q E s:=by
 obtain od|J|hl:=I.look;refine PySem.W.set_plain X J hs (PySem.W.osa_open (s:={ s with toks:=s.toks+1 }) (r:=none) X J hp ht λb=>?_);obtain cd|hc|hd':=PySem.W.any_some hh;have hx:s.heap.get? x=some #[.ref C,some dx,.plain,[].toArray]:=I.obj;refine wpAny_bind (wpAny_pure (wpAny_bind (wpAny_bind (wpAny_loadPart hx (wpAny_bind (PySem.W.Looks.here (s:={ s with toks:=s.toks+1 }) (PySem.W.looks_clsIn X hc) ?_))))));rw[hd'];refine wpAny_pure (a:=some dx) (wpAny_bind (wpAny_pure (wpAny_bind ?_)));refine wpAny_nsSet1 (s:={ s with toks:=s.toks+1 }) I.ns λh' hn2 hs2=>?_
 obtain oD|esD|epD|hoD|hdD|hcD:=hn2.count (PySem.Within.cons name v hw);refine wpAny_bind (wpAny_lookBehind hoD (by rw[hdD];exact pastItsLine_dict (ag hcD (by rw[bO];lia))) ?_);exact wpAny_pure (h _ #[(hs2.2 _ (Ne.symm I.ne)).trans I.obj,hn2,I.ne] hs2)
theorem NK (X:K.In s.8) (hm:PySem.W.makesIn K C=true)
  (hi:PySem.W.findIn K (.ref C) "__init__"=some (some (.ref f))) (hf:PySem.W.typeIn K (.ref f)=some (.type "function"))
  (h:codeAny (model prog w) (A.under (.builtin "type.__call__" #[.ref C :: vs,kw])) (.call (.ref f) #[.ref (s.6+1) :: vs,kw]) (PySem.W.InitBack (s.6+1) R)
   { s with heap:=(s.heap.push PySem.W.emptyDict).push (PySem.W.instObj C s.6) }) :
  codeAny (model prog w) A (.call (.ref C) #[vs,kw]) R s:=by
 obtain hh|g|d|t|os:=s;exact PySem.W.make_core (PySem.W.makes_of X hm) (PySem.W.looks_findIn X hi) (λself=>PySem.W.bind_fn X self hf) (.inl rfl) h
end
def cA (f:Str) (v:V):List (Str×V)->List (Str×V)
 | []=>[(f,v)]
 | (g,x) :: r=>if g=f then (g,v) :: r else (g,x) :: cA f v r
theorem bP (f g:Str) (v:V):∀fs:List (Str×V),(cA f v fs).lookup g=if g=f then some v else fs.lookup g
 | []=>by
  show List.lookup g [(f,v)]=_
  by_cases h:g=f
  ·have hb:(g == f)=true:=beq_iff_eq.mpr h;simp only[List.lookup,hb,if_pos h]
  ·have hb:(g == f)=false:=beq_eq_false_iff_ne.mpr h;simp only[List.lookup,hb,if_neg h]
 | (k,x) :: r=>by
  have ih:=bP f g v r;rw[show cA f v ((k,x) :: r)=(if k=f then (k,v) :: r else (k,x) :: cA f v r) from rfl];by_cases hk:k=f
  ·rw[if_pos hk];by_cases h:g=k
   ·have hb:(g == k)=true:=beq_iff_eq.mpr h;simp only[List.lookup,hb,if_pos (h.trans hk)]
   ·have hb:(g == k)=false:=beq_eq_false_iff_ne.mpr h;simp only[List.lookup,hb,if_neg (λe:g=f=>h (e.trans hk.symm))]
  ·rw[if_neg hk];by_cases h:g=k
   ·have hb:(g == k)=true:=beq_iff_eq.mpr h;simp only[List.lookup,hb,if_neg (λe:g=f=>hk (h.symm.trans e))]
   ·have hb:(g == k)=false:=beq_eq_false_iff_ne.mpr h;simp only[List.lookup,hb];exact ih
theorem yf (f:Str) (v:V):∀fs:List (Str×V),f∈(cA f v fs).map (·.1)/\∀g,g∈fs.map (·.1)->g∈(cA f v fs).map (·.1)
 | []=>#[by simp [cA],λg h=>by simp at h]
 | (k,x) :: r=>by
  obtain i1|i2:=yf f v r;rw[show cA f v ((k,x) :: r)=(if k=f then (k,v) :: r else (k,x) :: cA f v r) from rfl];by_cases hk:k=f
  ·rw[if_pos hk];subst hk;exact #[by simp,λg h=>by simpa using h]
  ·rw[if_neg hk];refine #[?_,λg h=>?_]
   ·rw[iL];exact b7 _ i1
   ·rw[iL] at h ⊢;rcases aG.mp h with e | e
    ·exact aG.mpr (.inl e)
    ·exact b7 _ (i2 g e)
theorem yH (f:Str) (v:V):∀fs:List (Str×V),(cA f v fs).9<=fs.9+1
 | []=>by simp [cA]
 | (k,x) :: r=>by
  have ih:=yH f v r;rw[show cA f v ((k,x) :: r)=(if k=f then (k,v) :: r else (k,x) :: cA f v r) from rfl];by_cases hk:k=f
  ·rw[if_pos hk,bO,bO];lia
  ·rw[if_neg hk,bO,bO];lia
theorem CN.some_of (r:CN (some v) o):∃u,o=some u/\RelV v u:=by
 cases o with
 | none=>exact (show False from r).elim
 | some u=>exact #[u,rfl,r]
theorem CN.none_of (r:CN none o):o=none:=by
 cases o with
 | none=>rfl
 | some u=>exact (show False from r).elim
theorem L5 (r:RelV v u):PySem.W.handedIn u=true:=by
 cases v with
 | non=>cases (show u=Value.none from r);rfl
 | bl b=>cases (show u=Value.bool b from r);rfl
 | int i=>obtain t|e:=(show ∃t,u=Value.int i t from r);cases e;rfl
 | str x=>obtain t|e:=(show ∃t,u=Value.str x t from r);cases e;rfl
 | byt b=>obtain t|e:=(show ∃t,u=Value.bytes b t from r);cases e;rfl
 | flt b=>obtain t|e:=(show ∃t,u=Value.float b t from r);cases e;rfl
 | ref a=>cases (show u=Value.ref a from r);rfl
 | ty n=>cases (show u=Value.type n from r);rfl
section
variable {P:Program} {w:World} {H H':Hp} {h h':Heap} {a C dx:Addr} {fs fs':List (Str×V)}
theorem vY (hok:Ae P w H h) (e:H a=some (.ins C dx fs)):∃mA,JH h a dx C mA/\(∀f,CN (fs.lookup f) (mA f))/\PySem.Within mA (fs.map (·.1))/\fs.9<=1000/\H dx=some (.own a):=by
 obtain d|z|ne|ob|mA|n|r|q:=(show gR P w H h a (.ins C dx fs) from hok a _ e);exact #[mA,#[ob,n,ne],r,q,z,d]
end
structure Mp (K:FG9) (C:Addr):Prop where
 pg:PySem.W.plainGet K C Str.empty=true
 hd:PySem.W.hasDictIn K C=true
 po:PySem.W.plainOver K C=true
 sa:PySem.W.findIn K (.ref C) "__setattr__"=some (some (.builtin "object.__setattr__"))
theorem Mp.get {K:FG9} (c:Mp K C) (f:Str):PySem.W.plainGet K C f=true:=c.pg
def kd (K:FG9) (C:Addr) (f:Str):Prop:=PySem.W.findIn K (.ref C) f=some none
theorem kd.taker {K:FG9} (n:kd K C f):PySem.W.takerIn K C f=some none:=by
 unfold PySem.W.takerIn;rw[show PySem.W.findIn K (.ref C) f=some none from n];rfl
structure Th (K:FG9) (C:Addr) (m:Str) (f:Addr):Prop where
 at_:PySem.W.findIn K (.ref C) m=some (some (.ref f))
 fn:PySem.W.isFn K (.ref f)=true
 kp:PySem.W.keepIn K (.ref f)=true
section
variable {X:Cx} {pins:List (Addr×Obj)} {σ:St} {H:Hp} {s:Shared} {a C dx:Addr} {fs:List (Str×V)} {f:Str} {v:V} {A:Around} {E:Value->Shared->Prop}
theorem Ju (I:Inv X pins σ H s) (e:H a=some (.ins C dx fs)) (c:Mp X.K C) (n:kd X.K C f) (l:fs.lookup f=some v)
  (h:∀u s',Inv X pins σ H s'->RelV v u->Q u s'):wpAny (model X.prog X.w) A (getAttr (.ref a) f b) Q E s:=by
 obtain mA|O|r|_|_|_:=vY I.hok e;obtain u|hu|ru:=CN.some_of (v:=v) (o:=mA f) (by rw[<- l];exact r f);exact get_map I.kIn O (c.get f) c.hd n hu (L5 ru) (h u _ (I.tok _) ru)
theorem Jt (I:Inv X pins σ H s) (e:H a=some (.ins C dx fs)) (c:Mp X.K C) (k:Th X.K C m g) (l:fs.lookup m=none)
  (h:Q (.ref g,[.ref a]) s):wpAny (model X.prog X.w) A (getMethod (.ref a) m pl) Q E s:=by
 obtain mA|O|r|_|_|_:=vY I.hok e;have hn:mA m=none:=CN.none_of (by rw[<- l];exact r m);exact N7 I.kIn O (c.get m) k.at_ k.fn hn h
theorem IJ (I:Inv X pins σ H s) (e:H a=some (.ins C dx fs)) (c:Mp X.K C) (n:kd X.K C f) (hl:fs.9 < 1000) (ry:RelV y u)
  (h:∀s',Inv X pins σ (upd H a (.ins C dx (cA f y fs))) s'->Q .unit s'):wpAny (model X.prog X.w) A (setAttr (.ref a) f u) Q E s:=by
 obtain mA|O|r|wi|_|ho:=vY I.hok e;have hz:(fs.map (·.1)).9<=sizeLine:=by rw[aj,sizeLine_eq];lia
 refine Pk I.kIn O c.sa c.po n.taker c.hd wi hz λh' O' sb=>h _ ?_
 have hd:∃o,h'.get? dx=some o:=let ⟨o,_,_,e',_⟩:=O'.ns;#[o,e']
 refine I.write (x:=a) (e:=dx) (by rw[e];exact True.intro) (.inr ho) (λb q hb z=>(sb.2 b hb).trans z) hd ?_;refine #[by rw[bM O.ne];exact ho,?_,O.ne,O'.obj,_,O'.ns,λg=>?_,λg hg=>?_]
 ·have:=yH f y fs;lia
 ·show CN ((cA f y fs).lookup g) (if g=f then some u else mA g)
  rw[bP];by_cases q:g=f
  ·rw[if_pos q,if_pos q];exact ry
  ·rw[if_neg q,if_neg q];exact r g
 ·by_cases q:g=f
  ·rw[q];exact (yf f y fs).1
  ·refine (yf f y fs).2 g (wi g λz=>hg ?_);show (if g=f then some u else mA g)=none
   rw[if_neg q];exact z
theorem Inv.made (I:Inv X pins σ H s):Inv X pins σ (upd (upd H s.heap.objs.size (.own (s.6+1))) (s.6+1) (.ins C s.6 []))
  { s with heap:=(s.heap.push PySem.W.emptyDict).push (PySem.W.instObj C s.6) }:=by
 have e1:(s.heap.push PySem.W.emptyDict).get? s.6=some PySem.W.emptyDict:=Heap.get?_push_size s.heap rfl
 have e2:((s.heap.push PySem.W.emptyDict).push (PySem.W.instObj C s.6)).get? (s.6+1)=some (PySem.W.instObj C s.6):=by
  have:=Heap.get?_push_size (s.heap.push PySem.W.emptyDict) (o:=PySem.W.instObj C s.6) rfl;rwa [Heap.size_push] at this
 have e3:(s.heap.push PySem.W.emptyDict).Ns s.heap.objs.size (λ_=>none):=#[PySem.W.emptyDict,[].toArray,_,e1,rfl,(λe he=>absurd he (by simp)),λ_=>rfl];have I1:=I.laid (a:=s.6) (o:=.own (s.6+1)) (h':=s.heap.push PySem.W.emptyDict) (t':=s.toks) (λb u q=>Heap.get?_push_of_some _ q) (ao _) #[_,e1];refine I1.laid (a:=s.6+1) (o:=.ins C s.6 []) (t':=s.toks) (λb u q=>Heap.get?_push_of_some _ q) (Nat.le_of_eq (Heap.size_push _ _)) ?_;have ne:s.6≠s.6+1:=cg (ji _);refine #[by rw[bM ne,aL],bg _,ne,e2,λ_=>none,(Heap.Ns1.of_empty e3).at λo q=>Heap.get?_push_of_some _ q,λ_=>True.intro,λy hy=>absurd rfl hy]
theorem QE (hb:attributeBase e f env (eval e env)=eval e env)
  (h:wpAny (model prog w) A (eval e env) (λo s₁=>wpAny (model prog w) A (getAttr o f true) Q E s₁) E s):wpAny (model prog w) A (eval (.Attribute e f pos) env) Q E s :=
 Attribute_any_ h (by rw[arm_eval_Attribute,hb])
end
def RM (K:FG9) (ta:TE) (f:Str):TE:=λσ H Q=>ta σ H λx H1=>∃a C dx fs v,x=.ref a/\H1 a=some (.ins C dx fs)/\Mp K C/\kd K C f/\fs.lookup f=some v/\Q v H1
def T8 (K:FG9) (ta tv:TE) (f:Str):TS:=λD σ H=>tv σ H λy H1=>ta σ H1 λx H2=>∃a C dx fs,x=.ref a/\H2 a=some (.ins C dx fs)/\Mp K C/\kd K C f/\fs.9 < 1000 /\
 D.nx σ (upd H2 a (.ins C dx (cA f y fs)))
section
variable {X:Cx} {o e value:Expr} {f:Str} {pos pos' tpos:Pos} {ta tv:TE}
theorem jk (he:PE X e ta) (hb:attributeBase e f X.env (eval e X.env)=eval e X.env):PE X (.Attribute e f pos) (RM X.K ta f):=by
 intro pins s σ H Q I h;refine QE hb (gL (he pins s σ H _ I h) λu s1 #[x,H1,I1,rx,a,C,dx,fs,v,ex,ea,c,n,l,q]=>?_);subst ex;obtain rfl:u=Value.ref a:=rx;exact Ju I1 ea c n l λu' s2 I2 ru=>#[v,H1,I2,ru,q]
theorem xV (ha:PE X o ta) (hv:PE X value tv) (hs:swapsWith value (some (.Attribute o f pos')) pos.line X.env=pure false):PS X (.Assign [.Attribute o f pos'] value pos) (T8 X.K ta tv f):=by
 intro pins s σ H D I h;refine plainObj_wpAny_Assign_Attribute (gL (hv pins s σ H _ I h) λu s1 #[y,H1,I1,ry,q]=>gL (ha pins s1 σ H1 _ I1 q) λov s2 #[x,H2,I2,rx,a,C,dx,fs,ex,ea,c,n,l,q2]=>?_) hs;subst ex;obtain rfl:ov=Value.ref a:=rx;exact IJ I2 ea c n l ry λs3 I3=>#[σ,_,I3,q2]
end
section
variable {X:Cx} {pins:List (Addr×Obj)} {σ:St} {H:Hp} {s:Shared} {A:Around} {E:Value->Shared->Prop} {Q:Value->Shared->Prop} {c:Value} {b:Bool}
inductive vp (K:FG9) (H:Hp):V->Value->Prop where
 | non:vp K H .non (.type "NoneType")
 | bl (x:Bool):vp K H (.bl x) (.type "bool")
 | int (i:Int):vp K H (.int i) (.type "int")
 | str (x:Str):vp K H (.str x) (.type "str")
 | flt (x:UInt64):vp K H (.flt x) (.type "float")
 | lst {a:Addr} {xs:List V} (e:H a=some (.lst xs)):vp K H (.ref a) (.type "list")
 | frz {a:Addr} {o:Obj} {xs:List V} (e:H a=some (.frz o (.lst xs))):vp K H (.ref a) (.type "list")
 | tup {a:Addr} {xs:List V} (e:H a=some (.tup xs)):vp K H (.ref a) (.type "tuple")
 | dK {a:Addr} {kvs:List (Key×V)} (e:H a=some (.dK kvs)):vp K H (.ref a) (.type "dict")
 | dT {a:Addr} {kvs:List (List Key×V)} (e:H a=some (.dT kvs)):vp K H (.ref a) (.type "dict")
 | ins {a C dx:Addr} {fs:List (Str×V)} (e:H a=some (.ins C dx fs)) (cl:Mp K C) (ha:PySem.W.findIn K (.ref C) "__class__"=some (some (.builtin "object.__class__")))
   (hn:PySem.W.specialIn K (.builtin "object.__class__") "__get__"=some (some (.builtin "getset_descriptor.__get__"))) (htk:PySem.W.takesIn K (.builtin "object.__class__")=some true)
   (hm:PySem.W.mroIn K C (.type "object")=some true):vp K H (.ref a) (.ref C)
theorem Dv (I:Inv X pins σ H s) (rx:RelV x u) (ty:vp X.K H x t) (e:PySem.W.kitOne X.K t c=some b) (h:∀tk,Q (.bool b) { s with toks:=tk }) :
  wpAny (model X.prog X.w) A (call (.builtin "isinstance") [u,c]) Q E s:=by
 cases ty with
 | non=>cases (show u=Value.none from rx);exact dM PySem.W.kitx_none I.kIn True.intro e (λz=>nomatch z) h
 | bl y=>cases (show u=Value.bool y from rx);exact dM PySem.W.kitx_bool I.kIn True.intro e (λz=>nomatch z) h
 | int i=>obtain t|q:=(show ∃t,u=Value.int i t from rx);cases q;exact dM PySem.W.kitx_int I.kIn True.intro e (λz=>nomatch z) h
 | str y=>obtain t|q:=(show ∃t,u=Value.str y t from rx);cases q;exact dM PySem.W.kitx_str I.kIn True.intro e (λz=>nomatch z) h
 | flt y=>obtain t|q:=(show ∃t,u=Value.float y t from rx);cases q;exact dM PySem.W.kitx_float I.kIn True.intro e (λz=>nomatch z) h
 | @lst a xs ea =>
  cases (show u=Value.ref a from rx);obtain _|_|n|_|h1:=(show gR X.prog X.w H s.heap a (.lst xs) from I.hok a _ ea);exact dM xr I.kIn #[_,h1,rfl] e (λz=>nomatch z) h
 | @frz a ob xs ea =>
  cases (show u=Value.ref a from rx);obtain _|_|_|n|_|h1:=(show gR X.prog X.w H s.heap a (.frz ob (.lst xs)) from I.hok a _ ea);exact dM xr I.kIn #[_,h1,rfl] e (λz=>nomatch z) h
 | @tup a xs ea =>
  cases (show u=Value.ref a from rx);obtain _|_|_|p:=(show gR X.prog X.w H s.heap a (.tup xs) from I.hok a _ ea);obtain o|h1|h2|_:=p;exact dM uJ I.kIn #[o,h1,h2] e (λz=>nomatch z) h
 | @dK a kvs ea =>
  cases (show u=Value.ref a from rx);obtain _|_|vs|_|p:=(show gR X.prog X.w H s.heap a (.dK kvs) from I.hok a _ ea);obtain o|es|ep|h1|h2|_:=p;exact dM xt I.kIn #[o,h1,h2.1] e (λz=>nomatch z) h
 | @dT a kvs ea =>
  cases (show u=Value.ref a from rx);obtain _|_|xs|_|o|es|ep|h1|h2|_:=(show gR X.prog X.w H s.heap a (.dT kvs) from I.hok a _ ea);exact dM xt I.kIn #[o,h1,h2.1] e (λz=>nomatch z) h
 | @ins a C dx fs ea cl ha hn htk hm =>
  cases (show u=Value.ref a from rx);obtain mA|O|_:=vY I.hok ea;obtain od|J|_:=O.look;exact dM (PySem.W.kitx_own (cl.get _) cl.hd ha hn htk hm) I.kIn J e (λz=>nomatch z) h
end
structure kY (k:Nat) (A:Around):Prop where
 hd:A.handled=none
 dp:A.depth+3*k+105 < recursionLimit
 un:A.units+16*k+200 < cLine
theorem kY.mono (r:kY k A) (h:j<=k):kY j A:=#[r.hd,by have:=r.dp;lia,by have:=r.un;lia]
theorem kY.deeper (r:kY (k+1) A) (env:Env):kY k (A.deeper env) :=
 #[r.hd,by have:=r.dp;show A.depth+1+3*k+105 < _;lia,by have:=r.un;show A.units+3+16*k+200 < _;lia]
theorem Jn {A:Around}:(A.under (.builtin "type.__call__" #[.ref C :: us,kw])).depth=A.depth+1:=by
 first | rfl | simp [Around.under,Code.weight,Code.isCreation,Code.isGuard,Code.isCaller,Code.frames,Code.isFrame,guardIds]
theorem Jm {A:Around}:(A.under (.builtin "type.__call__" #[.ref C :: us,kw])).units=A.units+1:=by
 first | rfl | simp [Around.under,Code.cUnits,Code.frames,Code.isFrame]
theorem kY.make (r:kY (k+1) A) (C:Addr) (us:List Value) (kw:List (Str×Value)):kY k (A.under (.builtin "type.__call__" #[.ref C :: us,kw])) :=
 #[r.hd,by have:=r.dp;rw[Jn];lia,by have:=r.un;rw[Jm];lia]
theorem kY.depth (r:kY k A):A.depth < recursionLimit:=by have:=r.dp;lia
theorem kY.units (r:kY k A):A.units+64 < cLine:=by have:=r.un;lia
def Lg:TA:=λ_ H Q=>Q [] H
def rg (ta:TE) (tr:TA):TA:=λσ H Q=>ta σ H λx H1=>tr σ H1 λxs H2=>Q (x :: xs) H2
section
variable {X:Cx} {e:Expr} {es:List Expr} {te:TE} {t:TA} {pos:Pos}
theorem ai:PA X [] Lg:=λ_ _ _ _ H Q I h=>Calls.spliced_nil #[[],H,I,.nil,h]
theorem aa (ha:PE X e te) (hr:PA X es t) (hs:starEach (e :: es) X.env=(false,eval e X.env) :: starEach es X.env:=by rfl):PA X (e :: es) (rg te t):=by
 intro pos pins s σ H Q I h;rw[hs];show wpAny _ _ (spliced ((false,eval e X.env) :: backTo pos (starEach es X.env))) _ _ s
 refine Calls.spliced_cons (gL (ha pins s σ H _ I h) λu s1 #[x,H1,I1,r1,q1]=>?_);exact gL (hr pos pins s1 σ H1 _ I1 q1) λus s2 #[xs,H2,I2,r2,q2]=>#[x :: xs,H2,I2,.cons r1 r2,q2]
def TL (t:TA):TE:=λσ H Q=>t σ H λxs H1=>xs.9<=sizeLine/\∀p,H1 p=none->Q (.ref p) (upd H1 p (.tup xs))
def TX (t:TA):TE:=λσ H Q=>t σ H λxs H1=>xs.9<=sizeLine/\∀p,H1 p=none->Q (.ref p) (upd H1 p (.lst xs))
theorem cI (h:PA X es t):PE X (.Tuple es x1 pos) (TL t):=by
 intro pins s σ H Q I hq;refine wpAny_Tuple_spliced (gL (h pos pins s σ H _ I hq) λus s1 #[xs,H1,I1,r,z,q]=>#[by rw[<- r.9];exact z,?_]);have hf:H1 s1.6=none:=I1.hok.fresh (ao _);refine #[.ref s1.6,upd H1 s1.heap.objs.size (.tup xs),I1.laid (t':=s1.toks) (λb u e=>Heap.get?_push_of_some _ e) (ao _) ?_,rfl,q _ hf];exact #[z,us,r,#[_,Heap.get?_push_size _ rfl,rfl,_,rfl]]
theorem du (h:PA X es t):PE X (.List es pos) (TX t):=by
 intro pins s σ H Q I hq;refine wpAny_List_spliced (gL (h pos pins s σ H _ I hq) λus s1 #[xs,H1,I1,r,z,q]=>#[by rw[<- r.9];exact z,?_]);have hf:H1 s1.6=none:=I1.hok.fresh (ao _);refine #[.ref s1.6,upd H1 s1.heap.objs.size (.lst xs),I1.laid (t':=s1.toks) (λb u e=>Heap.get?_push_of_some _ e) (ao _) ?_,rfl,q _ hf];exact #[z,us,0,r,Heap.get?_push_size _ rfl]
end
abbrev Sp:=List V->Hp->VK->XK->Prop
abbrev OU:=List Env->Hp->Shared->XK->Value->Shared->Prop
structure JK (P:Program) (w:World) (K:FG9) (mg:Str->Option Value) (base:Heap) (A:Around) (outer:List Env) (s:Shared) (H:Hp):Prop where
 frames:A.frames=some outer
 mod:Mod K mg base
 bs:∀b o,base.get? b=some o->s.heap.get? b=some o/\H b=none
 bsz:base.objs.7<=s.heap.objs.size
 funs:s.heap.FunFrames base outer
 frf:∀b∈Mm outer,H b=none
 hok:Ae P w H s.heap
 bare:AllBare s.gens
def CE (outer:List Env) (P:Program) (w:World) (H:Hp) (s:Shared) (Q:VK) (u:Value) (s':Shared):Prop :=
 ∃v H',s'.os=s.os/\AllBare s'.gens/\Un (Mm outer) [] H H' s.heap s'.8/\Ae P w H' s'.8/\RelV v u/\Q v H'
def CR (CX:OU) (outer:List Env) (P:Program) (w:World) (H:Hp) (s:Shared) (Q:VK) (E:XK) (r:Result) (s':Shared):Prop :=
 match r with
 | .ok (.ret u)=>CE outer P w H s Q u s'
 | .ok _=>False
 | .error e=>CX outer H s E e s'
structure cB (P:Program) (w:World) (K:FG9) (mg:Str->Option Value) (base:Heap) (CX:OU) (k:Nat) (f:Addr) (fd:FuncData) (ps:List Str) (sp:Sp):Prop where
 len:∀vs H Q E,sp vs H Q E->vs.9=ps.9
 run:∀(A:Around) (outer:List Env) (s:Shared) (H:Hp) (args:Args) (us:List Value) (vs:List V) (Q:VK) (E:XK),kY k A->JK P w K mg base A outer s H->BindsTo s fd args (ps.zip us)->cV vs us->sp vs H Q E →
  codeAny (model P w) A (.call (.ref f) args) (CR CX outer P w H s Q E) s
theorem JK.make {K:FG9} (e:JK P w K mg base A outer s H) (C:Addr) (us:List Value) (kw:List (Str×Value)) :
  JK P w K mg base (A.under (.builtin "type.__call__" #[.ref C :: us,kw])) outer s H:=#[by first | exact e.frames | (simpa [Around.under,Code.envs,Code.isFrame,pushEnvs] using e.frames),e.mod,e.bs,e.bsz,e.funs,e.frf,e.hok,e.bare]
section
variable {X:Cx} {pins:List (Addr×Obj)} {σ:St} {H:Hp} {s s':Shared}
theorem Inv.env0 (I:Inv X pins σ H s):JK X.prog X.w X.K X.mg X.base X.A X.stack s H :=
 #[I.ok.frames,I.ok.mod,I.bs,ag I.ok.bsz I.sz,I.stack,I.stkFree,I.hok,I.bare]
theorem Inv.after (I:Inv X pins σ H s) (h:CE X.stack X.prog X.w H s Q u s'):EP X pins σ Q u s':=by
 obtain v|H'|os|bare|un|hok|r|q:=h;obtain hh|g|d|t|os':=s';obtain rfl:os'=s.os:=os;exact #[v,H',I.call (h':=hh) (g':=g) (d':=d) (t':=t) (ch:=[]) un hok bare (λb z=>absurd z (by simp)),r,q]
end
def MH (sp:Sp) (dvs:List V) (E:XK) (t:TA):TE:=λσ H Q=>t σ H λvs H1=>sp (vs++dvs) H1 Q E
def QT (C:Addr) (m:Str) (sp:Sp) (dvs:List V) (E:XK) (ta:TE) (t:TA):TE:=λσ H Q=>ta σ H λx H1=>∃a dx fs,x=.ref a/\H1 a=some (.ins C dx fs)/\fs.lookup m=none /\
 t σ H1 λvs H2=>sp (x :: (vs++dvs)) H2 Q E
def QU (C:Addr) (sp:Sp) (dvs:List V) (E:XK) (t:TA):TE:=λσ H Q=>t σ H λvs H1=>∀x dx,H1 x=none->H1 dx=none->dx≠x →
 sp (.ref x :: (vs++dvs)) (upd (upd H1 dx (.own x)) x (.ins C dx [])) (λv H2=>v=.non/\Q (.ref x) H2) E
def Binds (K:FG9) (fd:FuncData) (ps:List Str) (ds:List Value):Prop :=
 ∀(s:Shared) (us:List Value),K.In s.8->(us++ds).9=ps.9->BindsTo s fd #[us,[]] (ps.zip (us++ds))
theorem Binds.all {K:FG9} (h:∀us:List Value,us.9=ps.9->bindArgs fd #[us,[]]=pure (ps.zip us)):Binds K fd ps []:=λs us _ hl=>by
 rw[lU] at hl ⊢;exact .of_eq (h us hl)
def yv (CX:OU) (X:Cx) (E:XK):Prop:=∀(pins:List (Addr×Obj)) (σ:St) (H:Hp) (s:Shared) (e:Value) (s':Shared),Inv X pins σ H s->CX X.stack H s E e s'->X.xe e s'
section
variable {X:Cx} {CX:OU} {k:Nat} {f C:Addr} {fd:FuncData} {ps:List Str} {sp:Sp} {dvs:List V} {ds:List Value} {E:XK} {x m:Str} {p pos apos:Pos} {e o:Expr} {es:List Expr} {ta:TE} {t:TA}
theorem MZ {σ:St} (F:cB X.prog X.w X.K X.mg X.base CX k f fd ps sp) (hr:kY k X.A) (hb:Binds X.K fd ps ds) (hd:cV dvs ds) (hx:yv CX X E)
  (I:Inv X pins σ H s) (r:cV vs us) (h:sp (vs++dvs) H Q E):wpAny (model X.prog X.w) X.A (call (.ref f) us) (EP X pins σ Q) X.xe s:=by
 have r2:cV (vs++dvs) (us++ds):=r.append hd;have hl:(us++ds).9=ps.9:=by rw[<- r2.9];exact F.len _ _ _ _ h
 refine wpAny_call (codeAny_mono (F.run X.A X.stack s H #[us,[]] (us++ds) (vs++dvs) Q E hr I.env0 (hb s us I.kIn hl) r2 h) λr s' hq=>?_);cases r with
 | error e=>exact hx pins σ H s e s' I hq
 | ok fl =>
  cases fl with
  | ret u=>exact I.after hq
  | next=>exact False.elim hq
  | brk=>exact False.elim hq
  | cont=>exact False.elim hq
theorem zY (F:cB X.prog X.w X.K X.mg X.base CX k f fd ps sp) (hr:kY k X.A) (hg:Gl X x) (hm:X.mg x=some (.ref f)) (hk:PySem.W.keepIn X.K (.ref f)=true) (hb:Binds X.K fd ps ds) (hd:cV dvs ds) (hx:yv CX X E)
  (ha:PA X (e :: es) t) (hdb:(x == ("__debug__":Str))=false:=by decide) (he:starEach (e :: es) X.env=(false,eval e X.env) :: starEach es X.env:=by rfl) (hpl:(backTo pos (starEach es X.env)).any (·.1)=false:=by rfl) :
  PE X (.Call (.Name x p) (e :: es) [] pos) (MH sp dvs E t):=by
 intro pins s σ H Q I h;refine wpAny_Call_Name_kw (EV I hg hm ?_ hdb);refine IA (h₀:=X.base) I.ok.mod.kin hk (gL (ha pos pins s σ H _ I h) λus s1 #[vs,H1,I1,r,q]=>#[I1.kIn,?_]) he hpl;exact MZ F hr hb hd hx I1 r q
theorem Qd {pl : Sem Bool} (he : PE X o ta) (c : Mp X.K C) (hm : Th X.K C m f) (F : cB X.prog X.w X.K X.mg X.base CX k f fd ps sp) (hr : kY k X.A) (hb : Binds X.K fd ps ds) (hd : cV dvs ds) (hx : yv CX X E) (ha : PA X (e :: es) t)
    (hst : starEach (e :: es) X.env = (false, eval e X.env) :: starEach es X.env := by rfl) (hpl : (backTo pos (starEach es X.env)).any (·.1) = false := by rfl)
    (ht : eval (.Call (.Attribute o m apos) (e :: es) [] pos) X.env = (do
      let ov <- eval o X.env
      standAt apos.atName
      let (f, first) <- holding [ov] (getMethod ov m pl)
      callWith pos f first (backTo pos (starEach (e :: es) X.env)) (backToKw pos (keywordEach [] X.env))) := by rfl) :
    PE X (.Call (.Attribute o m apos) (e :: es) [] pos) (QT C m sp dvs E ta t) := by
  intro pins s σ H Q I h;refine PySem.W.methodCall_KW (pl := pl) (gL (he pins s σ H _ I h) λu s1 #[x, H1, I1, rx, a, dx, fs, ex, ea, l, q] => ?_) ht;subst ex;obtain rfl : u = Value.ref a := rx;refine Jt I1 ea c hm l ?_;refine IA (first := [.ref a]) (h₀ := X.base) I.ok.mod.kin hm.kp (gL (ha pos pins s1 σ H1 _ I1 q) λus s2 #[vs, H2, I2, r, q2] => #[I2.kIn, ?_]) hst hpl;exact MZ (us := .ref a :: us) (vs := .ref a :: vs) F hr hb hd hx I2 (.cons rfl r) q2
structure Mk (K:FG9) (C f:Addr):Prop where
 makes:PySem.W.makesIn K C=true
 init:PySem.W.findIn K (.ref C) "__init__"=some (some (.ref f))
 fn:PySem.W.isFn K (.ref f)=true
 kp:PySem.W.keepIn K (.ref C)=true
theorem MY {σ:St} (M:Mk X.K C f) (F:cB X.prog X.w X.K X.mg X.base CX k f fd ps sp) (hr:kY (k+1) X.A) (hb:Binds X.K fd ps ds) (hd:cV dvs ds)
  (hx:yv CX X E) (I:Inv X pins σ H s) (r:cV vs us)
  (h:∀x dx,H x=none->H dx=none->dx≠x->sp (.ref x :: (vs++dvs)) (upd (upd H dx (.own x)) x (.ins C dx [])) (λv H2=>v=.non/\Q (.ref x) H2) E) :
  wpAny (model X.prog X.w) X.A (call (.ref C) us) (EP X pins σ Q) X.xe s:=by
 have hq:=h (s.6+1) s.heap.objs.size (I.hok.fresh (qT _)) (I.hok.fresh (ao _)) (cg (ji _));have I2:=Inv.made (C:=C) I;have r2:cV (V.ref (s.6+1) :: (vs++dvs)) (Value.ref (s.6+1) :: (us++ds)):=.cons rfl (r.append hd)
 have hl:(Value.ref (s.6+1) :: us++ds).9=ps.9:=by
  have e:=r2.9;rw[F.len _ _ _ _ hq] at e;exact e.symm
 refine wpAny_call (NK (f:=f) I.kIn M.makes M.init (beq_iff_eq.mp M.fn) (codeAny_mono (F.run _ X.stack _ _ #[Value.ref (s.6+1) :: us,[]] (Value.ref (s.6+1) :: (us++ds)) _ _ E (hr.make C us [])
  (I2.env0.make C us []) (hb _ (Value.ref (s.6+1) :: us) I2.kIn hl) r2 hq) λr s' hq'=>?_))
 cases r with
 | error e=>exact hx pins σ _ _ e s' I2 hq'
 | ok fl =>
  cases fl with
  | ret u =>
   obtain v|H'|I3|rv|ev|q3:=I2.after hq';subst ev;exact #[rv,#[V.ref (s.6+1),H',I3,rfl,q3]]
  | next=>exact False.elim hq'
  | brk=>exact False.elim hq'
  | cont=>exact False.elim hq'
theorem Qf (M:Mk X.K C f) (F:cB X.prog X.w X.K X.mg X.base CX k f fd ps sp) (hr:kY (k+1) X.A) (hg:Gl X x) (hm:X.mg x=some (.ref C)) (hb:Binds X.K fd ps ds) (hd:cV dvs ds) (hx:yv CX X E)
  (ha:PA X (e :: es) t) (hdb:(x == ("__debug__":Str))=false:=by decide) (he:starEach (e :: es) X.env=(false,eval e X.env) :: starEach es X.env:=by rfl) (hpl:(backTo pos (starEach es X.env)).any (·.1)=false:=by rfl) :
  PE X (.Call (.Name x p) (e :: es) [] pos) (QU C sp dvs E t):=by
 intro pins s σ H Q I h;refine wpAny_Call_Name_kw (EV I hg hm ?_ hdb);refine IA (h₀:=X.base) I.ok.mod.kin M.kp (gL (ha pos pins s σ H _ I h) λus s1 #[vs,H1,I1,r,q]=>#[I1.kIn,?_]) he hpl;exact MY M F hr hb hd hx I1 r q
end
structure ba (N P:List Str) (sc:Scope):Prop where
 kind:sc.kind=.function
 co:sc.isCoroutine=false
 gen:sc.isGenerator=false
 nd:N.Nodup
 pre:N.take P.9=P
 par:∀x∈P,sc.names.lookup x=some .local\/sc.names.lookup x=some .cell
 nofree:∀y∈sc.names,y.2≠.free
theorem DM {kindOf:Str->Option NameKind} {x:Str}:∀{binds:List (Str×Value)} {m:Str->Option Value},(∀v,(x,v)∉binds)->bindL kindOf binds m x=m x
 | [],_,_=>rfl
 | (n,v) :: r,m,h=>by
  unfold bindL;rw[DM λw hw=>h w (b7 _ hw)]
  split
  ·have:x≠n:=by rintro rfl;exact h v dF
   simp [this]
  ·rfl
theorem DO {kindOf:Str->Option NameKind} {x:Str}:∀{binds:List (Str×Value)} {m:Str->Option Value},(∀v,(x,v)∉binds)->bindC kindOf binds m x=m x
 | [],_,_=>rfl
 | (n,v) :: r,m,h=>by
  unfold bindC;rw[DO λw hw=>h w (b7 _ hw)]
  split
  ·rfl
  ·have:x≠n:=by rintro rfl;exact h v dF
   simp [this]
theorem DN {kindOf:Str->Option NameKind} {x:Str} {v:Value}:∀{P:List Str} {vs:List Value} {i:Nat} {m:Str->Option Value},P.Nodup->P[i]?=some x->vs[i]?=some v->kindOf x=some .local →
  bindL kindOf (P.zip vs) m x=some v
 | [],_,_,_,_,h,_,_=>by simp at h
 | _ :: _,[],_,_,_,_,h,_=>by simp at h
 | p :: P,w :: vs,0,m,nd,h1,h2,hk=>by
  simp at h1 h2;subst h1;subst h2;show bindL kindOf ((p,w) :: P.zip vs) m p=_
  unfold bindL;rw[DM λv hv=>(fk.mp nd).1 (OY hv).1,if_pos hk];simp
 | p :: P,w :: vs,i+1,m,nd,h1,h2,hk=>by
  show bindL kindOf ((p,w) :: P.zip vs) m x=_
  unfold bindL;exact DN (i:=i) (fk.mp nd).2 (by simpa using h1) (by simpa using h2) hk
theorem DQ {kindOf:Str->Option NameKind} {x:Str} {v:Value}:∀{P:List Str} {vs:List Value} {i:Nat} {m:Str->Option Value},P.Nodup->P[i]?=some x->vs[i]?=some v->kindOf x≠some .local →
  bindC kindOf (P.zip vs) m x=some v
 | [],_,_,_,_,h,_,_=>by simp at h
 | _ :: _,[],_,_,_,_,h,_=>by simp at h
 | p :: P,w :: vs,0,m,nd,h1,h2,hk=>by
  simp at h1 h2;subst h1;subst h2;show bindC kindOf ((p,w) :: P.zip vs) m p=_
  unfold bindC;rw[DO λv hv=>(fk.mp nd).1 (OY hv).1,if_neg hk];simp
 | p :: P,w :: vs,i+1,m,nd,h1,h2,hk=>by
  show bindC kindOf ((p,w) :: P.zip vs) m x=_
  unfold bindC;exact DQ (i:=i) (fk.mp nd).2 (by simpa using h1) (by simpa using h2) hk
def start (N:List Str) (vs:List V):St:=vs.map some++List.replicate (N.9 - vs.9) none
def L7 (CX:OU) (P:Program) (w:World) (K:FG9) (mg:Str->Option Value) (base:Heap) (N:List Str) (qual:Str) (scope:Scope) (f:Addr) (cd:Value) (A:Around) (outer:List Env) (s:Shared) (H:Hp) (E:XK):Cx where
 prog:=P
 w:=w
 K:=K
 mg:=mg
 base:=base
 A:=A.deeper (envOfC qual scope s.heap.objs.size f cd)
 N:=N
 s₀:=s
 H₀:=H
 env:=envOfC qual scope s.heap.objs.size f cd
 outer:=outer
 stack:=envOfC qual scope s.heap.objs.size f cd :: outer
 ex:=[]
 calm:=true
 fn:=λ_=>true
 pn:=[]
 xe:=λe s'=>wpAny (model P w) (A.deeper (envOfC qual scope s.heap.objs.size f cd)) (leaving (envOfC qual scope s.heap.objs.size f cd) e) (λ_ s''=>CX outer H s E e s'') (λe' s''=>CX outer H s E e' s'') s'
theorem HH {sc:Scope} (h:sc.names.lookup x=some .cell):∃c,(cellsFrom n sc.names []).lookup x=some c:=by
 have q:=Af sc.names n [] (.inl h);exact TB.mp q
theorem LY {K:FG9} 
  (S:ba N ps scope) (hd:A.handled=none) (e0:JK P w K mg base A outer s H) (hl:vs.9=ps.9) (r:cV vs us)
  (x:InCallC s s.heap.objs.size (bindL (envOfC qual scope s.heap.objs.size f cd).kindOf (ps.zip us) λ_=>none) (cellsFrom (s.6+1) scope.names []) (bindC (envOfC qual scope s.heap.objs.size f cd).kindOf (ps.zip us) λ_=>none) s1) :
  Inv (L7 CX P w K mg base N qual scope f cd A outer s H E) [] (start N vs) H s1:=by
 have hpl:ps.9<=N.9:=by have:=congrArg List.length S.pre;rw[cN] at this;lia
 obtain h1|tk|rfl|hk:=x.done;have noA:∀b:Addr,b∉(L7 CX P w K mg base N qual scope f cd A outer s H E).ex:=λb z=>absurd (show b∈([]:List Addr) from z) (by simp)
 refine #[#[e0.mod,S.kind,rfl,rfl,ao _,λy z c h1 h2=>?_,λy hy=>?_,λy c _ h=>?_,λ_=>hd,Around.frames_deeper e0.frames,.inr #[rfl,rfl],λb z=>absurd z (noA b),e0.bs,e0.bsz,λb _ _=>noA b,λb z=>absurd z (noA b),e0.funs,e0.frf],
  rfl,e0.bare,Un.kept hk,#[_,x.toInCall.ns,λi y v h1 h2 h3=>?_],λy c h=>#[_,x.cell y c h],e0.hok.fresh (ao _),λy c h=>?_,λp hp=>absurd (show p∈([]:List (Addr×Obj)) from hp) (by simp),e0.hok.kept hk,?_]
 ·exact name_of_addr x.apart (lh h1) (lh h2)
 ·have hy:scope.names.lookup y=some .cell\/scope.names.lookup y=some .free:=hy;rcases hy with hy | hy
  ·exact HH hy
  ·exact absurd rfl (S.nofree _ (lh hy))
 ·exact be (x.above y c (lh h))
 ·have hi:i < vs.9:=by
   unfold start at h2;by_cases hi:i < vs.9
   ·exact hi
   ·rw[bp (by simpa using hi)] at h2;rw[gh] at h2
    split at h2 <;> cases h2
  have ha:vs[i]?=some v:=by
   unfold start at h2;rw[bG (by simpa using hi),aF] at h2;cases e:vs[i]? with
   | none=>rw[e] at h2;cases h2
   | some a=>rw[e] at h2;cases h2;rfl
  obtain u|hu|rv:=r.get ha
  have hp:ps[i]?=some y:=by
   rw[<- S.pre,lH ()];exact h1
  have ndP:ps.Nodup:=by rw[<- S.pre];exact S.nd.sublist (List.take_sublist _ _)
  refine #[u,rv,?_];rcases S.par y (av hp) with k | k
  ·exact .inl #[k,DN ndP hp hu k]
  ·obtain c|e:=HH (n:=s.6+1) k;refine .inr #[.inl k,c,e,?_];have q:=x.cell y c e;rw[DQ ndP hp hu (by show scope.names.lookup y≠_;rw[k];decide)] at q;exact q
 ·exact e0.hok.fresh (be (x.above y c (lh h)))
 ·unfold start;show _=N.9
  rw[aw,aj,aQ]
  lia
theorem UH {K:FG9} {dV kV doc pm cdv ct oc:Value} 
 (lk:K.lookup f=some #[oc,od,.func (PySem.W.fnOf name qual params body scope dV kV doc pm an cdv ct),osl]) (hcd:PySem.W.codeIn K cdv qual=true) (S:ba N ps scope)
  (len:∀vs H Q E,sp vs H Q E->vs.9=ps.9)
  (hbody:∀(A:Around) (outer:List Env) (s:Shared) (H:Hp) (vs:List V) (Q:VK) (E:XK),kY k (A.deeper (envOfC qual scope s.heap.objs.size f cdv))->sp vs H Q E →
   ∃t,JG (L7 CX P w K mg base N qual scope f cdv A outer s H E) body t/\t { nx:=λ_ H'=>Q .non H',rt:=Q } (start N vs) H) :
  cB P w K mg base CX (k+1) f (PySem.W.fnOf name qual params body scope dV kV doc pm an cdv ct) ps sp:=by
 refine #[len,λA outer s H args us vs Q E hr e0 hb r hsp=>?_];have hl:=len _ _ _ _ hsp;have KX:K.In s.8:=e0.mod.kin.keeps λb o e=>(e0.bs b o e).1
 have lim:s.heap.NoLimit:=e0.mod.nolimit.keeps λb o e=>(e0.bs b o e).1
 have hkind:∀y∈ps.zip us,scope.names.lookup y.1=some .local\/(scope.names.lookup y.1=some .cell/\((cellsFrom (s.6+1) scope.names []).lookup y.1).isSome=true):=λ#[n,v] hy=>by
  rcases S.par n (OY hy).1 with q | q
  ·exact .inl q
  ·exact .inr #[q,Af _ _ _ (.inl q)]
 refine codeAny_call_function hr.depth (KX _ _ lk) rfl S.co S.gen rfl (PySem.W.codeRec_of KX hcd) (hb _ _ _ _ ?_);refine wpAny_newFunctionEnv_cells S.kind hkind λenv he s1 x=>?_
 subst he;refine #[lim.keeps x.toInCall.keep,codeAny_func ?_];obtain t|ht|hq:=hbody A outer s H vs Q E (hr.deeper _) hsp;have I:Inv (L7 CX P w K mg base N qual scope f cdv A outer s H E) [] (start N vs) H s1:=LY S hr.hd e0 hl r x;refine wpAny_mono (ht [] s1 (start N vs) H _ I hq) (λfl s' hs=>?_) λe s' hs=>hs
 have fin:∀{σ':St} {H':Hp} {v:V} {u:Value},Inv (L7 CX P w K mg base N qual scope f cdv A outer s H E) [] σ' H' s'->RelV v u->Q v H'->CE outer P w H s Q u s' :=
  λ{σ' H' v u} J rv q=>#[v,H',J.os,J.bare,J.base,J.hok,rv,q]
 cases fl with
 | ret u =>
  obtain v|σ'|H'|J|rv|q:=hs;exact fin J rv q
 | next =>
  obtain σ'|H'|J|q:=hs;exact fin (v:=V.non) (u:=Value.none) J rfl q
 | brk =>
  obtain _|_|_|q:=hs;exact False.elim q
 | cont =>
  obtain _|_|_|q:=hs;exact False.elim q
section
variable {X:Cx} {x:Str} {p pos:Pos} {e:Expr} {es:List Expr} {t:TA} {id T:String} {r:List V->Hp->VK->Prop}
def U7 (r:List V->Hp->VK->Prop) (t:TA):TE:=λσ H Q=>t σ H λvs H1=>r vs H1 Q
theorem bB (hc:nB X (.builtin id) r) (hg:Gl X x) (hm:X.mg x=none) (hv:bootBuiltins x=some (.builtin id)) (ha:PA X (e :: es) t) (hn:x≠"__name__":=by decide) (hdb:(x == ("__debug__":Str))=false:=by decide)
  (he:starEach (e :: es) X.env=(false,eval e X.env) :: starEach es X.env:=by rfl) (hpl:(backTo pos (starEach es X.env)).any (·.1)=false:=by rfl):PE X (.Call (.Name x p) (e :: es) [] pos) (U7 r t):=by
 intro pins s σ H Q I h;refine wpAny_Call_Name_kw (j7 I hg hm hv ?_ hn hdb);exact PyProof.Rows.callWith_builtin1 (gL (ha pos pins s σ H _ I h) λus s1 #[vs,H1,I1,r1,q1]=>hc pins s1 σ H1 vs us Q I1 r1 q1) he hpl
theorem dN (hc:nB X (.type T) r) (hg:Gl X x) (hm:X.mg x=none) (hv:bootBuiltins x=some (.type T)) (ha:PA X (e :: es) t) (hn:x≠"__name__":=by decide) (hdb:(x == ("__debug__":Str))=false:=by decide)
  (he:starEach (e :: es) X.env=(false,eval e X.env) :: starEach es X.env:=by rfl) (hpl:(backTo pos (starEach es X.env)).any (·.1)=false:=by rfl):PE X (.Call (.Name x p) (e :: es) [] pos) (U7 r t):=by
 intro pins s σ H Q I h;refine wpAny_Call_Name_kw (j7 I hg hm hv ?_ hn hdb);exact PyProof.Rows.callWith_type1 (gL (ha pos pins s σ H _ I h) λus s1 #[vs,H1,I1,r1,q1]=>hc pins s1 σ H1 vs us Q I1 r1 q1) he hpl
end
end L2
namespace HT
open PySem PyProof.Rows
section
open PySem.SeqAt
open PySem.AutoSeq1 (wpAny_loadPart')
open PySem.MeetsSeq PySem.MeetsSeq2 PySem.MeetsSeq3
end
section
variable {prog:Program} {w:World} {A:Around} {E:Value->Shared->Prop} {s:Shared}
def Gi (n d:Nat):Option Int->Nat
 | none=>d
 | some v=>if v < 0 then (v+(n:Int)).toNat else min v.toNat n
theorem Gh (n d:Nat):Gi n d none=d:=rfl
theorem Kd (n d k:Nat):Gi n d (some (k:Int))=min k n:=by
 show (if (k:Int) < 0 then ((k:Int)+(n:Int)).toNat else min (k:Int).toNat n)=min k n
 rw[if_neg (),Int.toNat_natCast]
end
end HT
namespace L2
open PySem PySem.Spec PyProof.Rows
abbrev TO:=St->Hp->(Option Int->Hp->Prop)->Prop
def PO (X:Cx) (e:Option Expr) (t:TO):Prop :=
 ∀(pins:List (Addr×Obj)) (s:Shared) (σ:St) (H:Hp) (Q:Option Int->Hp->Prop),Inv X pins σ H s->t σ H Q →
  wpAny (model X.prog X.w) X.A (evalPart e X.env) (λu s'=>∃o H',Inv X pins σ H' s'/\IsPart u o/\Q o H') X.xe s
def JS:TO:=λ_ H Q=>Q none H
def QP (t:TE):TO:=λσ H Q=>t σ H λx H1=>∃i,x=.int i/\Q (some i) H1
theorem intsAre_of:∀{us:List Value},cV (ns.map V.int) us->IntsAre us ns:=by
 induction ns with
 | nil=>intro us r;rw[List.map_nil] at r;cases r;exact .nil
 | cons n ns ih =>
  intro us r;rw[iL] at r;cases r with
  | cons r1 r2 =>
   obtain t|e:=r1;subst e;exact .cons n t (ih r2)
section
variable {X:Cx} {e:Expr} {te:TE} {lo hi:Option Expr} {tl th:TO} {pos p2:Pos}
theorem Ki:PO X none JS:=by
 intro pins s σ H Q I h;rw[evalPart_none];exact wpAny_pure #[none,H,I,.none,h]
theorem Kh (h:PE X e te):PO X (some e) (QP te):=by
 intro pins s σ H Q I hw;rw[evalPart_some];refine gL (h pins s σ H _ I hw) λu s1 #[x,H1,I1,r1,q1]=>?_
 obtain i|rfl|q:=q1;obtain t|rfl:=r1;exact #[some i,H1,I1,.int i t,q]
def SlR (X:Cx) (r:V->Option Int->Option Int->Hp->VK->Prop):Prop :=
 ∀(pins:List (Addr×Obj)) (s:Shared) (σ:St) (H:Hp) (x:V) (v vl vu:Value) (lo hi:Option Int) (sl:Addr) (Q:VK),Inv X pins σ H s->RelV x v->s.heap.IsSliceOf sl vl vu .none->IsPart vl lo->IsPart vu hi->r x lo hi H Q →
  ∃T id,typeLookup (.type T) "__getitem__"=pure (some (.builtin id))/\s.TypeIs v T/\wpAny (model X.prog X.w) X.A (getItem v (.ref sl)) (EP X pins σ Q) X.xe s
def tSl (r:V->Option Int->Option Int->Hp->VK->Prop) (te:TE) (tl th:TO):TE:=λσ H Q=>te σ H λx H1=>tl σ H1 λl H2=>th σ H2 λu H3=>r x l u H3 Q
theorem Gz (hr:SlR X r) (he:PE X e te) (hl:PO X lo tl) (hu:PO X hi th):PE X (.Subscript e (.Slice lo hi none p2) pos) (tSl r te tl th):=by
 intro pins s σ H Q I h;refine Subscript_ (gL (he pins s σ H _ I h) λv s1 #[x,H1,I1,r1,q1]=>?_);refine wpAny_Slice (gL (hl pins s1 σ H1 _ I1 q1) λvl s2 #[l,H2,I2,pl,q2]=>gL (hu pins s2 σ H2 _ I2 q2) λvu s3 #[u,H3,I3,pu,q3]=>?_);rw[evalPart_none];refine wpAny_pure ?_;have I4:Inv X pins σ H3 { s3 with heap:=s3.heap.push { cls:=.type "slice",data:=.fields [vl,vu,.none].toArray } }:=I3.kept (t':=s3.toks) λb ob q=>Heap.get?_push_of_some _ q
 obtain T|id|hT|ht|hg:=hr pins { s3 with heap:=s3.heap.push { cls:=.type "slice",data:=.fields [vl,vu,.none].toArray } } σ H3 x v vl vu l u s3.heap.objs.size Q I4 r1 (Heap.IsSliceOf.new ..) pl pu q3;show wpAny (model X.prog X.w) X.A (subscriptTail e (.Slice lo hi none p2) v (.ref s3.6)) (EP X pins σ Q) X.xe { s3 with heap:=s3.heap.push { cls:=.type "slice",data:=.fields [vl,vu,.none].toArray } }
 exact tail_any (ops:=[.ref s3.6,v]) ht hT hg (by with_unfolding_all rfl)
def wO (xs:List V) (lo hi:Option Int):List V:=(xs.drop (HT.Gi xs.9 0 lo)).take (HT.Gi xs.9 xs.9 hi - HT.Gi xs.9 0 lo)
theorem y7 (xs:List V) (lo hi:Option Int):(wO xs lo hi).9<=xs.9:=by
 unfold wO;rw[cN,Mr]
 lia
end
def Ml (n:Nat) (i:Int):Option Nat:=if 0<=i then (if i < n then some i.toNat else none) else if -(n:Int)<=i then some (i+n).toNat else none
def Ir {α:Type} (xs:List α) (i:Int):Option α:=(Ml xs.9 i).bind λj=>xs[j]?
theorem Ku (h:Ml n i=some j):seqIndex? i n=some j/\j < n/\-(n:Int)<=i/\i < n:=by
 unfold Ml at h;by_cases h0:0<=i
 ·rw[if_pos h0] at h;by_cases h1:i < n
  ·rw[if_pos h1] at h;have e:i.toNat=j:=cn h;exact #[by rw[seqIndex_of h0 h1,e],(),(),h1]
  ·rw[if_neg h1] at h;cases h
 ·rw[if_neg h0] at h;by_cases h1:-(n:Int)<=i
  ·rw[if_pos h1] at h;have e:(i+n).toNat=j:=cn h;exact #[by rw[seqIndex_neg () h1,e],(),h1,()]
  ·rw[if_neg h1] at h;cases h
theorem Ff {xs:List α} {v:α} (h:Ir xs i=some v):∃j,seqIndex? i xs.9=some j/\xs[j]?=some v/\j < xs.9/\-(xs.9:Int)<=i/\i < xs.9:=by
 unfold Ir at h;cases e:Ml xs.9 i with
 | none=>rw[e] at h;cases h
 | some j =>
  rw[e] at h;obtain h1|h2|h3|h4:=Ku e;exact #[j,h1,h,h2,h3,h4]
theorem iH {xs:List α} {j:Nat} {v:α} (h:xs[j]?=some v):Ir xs (j:Int)=some v:=by
 have hj:j < xs.9:=(aM.mp h).1
 have e:Ml xs.9 (j:Int)=some j:=by
  unfold Ml;rw[if_pos (),if_pos ()];simp
 unfold Ir;rw[e];exact h
theorem wV (xs:List α) (v:α):Ir (xs++[v]) (-1)=some v:=by
 have hl:(xs++[v]).9=xs.9+1:=by simp
 have e:Ml (xs++[v]).9 (-1)=some xs.9:=by
  unfold Ml;rw[hl,if_neg (),if_pos ()];congr 1
  lia
 unfold Ir;rw[e];show (xs++[v])[xs.9]?=some v
 simp
def QG (b:Expr):Prop:=∀o i,subscripted b false o i=operate [o,i] (getItem o i)
def UQ (X:Cx) (r:R2):Prop :=
 ∀(value slice:Expr) (pins:List (Addr×Obj)) (s:Shared) (σ:St) (H:Hp) (x y:V) (v u:Value) (Q:VK),Inv X pins σ H s->RelV x v->RelV y u->r x y H Q →
  subscripted slice false v u=operate [v,u] (getItem v u)->wpAny (model X.prog X.w) X.A (subscriptTail value slice v u) (EP X pins σ Q) X.xe s
def MtR (X:Cx) (id:String) (r:V->List V->Hp->VK->Prop):Prop :=
 ∀(pins:List (Addr×Obj)) (s:Shared) (σ:St) (H:Hp) (x:V) (xs:List V) (v:Value) (us:List Value) (Q:VK),Inv X pins σ H s->RelV x v->cV xs us->r x xs H Q →
  wpAny (model X.prog X.w) X.A (call (.builtin id) (v :: us)) (EP X pins σ Q) X.xe s
section
variable {X:Cx} {a b:Expr} {ta tb:TE} {pos:Pos}
theorem aX {r:R2} (hr:UQ X r) (ha:PE X a ta) (hb:PE X b tb) (hs:QG b:=by intro _ _;rfl):PE X (.Subscript a b pos) (TU r ta tb):=by
 intro pins s σ H Q I h;exact Subscript_ (Te ha hb I h λv u s2 x y H2 I2 rx ry q=>hr a b pins s2 σ H2 x y v u Q I2 rx ry q (hs _ _))
def Sw (K:FG9):R2:=λx y H Q=>∃p xs i v,x=.ref p/\y=.int i/\bR K H p xs/\Ir xs i=some v/\Q v H
def Sv (K:FG9):R2:=λx y H Q=>∃p xs i v,x=.ref p/\y=.int i/\jB K H p xs/\Ir xs i=some v/\Q v H
theorem bT:UQ X (Sw X.K):=by
 intro value slice pins s σ H x y v u Q I rx ry h hs;obtain p|xs|i|z|rfl|rfl|hq|he|q:=h;cases rx;obtain t|rfl:=ry;obtain its|r|pl|hz:=I.list hq;obtain j|h1|h2|h3|h4|h5:=Ff he;obtain w|ew|rw':=r.get h2;have hl:=r.9;have hn:=Br;have fin:EP X pins σ Q w s:=#[z,H,I,rw',q];by_cases h0:0<=i
 ·have hj:i.toNat=j:=by
   rw[seqIndex_of h0 h5] at h1;exact cn h1
  exact item_listR pl.isList h0 () (by rw[hj];simpa using ew) fin hs
 ·have hj:(i+(its.5.7:Int)).toNat=j:=by
   rw[seqIndex_neg () h4] at h1;rw[aI,<- hl];exact cn h1
  exact subscriptTail_builtinR (x:=w) pl.isList.typeIs slot_list_getitem.lookup
   (wpAny_getItem_list_neg (Q:=λr s'=>r=w/\EP X pins σ Q r s') pl.isList () (by rw[aI] <;> lia) () (by rw[hj];simpa using ew) #[rfl,fin]) hs
theorem bu:UQ X (Sv X.K):=by
 intro value slice pins s σ H x y v u Q I rx ry h hs;obtain p|xs|i|z|rfl|rfl|hq|he|q:=h;cases rx;obtain t|rfl:=ry;obtain its|r|pl|hz:=I.tuple hq;obtain j|h1|h2|h3|h4|h5:=Ff he;obtain w|ew|rw':=r.get h2;have hl:=r.9;have hn:=Br;have fin:EP X pins σ Q w s:=#[z,H,I,rw',q]
 exact subscriptTail_builtinR (x:=w) pl.typeIs slot_tuple_getitem.lookup
  (getItem_tuple (j:=j) (Q:=λr s'=>r=w/\EP X pins σ Q r s') pl () () (by rw[aI,<- hl];exact h1) (by simpa using ew) #[rfl,fin]) hs
theorem Jl (its:List Value) (n j:Nat) (u:Value):Obj.mapSeq (·.setIfInBounds j u) { cls:=.type "list",data:=.seq its.toArray n }={ cls:=.type "list",data:=.seq (its.set j u).toArray n }:=by
 simp [Obj.mapSeq]
theorem Inv.lst {pins:List (Addr×Obj)} {σ:St} {H:Hp} {s:Shared} {p:Addr} {xs:List V} (I:Inv X pins σ H s) (h:H p=some (.lst xs)) :
  ∃(its:List Value) (n:Nat),cV xs its/\s.heap.get? p=some { cls:=.type "list",data:=.seq its.toArray n }/\xs.9<=sizeLine:=by
 obtain z|its|n|r|e:=I.hok p _ h;exact #[its,n,r,e,z]
theorem Inv.lstUpd {σ:St} {its its':List Value} (I:Inv X pins σ H s) (h:H p=some (.lst xs))
  (ho:s.heap.get? p=some { cls:=.type "list",data:=.seq its.toArray n }) (hf:f { cls:=.type "list",data:=.seq its.toArray n }={ cls:=.type "list",data:=.seq its'.toArray n' }) (r:cV ys its') (hz:ys.9<=sizeLine) (t:Nat) :
  Inv X pins σ (upd H p (.lst ys)) { s with heap:=s.heap.update p f,toks:=t }:=by
 have e:(s.heap.update p f).get? p=some { cls:=.type "list",data:=.seq its'.toArray n' }:=by
  rw[Heap.get?_update_self f ho (by rw[hf] <;> rfl),hf]
 refine I.write (x:=p) (e:=p) (by rw[h];trivial) (.inl rfl) (λb u hb q=>(Heap.get?_update_other _ _ (Ne.symm hb)).trans q) #[_,e] ?_;exact #[hz,its',n',r,e]
def Q0:V->V->V->Hp->(Hp->Prop)->Prop:=λo i v H Q=>∃p xs k j,o=.ref p/\i=.int k/\H p=some (.lst xs)/\Ml xs.9 k=some j/\Q (upd H p (.lst (xs.set j v)))
theorem set_list:Tf X Q0:=by
 intro pins s σ H o i v ov iv u Q I ro ri rv h;obtain p|xs|k|j|rfl|rfl|hp|hj|q:=h;cases ro;obtain t|rfl:=ri;obtain its|n|r|ho|hz:=I.lst hp;obtain h1|h2|h3|h4:=Ku hj;have hl:=r.9;have hn:=Br
 have I':Inv X pins σ (upd H p (.lst (xs.set j v))) { s with heap:=s.heap.update p (Obj.mapSeq (·.setIfInBounds j u)) } :=
  I.lstUpd hp ho (Jl its n j u) (r.set rv j) (by rw[d6];exact hz) s.toks
 by_cases h0:0<=k
 ·have hk:k.toNat=j:=by
   rw[seqIndex_of h0 h4] at h1;exact cn h1
  exact PySem.W.ki_setAt ho h0 () (by rw[aI,<- hl];exact h4) (by rw[hk];exact #[_,I',q])
 ·have hk:(k+(its.5.7:Int)).toNat=j:=by
   rw[seqIndex_neg () h3] at h1;rw[aI,<- hl];exact cn h1
  exact PySem.W.ki_setBack ho () (by rw[aI,<- hl];exact h3) () (by rw[hk];exact #[_,I',q])
theorem Eh (lo hi:Option Int) (n:Nat):(sliceBounds lo hi none n).1=((HT.Gi n 0 lo:Nat):Int)/\(sliceBounds lo hi none n).2.1=((HT.Gi n n hi:Nat):Int)/\(sliceBounds lo hi none n).2.2=1:=by
 refine #[?_,?_,rfl]
 ·cases lo with
  | none=>simp [sliceBounds,HT.Gi]
  | some i =>
   simp only[sliceBounds,HT.Gi,Option.getD_none,show (1:Int) > 0 by decide,if_true];by_cases h:i < 0
   ·simp only[h,if_true] <;> lia
   ·simp only[h,if_false] <;> lia
 ·cases hi with
  | none=>simp [sliceBounds,HT.Gi]
  | some i =>
   simp only[sliceBounds,HT.Gi,Option.getD_none,show (1:Int) > 0 by decide,if_true];by_cases h:i < 0
   ·simp only[h,if_true] <;> lia
   ·simp only[h,if_false] <;> lia
theorem Co (its:List Value) (lo hi:Option Int):slicePick its.toArray lo hi none=((its.drop (HT.Gi its.9 0 lo)).take (HT.Gi its.9 its.9 hi - HT.Gi its.9 0 lo)).5:=by
 obtain h1|h2|h3:=Eh lo hi its.5.7;unfold slicePick;rw[h1,h2,h3];simp only[sliceRange_one,pick_run,aI] <;> rfl
def Uj (K:FG9):V->Option Int->Option Int->Hp->VK->Prop:=λx lo hi H Q=>∃a xs,x=.ref a/\bR K H a xs/\∀p,H p=none->Q (.ref p) (upd H p (.lst (wO xs lo hi)))
theorem Kc:SlR X (Uj X.K):=by
 intro pins s σ H x v vl vu lo hi sl Q I rx hs pl pu h;obtain a|xs|rfl|hx|q:=h;cases rx;obtain its|r|ht|hz:=I.list hx;have hlen:=r.9;refine #["list",_,slot_list_getitem.lookup,ht.isList.typeIs,?_];refine wpAny_getItem_list_slice ht.isList hs pl pu .none (by simp) ?_ (by rw[aI] <;> lia);rw[Co,<- hlen];refine #[.ref s.6,_,I.laid (t':=s.toks) (o:=.lst (wO xs lo hi)) (λb ob q=>Heap.get?_push_of_some _ q) (ao _) ?_,rfl,q _ (I.hok.fresh (ao _))];exact #[ag (y7 xs lo hi) hz,_,0,(r.drop (HT.Gi xs.9 0 lo)).take (HT.Gi xs.9 xs.9 hi - HT.Gi xs.9 0 lo),Heap.get?_push_size _ rfl]
def oK:V->Bool
 | .non=>true
 | .bl _=>true
 | .int _=>true
 | .str _=>true
 | _=>false
def Rj:V->V->Bool
 | .non,.non=>true
 | .bl a,.bl b=>a == b
 | .bl a,.int b=>(if a then 1 else 0) == b
 | .int a,.bl b=>a == (if b then 1 else 0)
 | .int a,.int b=>a == b
 | .str a,.str b=>a == b
 | _,_=>false
theorem S8 (ry:RelV y u) (rx:RelV x v) (fy:oK y=true) (fx:oK x=true):SeqAt.EqAt A s u v (Rj y x):=by
 cases y with
 | non =>
  cases ry;cases x with
  | non=>cases rx;exact SeqAt.EqAt.same _
  | bl b=>cases rx;exact SeqAt.EqAt.none_bool b
  | int b=>obtain t|rfl:=rx;exact SeqAt.EqAt.none_int b t
  | str b=>obtain t|rfl:=rx;exact SeqAt.EqAt.none_str b t
  | _=>exact absurd (show false=true from fx) bo
 | bl a =>
  cases ry;cases x with
  | non=>cases rx;exact SeqAt.EqAt.bool_none a
  | bl b=>cases rx;exact SeqAt.EqAt.bool_bool a b
  | int b=>obtain t|rfl:=rx;exact SeqAt.EqAt.bool_int a b t
  | str b=>obtain t|rfl:=rx;exact SeqAt.EqAt.bool_str a b t
  | _=>exact absurd (show false=true from fx) bo
 | int a =>
  obtain t'|rfl:=ry;cases x with
  | non=>cases rx;exact SeqAt.EqAt.int_none a t'
  | bl b=>cases rx;exact SeqAt.EqAt.int_bool a t' b
  | int b=>obtain t|rfl:=rx;exact SeqAt.EqAt.int_int a t' b t
  | str b=>obtain t|rfl:=rx;exact SeqAt.EqAt.int_str a t' b t
  | _=>exact absurd (show false=true from fx) bo
 | str a =>
  obtain t'|rfl:=ry;cases x with
  | non=>cases rx;exact SeqAt.EqAt.str_none a t'
  | bl b=>cases rx;exact SeqAt.EqAt.str_bool a t' b
  | int b=>obtain t|rfl:=rx;exact SeqAt.EqAt.str_int a t' b t
  | str b=>obtain t|rfl:=rx;exact SeqAt.EqAt.str_str a t' b t
  | _=>exact absurd (show false=true from fx) bo
 | _=>exact absurd (show false=true from fy) bo
def Qu (x:V) (u:Value):Bool:=match u with
 | .none=>Rj .non x
 | .bool b=>Rj (.bl b) x
 | .int i _=>Rj (.int i) x
 | .str z _=>Rj (.str z) x
 | _=>false
theorem Oj (r:RelV y u) (f:oK y=true):Qu x u=Rj y x:=by
 cases y with
 | non=>cases r;rfl
 | bl b=>cases r;rfl
 | int i=>obtain t|rfl:=r;rfl
 | str z=>obtain t|rfl:=r;rfl
 | _=>exact absurd (show false=true from f) bo
theorem Fg {x:V}:∀{xs:List V} {us:List Value},cV xs us->xs.all oK=true->us.any (Qu x)=xs.any λy=>Rj y x
 | _,_,.nil,_=>rfl
 | y :: xs,u :: us,.cons r t,f=>by
  rw[Iq,eB] at f;rw[List.any_cons,List.any_cons,Oj r f.1,Fg t f.2]
theorem Bn {A:Around} {s:Shared} {x:V} {v:Value} (rx:RelV x v) (fx:oK x=true):∀{xs:List V} {us:List Value},cV xs us->xs.all oK=true->∀u∈us,SeqAt.EqAt A s u v (Qu x u)
 | _,_,.nil,_=>λu hu=>by cases hu
 | y :: xs,u :: us,.cons r t,f=>λu' hu=>by
  rw[Iq,eB] at f;rcases aG.mp hu with rfl | hu
  ·rw[Oj r f.1];exact S8 r rx f.1 fx
  ·exact Bn rx fx t f.2 u' hu
def U0 (x:V) (xs:List V):Bool:=xs.any λy=>Rj y x
def rIn (K:FG9) (neg:Bool):R2:=λx y H Q=>∃p xs,y=.ref p/\(bR K H p xs\/jB K H p xs)/\oK x=true/\xs.all oK=true/\Q (.bl (if neg then !U0 x xs else U0 x xs)) H
theorem LD:zF X (compareOp .In) (rIn X.K false):=by
 intro pins s σ H x y v u Q I rx ry h;obtain p|xs|rfl|hq|fx|fs|q:=h;cases ry;rcases hq with hq | hq
 ·obtain its|r|pl|hz:=I.list hq;refine SeqAt.in_listAt (Qu x) pl.isList (λw hw=>Bn rx fx r fs w (by simpa using hw)) #[.bl _,H,I,rfl,?_];rw[show its.toArray.any (Qu x)=its.any (Qu x) by simp,Fg r fs];exact q
 ·obtain its|r|pl|hz:=I.tuple hq;refine SeqAt.in_tupleAt (Qu x) pl (λw hw=>Bn rx fx r fs w (by simpa using hw)) #[.bl _,H,I,rfl,?_];rw[show its.toArray.any (Qu x)=its.any (Qu x) by simp,Fg r fs];exact q
theorem bf:nB X (.builtin "len") (λxs H Q=>∃p ys,xs=[.ref p]/\(bR X.K H p ys\/jB X.K H p ys)/\Q (.int ys.9) H):=by
 intro pins s σ H xs us Q I r h;obtain p|ys|rfl|hq|q:=h;obtain u|rfl|rx:=vals1 r;cases rx;have hn:=Br;rcases hq with hq | hq
 ·obtain its|r'|pl|hz:=I.list hq;have hlen:=r'.9;exact Calls.call_len_list pl.isList (by simp only[aI] <;> lia) #[.int ys.9,H,I.tok _,#[s.toks+1,by rw[aI,hlen]],q]
 ·obtain its|r'|pl|hz:=I.tuple hq;have hlen:=r'.9;exact len_tuple pl (by simp only[aI] <;> lia) #[.int ys.9,H,I.tok _,#[s.toks+1,by rw[aI,hlen]],q]
theorem qD:nB X (.type "list") (λxs H Q=>∃p ys,xs=[.ref p]/\(bR X.K H p ys\/jB X.K H p ys)/\∀l,H l=none->Q (.ref l) (upd H l (.lst ys))):=by
 intro pins s σ H xs us Q I r h;obtain p|ys|rfl|hq|q:=h;obtain u|rfl|rx:=vals1 r;cases rx
 have fin:∀(its:List Value),cV ys its->ys.9<=sizeLine->∀(h':Heap) (c':Nat),(∀b o',s.heap.get? b=some o'->h'.get? b=some o') →
   h'.get? s.6=some { cls:=.type "list",dict:=none,data:=.seq its.toArray c',slots:=[].toArray }->EP X pins σ Q (.ref s.6) { s with heap:=h' }:=λits r' hz h' c' kp e =>
  #[.ref s.6,_,I.laid (t':=s.toks) kp (ao _) (show gR X.prog X.w _ h' _ (.lst ys) from #[hz,its,c',r',e]),rfl,q _ (I.hok.fresh (ao _))]
 rcases hq with hq | hq
 ·obtain its|r'|pl|hz:=I.list hq;have hlen:=r'.9;obtain o|ho|hc|n|hd:=pl.isList;exact call_list_seq p (.inl rfl) ho hc hd (λh' c' kp e=>fin its r' hz h' c' kp e) (by simp only[aI] <;> lia)
 ·obtain its|r'|pl|hz:=I.tuple hq;have hlen:=r'.9;obtain o|ho|hc|n|hd:=pl;exact call_list_seq p (.inr rfl) ho hc hd (λh' c' kp e=>fin its r' hz h' c' kp e) (by simp only[aI] <;> lia)
theorem CJ:nB X (.type "tuple") (λxs H Q=>∃p ys,xs=[.ref p]/\((bR X.K H p ys/\∀l,H l=none->Q (.ref l) (upd H l (.tup ys)))\/(jB X.K H p ys/\Q (.ref p) H))):=by
 intro pins s σ H xs us Q I r h;obtain p|ys|rfl|h:=h;obtain u|rfl|rx:=vals1 r;cases rx;rcases h with ⟨hq,q⟩ | ⟨hq,q⟩
 ·obtain its|r'|pl|hz:=I.list hq;have hlen:=r'.9;refine call_tuple_list pl.isList (λh' kp=>?_) (by simp only[aI] <;> lia);have I1:Inv X pins σ H { s with heap:=h' }:=I.kept (t':=s.toks) kp
  have I2:Inv X pins σ (upd H h'.objs.size (.tup ys)) { s with heap:=h'.push { cls:=.type "tuple",data:=.seq its.5 } } :=
   I1.laid (t':=s.toks) (λb o e=>Heap.get?_push_of_some _ e) (ao _) (show gR X.prog X.w _ _ _ (.tup ys) from #[hz,its,r',IsTup.new _ _])
  exact #[.ref h'.objs.7,_,I2,rfl,q _ (I1.hok.fresh (ao _))]
 ·obtain its|r'|pl|hz:=I.tuple hq;exact call_tuple_same pl #[.ref p,H,I,rfl,q]
def U6 (K:FG9) (T:String) (x:V) (H:Hp):Prop:=match x with
 | .str _=>T="str"
 | .int _=>T="int"
 | .ref p=>(T="list"/\∃xs,bR K H p xs)\/(T="tuple"/\∃o,K.lookup p=some o/\o.cls=.type "tuple"/\o.dict=none) \/
   (T="dict"/\((∃kvs,H p=some (.dK kvs))\/∃kvs,H p=some (.dT kvs)))\/(T="set"/\∃S n,H p=some (.set S n))
 | _=>False
theorem RH {σ:St} (I:Inv X pins σ H s) (r:RelV x v) (ty:U6 X.K T x H) :
  s.TypeIs v T/\∀a,v=.ref a->∃ob,s.heap.get? a=some ob/\ob.dict=none:=by
 cases x with
 | str z =>
  obtain t|rfl:=r;cases (show T="str" from ty);exact #[typeIs_str s z t,λ_ e=>nomatch e]
 | int i =>
  obtain t|rfl:=r;cases (show T="int" from ty);exact #[typeIs_int s i t,λ_ e=>nomatch e]
 | ref p =>
  cases r;rcases ty with ⟨rfl,xs,hq⟩ | ⟨rfl,o,hk,hc,hd⟩ | ⟨rfl,hk⟩ | ⟨rfl,S,n,hk⟩
  ·obtain its|_|pl|_:=I.list hq;refine #[pl.isList.typeIs,λa e=>?_];cases e;obtain o|n|e|c|hd|_:=pl;exact #[o,e,hd]
  ·refine #[#[o,I.kIn p o hk,hc],λa e=>?_];cases e;exact #[o,I.kIn _ o hk,hd]
  ·have z:∃o,s.heap.get? p=some o/\o.ExactDict:=by
    rcases hk with ⟨kvs,hk⟩ | ⟨kvs,hk⟩
    ·obtain _|_|_|_|o|_|_|e|ex|_:=I.hok p _ hk;exact #[o,e,ex]
    ·obtain _|_|_|_|o|_|_|e|ex|_:=I.hok p _ hk;exact #[o,e,ex]
   obtain o|e|ex:=z;refine #[#[o,e,ex.1],λa e2=>?_];cases e2;exact #[o,e,ex.2.1]
  ·obtain o|_|_|_|e|ex|_:=I.hok p _ hk;refine #[#[o,e,ex.1],λa e2=>?_];cases e2;exact #[o,e,ex.2.1]
 | _=>exact False.elim ty
def tBM (K:FG9) (T:String) (r:V->List V->Hp->VK->Prop) (to:TE) (t:TA):TE:=λσ H Q=>to σ H λx H1=>U6 K T x H1/\t σ H1 λxs H2=>r x xs H2 Q
variable {o e:Expr} {es:List Expr} {to:TE} {t:TA} {name:Str} {apos cpos:Pos} {T id:String} {r:V->List V->Hp->VK->Prop}
theorem tV (pa:PlainAttrs T) (slot:Slot T name id) (hty:typeOf (.builtin id)=pure (.type "method_descriptor")) (hm:MtR X id r) (ho:PE X o to) (ha:PA X (e :: es) t)
  (hbase:attributeBase o name X.env (eval o X.env)=eval o X.env:=by rfl)
  (hfew:((backTo cpos (starEach (e :: es) X.env)).all (λx=>!x.1) && (backToKw cpos (keywordEach [] X.env)).all (λx=>x.1.isSome)
   && decide ((e :: es).9+([]:List Keyword).9+(if ([]:List Keyword).isEmpty then 0 else 1) < 30))=true:=by rfl)
  (hline:(apos.endLine == cpos.line)=true:=by rfl) (hs:starEach (e :: es) X.env=(false,eval e X.env) :: starEach es X.env:=by rfl) (hplain:(backTo cpos (starEach es X.env)).any (·.1)=false:=by rfl) :
  PE X (.Call (.Attribute o name apos) (e :: es) [] cpos) (tBM X.K T r to t):=by
 intro pins s σ H Q I h;refine wpAny_Call_method_late hbase hfew hline rfl (gL (ho pins s σ H _ I h) λv s1 #[x,H1,I1,r1,ty,q1]=>?_);obtain h1|h2:=RH I1 r1 ty;refine #[T,id,pa,slot,hty,h1,h2,?_];have hA:=ha cpos pins s1 σ H1 _ I1 q1;rw[hs] at hA ⊢;refine Calls.callWith_builtin (by show (false || (backTo cpos (starEach es X.env)).any (·.1))=false;rw[hplain] <;> rfl) (Calls.evalArgs_plain ?_);exact gL hA λus s2 ⟨vs,H2,I2,r2,q2⟩=>hm pins s2 σ H2 x vs v us Q I2 r1 r2 q2
end
def MtM (X:Cx) (id:String) (r:V->List V->Hp->VK->Prop):Prop :=
 ∀(pins:List (Addr×Obj)) (s:Shared) (σ:St) (H:Hp) (x:V) (xs:List V) (v:Value) (us:List Value) (Q:VK),Inv X pins σ H s->RelV x v->cV xs us->r x xs H Q →
  wpAny (model X.prog X.w) X.A (call (.builtin id) (v :: us)) (EP X pins σ Q) X.xe s
theorem cV.one:∀{x:V} {us:List Value},cV [x] us->∃u,us=[u]/\RelV x u
 | _,_,.cons r .nil=>#[_,rfl,r]
theorem cV.rep {xs:List V} {us:List Value} (h:cV xs us):∀k:Nat,cV (List.replicate k xs).flatten (List.replicate k us).flatten
 | 0=>.nil
 | k+1=>by
  rw[jf,jf,dR,dR];exact cV.append h (cV.rep h k)
theorem foldl_rep (its:List Value):∀(k:Nat) (acc:List Value),
  List.foldl (λx1 x2=>x1++x2) acc.toArray (List.replicate k its.5)=(acc++(List.replicate k its).flatten).5
 | 0,acc=>by simp
 | k+1,acc=>by
  have e:acc.5++its.5=(acc++its).5:=by simp
  have e2:(acc++its)++(List.replicate k its).flatten=acc++(List.replicate (k+1) its).flatten:=by
   rw[jf,dR,cF]
  rw[<- e2,<- foldl_rep its k (acc++its),<- e,jf,List.foldl_cons]
section
variable {X:Cx} {pins:List (Addr×Obj)} {σ:St} {H:Hp} {s:Shared} {l b:Addr} {xs ys zs:List V}
theorem Inv.lset {its its':List Value} (I:Inv X pins σ H s) (hH:H l=some (.lst xs))
  (e:s.heap.get? l=some { cls:=.type "list",data:=.seq its.toArray n }) (hf:f its.5=its'.5) (hv:cV ys its') (hz:ys.9<=sizeLine) :
  Inv X pins σ (upd H l (.lst ys)) { s with heap:=s.heap.update l (Obj.mapSeq f),toks:=t' }:=by
 have q:=kO e f;rw[hf] at q;refine I.write (x:=l) (e:=l) (by rw[hH];exact trivial) (.inl rfl) (λb' u hb hu=>(Heap.get?_update_other s.heap (Obj.mapSeq f) (Ne.symm hb)).trans hu) #[_,q] ?_;exact #[hz,its',_,hv,q]
theorem Inv.lnew (I:Inv X pins σ H s) (hv:cV ys its) (hz:ys.9<=sizeLine) :
  Inv X pins σ (upd H s.heap.objs.size (.lst ys)) { s with heap:=s.heap.push { cls:=.type "list",data:=.seq its.5 },toks:=t' } :=
 I.laid (λ_ _ q=>Heap.get?_push_of_some _ q) (ao _) #[hz,its,0,hv,Heap.get?_push_size _ rfl]
theorem Inv.fresh (I:Inv X pins σ H s):H s.6=none:=I.hok.fresh (ao _)
theorem Inv.lstM (I:Inv X pins σ H s) (hH:H l=some (.lst xs)):xs.9<=sizeLine/\∃(its:List Value) (n:Nat),cV xs its/\xs.9=its.9/\s.heap.get? l=some { cls:=.type "list",data:=.seq its.toArray n }:=by
 obtain z|its|n|r|e:=I.hok l _ hH;exact #[z,its,n,r,r.9,e]
theorem GH (h:n<=sizeLine):Builtin.List.listTooLong n=false:=by
 unfold Builtin.List.listTooLong;exact decide_eq_false ()
end
section
variable {X:Cx}
def Kf:V->List V->Hp->VK->Prop:=λx vs H Q=>∃l xs y,x=.ref l/\vs=[y]/\H l=some (.lst xs)/\xs.9 < sizeLine/\Q .non (upd H l (.lst (xs++[y])))
theorem ja:MtM X "list.append" Kf:=by
 intro pins s σ H x vs v us Q I rx rv h;obtain l|xs|y|rfl|rfl|hH|hz|q:=h;cases rx;obtain u|rfl|ru:=rv.one;obtain z|its|n|r|hl|e:=I.lstM hH;refine call_meets F.slot_list_append #[_,e,rfl] F.entry_list_append (F.args_list_append_2 _ _) (PySem.list_append l its.toArray n u (by rw[aI];lia)) #[e,?_];refine #[.non,_,I.lset (its':=its++[u]) hH e (by simp) (r.append (.cons ru .nil)) ?_,rfl,q];rw[aw,bI]
 lia
def P8:V->List V->Hp->VK->Prop:=λx vs H Q=>∃l b xs zs,x=.ref l/\vs=[.ref b]/\H l=some (.lst xs)/\H b=some (.lst zs)/\xs.9+zs.9<=sizeLine/\Q .non (upd H l (.lst (xs++zs)))
theorem LP:MtM X "list.extend" P8:=by
 intro pins s σ H x vs v us Q I rx rv h;obtain l|b|xs|zs|rfl|rfl|hH|hB|hz|q:=h;cases rx;obtain u|rfl|ru:=rv.one;cases ru;obtain z|its|n|r|hl|e:=I.lstM hH;obtain z2|its2|n2|r2|hl2|e2:=I.lstM hB;have hsz:its.5.7+its2.5.7<=sizeLine:=by rw[aI,aI];lia
 have hlong:¬(!its.toArray.isEmpty && Builtin.List.listTooLong (its.5.7+its2.5.7))=true:=by
  rw[GH hsz,Bool.and_false];exact bo
 refine call_meets F.slot_list_extend #[_,e,rfl] F.entry_list_extend (F.args_list_extend_2 _ _)
  (AutoSeq1.list_extend_list_list_0 l its.toArray n b its2.toArray n2 hlong (by rw[aI];lia) ()) #[e,e2,?_]
 refine #[.non,_,I.lset (its':=its++its2) hH e (by simp) (r.append r2) ?_,rfl,q];rw[aw]
 lia
def Um:R2:=λx y H Q=>∃l b xs zs,x=.ref l/\y=.ref b/\H l=some (.lst xs)/\H b=some (.lst zs)/\xs.9+zs.9<=sizeLine/\∀p,H p=none->Q (.ref p) (upd H p (.lst (xs++zs)))
theorem jS:zF X (binaryOp .Add) Um:=by
 intro pins s σ H x y v u Q I rx ry h;obtain l|b|xs|zs|rfl|rfl|hH|hB|hz|q:=h;cases rx;cases ry;obtain z|its|n|r|hl|e:=I.lstM hH;obtain z2|its2|n2|r2|hl2|e2:=I.lstM hB;refine PySem.P.add_list e e2 ?_ (by rw[aI,aI];lia);have ea:its.5++its2.5=(its++its2).5:=by simp
 rw[ea];exact #[.ref _,_,I.lnew (t':=s.toks) (r.append r2) (by rw[aw];lia),rfl,q _ I.fresh]
def Uk:R2:=λx y H Q=>∃l k xs,x=.ref l/\y=.int k/\H l=some (.lst xs)/\-(2^63)<=k/\k < 2^63/\xs.9*k.toNat<=sizeLine /\
 ∀p,H p=none->Q (.ref p) (upd H p (.lst (List.replicate k.toNat xs).flatten))
theorem len_rep {α:Type} (xs:List α) (k:Nat):(List.replicate k xs).flatten.length=k*xs.9:=by
 induction k with
 | zero=>simp
 | succ k ih=>rw[jf,dR,aw,ih,dw,nF]
theorem Nv:zF X (binaryOp .Mult) Uk:=by
 intro pins s σ H x y v u Q I rx ry h;obtain l|k|xs|rfl|rfl|hH|h1|h2|hz|q:=h;cases rx;obtain t|rfl:=ry;obtain z|its|n|r|hl|e:=I.lstM hH;have hlen:its.5.7*k.toNat<=sizeLine:=by rw[aI,<- hl];exact hz
 have hcap:¬its.5.7*k.toNat > (2^63 - 1) / 8:=by
  have:(sizeLine:Nat)<=(2^63 - 1) / 8:=()
  lia
 have hfit:¬(!Builtin.List.listFitsIndex k)=true:=by
  rw[fitsIndex_both h1 h2];exact bo
 have hlong:¬Builtin.List.listTooLong (its.5.7*k.toNat)=true:=by
  rw[GH hlen];exact bo
 have hnew:List.foldl (λx1 x2=>x1++x2) [].toArray (List.replicate (if its.toArray.isEmpty=true then 0 else k.toNat) its.5)=(List.replicate k.toNat its).flatten.toArray:=by
  have f0:∀m:Nat,List.foldl (λx1 x2=>x1++x2) [].toArray (List.replicate m its.5)=(List.replicate m its).flatten.toArray:=λm=>by
   have:=foldl_rep its m [];rw[cY] at this;exact this
  rw[f0];cases its with
  | nil=>simp
  | cons a r'=>rw[if_neg (by simp)]
 refine wpAny_binaryOp_repeat_ref (T:="list") (U:="int") () #[_,e,rfl] (λs'=>typeIs_int s' k t) noFill_list_mul F.fills_int_mul F.slot_int_rmul repeat_list F.slot_int_index.lookup
  (call_meets F.slot_int_rmul (typeIs_int s k t) F.entry_int_rmul (F.args_int_rmul_2 _ _) (int___rmul___int_list k t l its.toArray n)
   #[e,rfl,#[_,e,rfl],call_meets F.slot_list_mul #[_,e,rfl] F.entry_list_mul (F.args_list_mul_2 _ _) (AutoListH.list___mul___list_int_3 l its.toArray n k t hfit hcap hlong) #[e,?_]])
 rw[hnew];exact #[.ref _,_,I.lnew (t':=s.toks) (r.rep k.toNat) (by rw[len_rep,bY];exact hz),rfl,q _ I.fresh]
end
end L2
namespace Att
open PySem PySem.W PySem.Calls PyProof.Rows
theorem zP:∀(ns:List Int) (vs:List Value),WellAll P h vs (ns.map WData.int)->IntsAre vs ns:=by
 intro ns
 induction ns with
 | nil =>
  intro vs w;rw[List.map_nil] at w;cases w;exact .nil
 | cons n ns ih =>
  intro vs w;rw[iL] at w;cases w with
  | cons a b =>
   cases a;exact .cons _ _ (ih _ b)
theorem Ln {l:OpenLaw} (hn:l.most=some n) 
  (hpre:l.row.toRowW.claim.pre args=true) (hwl:WellAll P h vals args) :
  ∃a vs ns,vals=[Value.ref a]/\args=[WData.list (ns.map WData.int)]/\h.get? a=some { cls:=.type "list",data:=.seq vs.5 }/\IntsAre vs ns/\ns.9<=n:=by
 have hsh:WShape.hasAll [] args [.list .int]=true:=(pre_splitW hpre).1;have hc:l.pre.holds [] { args:=args }=true:=(pre_splitW hpre).2;obtain d|r|rfl|h1|h2:=hasAllW_cons hsh;obtain rfl:=hasAllW_nil h2;obtain xs|rfl|h3:=hasW_list h1;obtain ns|rfl:=items_int h3
 have hlen:ns.9<=n:=by
  unfold OpenLaw.pre at hc
  have h4:(WTm.not (.lt (.lit (.int (n:Int))) (.len (.arg 0)))).holds [] { args:=[.list (ns.map .int)] }=true:=by
   have h4:=(holds_andW hc).1;rw[hn] at h4;exact h4
  have h5:=condW_of h4 (w_not (w_lt w_lit (w_len_list (w_arg rfl))));rw[aj] at h5;refine Nat.le_of_not_lt λq=>?_
  have q':(n:Int) < ((ns.9:Nat):Int):=()
  first
   | (rw[decide_eq_true q'] at h5;exact absurd h5 ())
   | (simp at h5;lia)
 cases hwl with
 | cons w1 w2 =>
  cases w2;cases w1 with
  | list ho hall=>exact #[_,_,ns,rfl,rfl,ho,zP ns _ hall,hlen]
theorem LA (l:OpenLaw) (args:List WData):l.row.toRowW.claim.post args (.bool true) args=true :=
 postW_of (r:=l.row.toRowW) (X:=(true == true))
  (show WShape.has [] (.bool true) .bool=true by first | rfl | decide | simp [WShape.has,WShape.arms,WShape.armsAll])
  (show (WTm.eq .res (.lit (.bool true))).value [] { args:=args,res:=some (.bool true),after:=args }=some (.bool (true == true)) from w_eq_bool (w_res rfl) w_lit) rfl
theorem HQ {l:OpenLaw} 
  (hn:l.most=some n) (hdf:d.params.defaults=[])
  (call:∀(w:World) (s₀ s₁:Shared) (mg mb:Str->Option Value) (fa:Addr) (o:Obj) (pm cd doc:Value) (a:Addr) (vs:List Value) (ns:List Int),
   Ground q loose [] XP w s₀ mg mb s₁.8->YP w s₁.8 →
   s₁.heap.get? fa=some o->o.data=.func (docDef d.name d.params d.body d.scope pm cd doc)->s₁.heap.CodeRec cd d.name->mg d.name=some (.ref fa) →
   s₁.heap.get? a=some { cls:=.type "list",data:=.seq vs.5 }->IntsAre vs ns->ns.9<=n->s₁.gens=[].toArray →
   codeAny (model l.prog w) callerA (.call (.ref fa) #[[.ref a],[]]) (λr s'=>r=.ok (.ret (.bool true))/\OldK s₁.heap s'.8/\s'.os=s₁.os/\AllBare s'.gens) s₁) :
  WalkO q loose XP YP l.row.toRowW d [] (λf vs=>PySem.call f vs):=by
 intro w s₀ s₁ mg mb G Y fa o pm cd doc dV kV ho hd hcd hD hmg hg args vals as hpre hlay hrd hwl hlo;obtain rfl:dV=.none:=Dflts.none hD hdf;obtain rfl:kV=.none:=Dflts.noKw hD;obtain a|vs|ns|rfl|rfl|hobj|hints|hlen:=Ln hn hpre hwl;refine enter_call (codeAny_mono (call w s₀ s₁ mg mb fa o pm cd doc a vs ns G Y ho (fd_plain hd) hcd hmg hobj hints hlen hg) λr s' hq=>?_);obtain rfl|h2|h3|h4:=hq;exact #[.inl #[.bool true,.bool true,[],rfl,λ_=>rfl,.bool true,LA l _,λ_=>#[List.Pairwise.nil,λ_ hm=>(nomatch hm)]],h2,h3,h4]
section
variable {prog:Program} {w:World} {A:Around} {E:Value->Shared->Prop} {s:Shared} {K:Frag}
end
end Att
namespace L2
open PySem PySem.Spec PyProof.Rows
theorem CY:∀{vs:List Value} {ns:List Int},IntsAre vs ns->cV (ns.map V.int) vs
 | _,_,.nil=>.nil
 | _,_,.cons n t h=>.cons #[t,rfl] (CY h)
def Tg (H:Hp):Prop:=∀b,H b=none\/∃o xs,H b=some (.frz o (.lst xs))
theorem NO {K:FG9} 
  (KX:K.In s₁.8) (hns:s₁.heap.Ns mainGlobals mg) (hb:s₁.heap.Ns builtinsNs mb) (hbb:∀x:Str,x≠"__name__"->mb x=bootBuiltins x) (hlim:s₁.heap.NoLimit) (hsr:s₁.heap.NoSeer) (hg:s₁.gens=[].toArray)
  (ha:s₁.heap.get? a=some { cls:=.type "list",data:=.seq vs.5 }) (hi:IntsAre vs ns) (hl:ns.9<=sizeLine) (hr:kY k callerA)
  (F:∀base:Heap,K.In base->base.Ns mainGlobals mg->cB P w K mg base CX k fa fd [x] sp) (hbind:∀(s:Shared) (u:Value),BindsTo s fd #[[u],[]] [(x,u)])
  (hsp:∀H:Hp,Tg H->bR K H a (ns.map V.int)->sp [.ref a] H (λv _=>v=.bl true) λ_ _ _=>False)
  (hCX:∀H e s',CX [] H s₁ (λ_ _ _=>False) e s'->False) :
  codeAny (model P w) callerA (.call (.ref fa) #[[.ref a],[]]) (λr s'=>r=.ok (.ret (.bool true))/\OldK s₁.heap s'.8/\s'.os=s₁.os/\AllBare s'.gens) s₁:=by
 have rv:=CY hi;have lenV:=hi.length
 have core:∀H:Hp,Tg H->bR K H a (ns.map V.int)->Ae P w H s₁.8->(∀b,H b≠none->b=a)->(H a≠none->K.lookup a=none) →
   codeAny (model P w) callerA (.call (.ref fa) #[[.ref a],[]]) (λr s'=>r=.ok (.ret (.bool true))/\OldK s₁.heap s'.8/\s'.os=s₁.os/\AllBare s'.gens) s₁:=by
  intro H hO hS hok hA hK;have base_of:∀{b:Addr} {o:Obj},s₁.heap.get? b=some o->H b=none->(EZ s₁.heap H).get? b=some o:=λe n=>N3 e n
  have noA:∀{b:Addr} {o:Obj} {es:Array DictEntry} {ep:Nat},s₁.heap.get? b=some o->o.data=.dict es ep->H b=none:=λ{b o es ep} e d=>by
   cases q:H b with
   | none=>rfl
   | some u =>
    have e':b=a:=hA b (by rw[q];simp);subst e';rw[ha] at e;cases e;have d':Data.seq vs.toArray _=Data.dict es ep:=d;cases d'
  have nsK:∀{b:Addr} {m:Str->Option Value},s₁.heap.Ns b m->(EZ s₁.heap H).Ns b m:=λ{b m} #[o,es,ep,e,d,r]=>#[o,es,ep,base_of e (noA e d),d,r]
  have hKb:K.In (EZ s₁.heap H):=λb o e=>base_of (KX b o e) (by
   cases q:H b with
   | none=>rfl
   | some u =>
    have e':b=a:=hA b (by rw[q];simp);subst e';rw[hK (by rw[q];simp)] at e;cases e)
  have hM:Mod K mg (EZ s₁.heap H):=#[hKb,nsK hns,#[mb,nsK hb,hbb],let ⟨mc,h1,h2⟩:=hlim;#[mc,nsK h1,h2],#[let ⟨mc,h1,h2⟩:=hsr.statics;#[mc,nsK h1,h2],let ⟨mm,h1,h2⟩:=hsr.mods;#[mm,nsK h1,h2],#[mb,nsK hb,hbb],let ⟨mg',bm,ob,h1,h2,h3,h4,h5⟩:=hsr.main;#[mg',bm,ob,nsK h1,h2,base_of h3 (by
   cases q:H bm with
   | none=>rfl
   | some u =>
    have e':bm=a:=hA bm (by rw[q];simp);subst e';rw[ha] at h3;cases h3;injection h4 with q4
    exact absurd q4 ()),h4,h5]]]
  have e0:JK P w K mg (EZ s₁.heap H) callerA [] s₁ H:=#[rfl,hM,λb o e=>Qj e,Nat.le_of_eq (L4 _ _),trivial,λb hb=>absurd (show b∈([]:List Addr) from hb) (by simp),hok,.of_eq hg];refine codeAny_mono ((F _ hKb (nsK hns)).run callerA [] s₁ H #[[.ref a],[]] [.ref a] [.ref a] _ _ hr e0 (hbind s₁ (.ref a)) (.cons rfl .nil) (hsp H hO hS)) λr s' h=>?_
  cases r with
  | error e=>exact (hCX H e s' h).elim
  | ok fl =>
   cases fl with
   | next=>exact False.elim h
   | brk=>exact False.elim h
   | cont=>exact False.elim h
   | ret u =>
    obtain v|H'|os|bare|un|hok'|r'|q:=h;have q':v=.bl true:=q;subst q';obtain rfl:u=Value.bool true:=r';refine #[rfl,OldK.of_keep λb o e=>?_,os,bare];cases q:H b with
    | none=>exact un.keep b o e q (by intro z;exact absurd (show b∈([]:List Addr) from z) (by simp)) (by simp)
    | some u =>
     rcases hO b with z | ⟨ob,xs,z⟩
     ·rw[q] at z;cases z
     ·have z2:=un.frzs b ob _ z;obtain e1|_:=hok b _ z;obtain e2|_:=hok' b _ z2;rw[e] at e1;cases e1;exact e2
 cases hk:K.lookup a with
 | some o =>
  have e:=KX a o hk;rw[ha] at e;cases e;refine core (λ_=>none) (λ_=>.inl rfl) (.inr #[_,vs.5,_,hk,rfl,rfl,rfl,by rw[aI,lenV];exact hl,by simpa using rv]) (λb u z=>by have z':(none:Option HO)=some u:=z;cases z') (λb z=>absurd rfl z) λz=>absurd rfl z
 | none =>
  refine core (λb=>if b=a then some (.frz { cls:=.type "list",data:=.seq vs.5 } (.lst (ns.map V.int))) else none) (λb=>?_) (.inl (.inr #[{ cls:=.type "list",data:=.seq vs.5 },if_pos rfl])) (λb u z=>?_) (λb z=>?_) λ_=>hk
  ·by_cases hb:b=a
   ·exact .inr #[_,_,if_pos hb]
   ·exact .inl (if_neg hb)
  ·by_cases hb:b=a
   ·have z':=(if_pos hb).symm.trans z;cases z';subst hb;exact #[ha,by rw[aj];exact hl,vs,_,rv,ha]
   ·have z':=(if_neg hb).symm.trans z;cases z'
  ·by_cases hb:b=a
   ·exact hb
   ·exact absurd (if_neg hb) z
theorem O4 {l:PySem.W.OpenLaw} {K:Params->FG9} {CX:World->OU} {sp:World->Sp} 
  (hn:l.most=some n) (hn2:n<=sizeLine) (hdf:d.params.defaults=[]) (hr:kY k callerA) (hi:importsNone q=true)
  (hY:∀(w:World) (h:Heap),YP w h->(K w.params).In h)
  (F:∀(w:World) (mg:Str->Option Value) (fa:Addr) (h:Heap),(K w.params).In h->h.Ns mainGlobals mg->mg d.name=some (.ref fa) →
   ∃fd:FuncData,(∀(s:Shared) (u:Value),BindsTo s fd #[[u],[]] [(x,u)]) /\
    ∀base:Heap,(K w.params).In base->base.Ns mainGlobals mg->cB l.prog w (K w.params) mg base (CX w) k fa fd [x] (sp w))
  (hsp:∀(w:World) (H:Hp) (a:Addr) (ns:List Int),ns.9<=n->Tg H->bR (K w.params) H a (ns.map V.int)->sp w [.ref a] H (λv _=>v=.bl true) λ_ _ _=>False)
  (hCX:∀(w:World) (H:Hp) (s:Shared) (e:Value) (s':Shared),CX w [] H s (λ_ _ _=>False) e s'->False) :
  PySem.W.WalkO q loose XP YP l.row.toRowW d [] (λf vs=>PySem.call f vs):=by
 refine Att.HQ hn hdf λw s₀ s₁ mg mb fa o pm cd doc a vs ns G Y ho hd hcd hmg hobj hints hlen hg=>?_
 have KX:=hY w _ Y;obtain fd|hb|hF:=F w mg fa _ KX G.T.g hmg;exact NO KX G.T.g G.T.b G.T.builtins G.T.nolimit (G.T.seer hi) hg hobj hints (ag hlen hn2) hr hF hb (λH hO hS=>hsp w H a ns hlen hO hS) λH e s'=>hCX w H s₁ e s'
end L2

namespace L2
open PySem PySem.Spec PyProof.Rows
def inClass (s:Stmt) (j:Nat):Stmt:=match s with
 | .ClassDef _ _ _ body _ _ _ _ _ _ _=>body.getD j (.Pass #[0,0,0,0])
 | _=>.Pass #[0,0,0,0]
def lQ (s:Stmt):Arguments:=match s with
 | .FunctionDef _ a _ _ _ _ _ _ _ _=>a
 | _=>{ posonlyargs:=[],args:=[],vararg:=none,kwonlyargs:=[],kw_defaults:=[],kwarg:=none,defaults:=[] }
def j9 (s:Stmt):List Stmt:=match s with
 | .FunctionDef _ _ b _ _ _ _ _ _ _=>b
 | _=>[]
def aN (s:Stmt):Scope:=match s with
 | .FunctionDef _ _ _ _ _ _ sc _ _ _=>sc
 | _=>{ kind:=.function,names:=[],isGenerator:=false,isCoroutine:=false }
abbrev fL:OU:=λ_ _ _ _ _ _=>False
abbrev E0:XK:=λ_ _ _=>False
theorem Dp:yv fL X E0:=λ_ _ _ _ _ _ _ h=>h.elim
structure OS (K:FG9) (x qual:Str) (st:Stmt) (f:Addr) (fd:FuncData):Prop where
 ex:∃(oc:Value) (od:Option Addr) (kV doc pm:Value) (an:Option Addr) (cdv ct:Value) (osl:Array (Option Value)),
  fd=PySem.W.fnOf x qual (lQ st) (j9 st) (aN st) .none kV doc pm an cdv ct/\K.lookup f=some #[oc,od,.func fd,osl]/\PySem.W.codeIn K cdv qual=true
 kp:PySem.W.keepIn K (.ref f)=true
section
variable {P:Program} {w:World} {K:FG9} {mg:Str->Option Value} {base:Heap}
theorem OS.ok {st:Stmt} (F:OS K x qual st f fd) (S:ba N ps (aN st)) (len:∀vs H Q E,sp vs H Q E->vs.9=ps.9)
  (hbody:∀(cdv:Value) (A:Around) (outer:List Env) (s:Shared) (H:Hp) (vs:List V) (Q:VK) (E:XK),kY k (A.deeper (envOfC qual (aN st) s.heap.objs.size f cdv))->sp vs H Q E →
   ∃t,JG (L7 fL P w K mg base N qual (aN st) f cdv A outer s H E).nox (j9 st) t/\t { nx:=λ_ H'=>Q .non H',rt:=Q } (start N vs) H):cB P w K mg base fL (k+1) f fd ps sp:=by
 obtain oc|od|kV|doc|pm|an|cdv|ct|osl|rfl|lk|hcd:=F.ex;refine UH lk hcd S len λA outer s H vs Q E hr hsp=>?_
 obtain t|h|q:=hbody cdv A outer s H vs Q E hr hsp;exact #[t,h.nox,q]
theorem OS.binds {st:Stmt} (F:OS K x qual st f fd)
  (h:∀(kV doc pm:Value) (an:Option Addr) (cdv ct:Value) (us:List Value),us.9=ps.9->bindArgs (PySem.W.fnOf x qual (lQ st) (j9 st) (aN st) .none kV doc pm an cdv ct) #[us,[]]=pure (ps.zip us)):Binds K fd ps []:=by
 obtain oc|od|kV|doc|pm|an|cdv|ct|osl|rfl|lk|hcd:=F.ex;exact .all (h kV doc pm an cdv ct)
theorem Jw {st:Stmt} {kV doc pm cdv ct:Value} (l:K.lookup f=some #[oc,od,.func (PySem.W.fnOf x qual (lQ st) (j9 st) (aN st) .none kV doc pm an cdv ct),osl])
  (c:PySem.W.codeIn K cdv qual=true) (k:PySem.W.keepIn K (.ref f)=true):OS K x qual st f (PySem.W.fnOf x qual (lQ st) (j9 st) (aN st) .none kV doc pm an cdv ct):=#[#[oc,od,kV,doc,pm,an,cdv,ct,osl,rfl,l,c],k]
end
structure Df (K:FG9) (mg:Str->Option Value) (x:Str) (st:Stmt) (ps:List Str) (f:Addr) (fd:FuncData):Prop where
 m:mg x=some (.ref f)
 b:Binds K fd ps []
 F:OS K x x st f fd
structure Dh (K:FG9) (x:Str) (st:Stmt) (f:Addr) (fd:FuncData):Prop where
 a:PySem.W.nsIn K mainGlobals x=some (some (.ref f))
 F:OS K x x st f fd
theorem UI {K:FG9} {st:Stmt} {kV doc pm cdv ct:Value} (a:PySem.W.nsIn K mainGlobals x=some (some (.ref f))) (l:K.lookup f=some #[oc,od,.func (PySem.W.fnOf x x (lQ st) (j9 st) (aN st) .none kV doc pm an cdv ct),osl]) (c:PySem.W.codeIn K cdv x=true) (k:PySem.W.keepIn K (.ref f)=true):Dh K x st f (PySem.W.fnOf x x (lQ st) (j9 st) (aN st) .none kV doc pm an cdv ct):=#[a,Jw l c k]
theorem Dh.D {K:FG9} {x:Str} {st:Stmt} {f:Addr} {fd:FuncData} {ps:List Str} {mg:Str->Option Value} {h:Heap} (d:Dh K x st f fd) (X:K.In h) (G:h.Ns mainGlobals mg) (hb:∀(kV doc pm:Value) (an:Option Addr) (cdv ct:Value) (us:List Value),us.9=ps.9->bindArgs (PySem.W.fnOf x x (lQ st) (j9 st) (aN st) .none kV doc pm an cdv ct) #[us,[]]=pure (ps.zip us):=by walk_at "b"):Df K mg x st ps f fd:=#[PySem.W.mg_of X G d.a,d.F.binds hb,d.F]
theorem cy {X:Cx} {k k':Nat} {f:Addr} {fd:FuncData} {ps:List Str} {sp:Sp} {x:Str} {st:Stmt} {p pos:Pos} {e:Expr} {es:List Expr} {t:TA} (F:cB X.prog X.w X.K X.mg X.base fL k f fd ps sp) (hr:kY k' X.A) (D:Df X.K X.mg x st ps f fd) (ha:PA X (e :: es) t) (hle:k<=k':=by decide) (hg:Gl X x:=by exact rfl) (hdb:(x == ("__debug__":Str))=false:=by decide) (he:starEach (e :: es) X.env=(false,eval e X.env) :: starEach es X.env:=by rfl) (hpl:(backTo pos (starEach es X.env)).any (·.1)=false:=by rfl):PE X (.Call (.Name x p) (e :: es) [] pos) (MH sp [] E0 t):=zY F (hr.mono hle) hg D.m D.F.kp D.b .nil Dp ha hdb he hpl
theorem bC (h:n<=1000):n < sizeLine:=bx h ()
section
variable {X:Cx}
theorem pv (i:Nat) {x:Str} {pos:Pos} (hN:X.N[i]?=some x:=by rfl) (hv:Vl X.env.scope x:=by first | exact Or.inl rfl | exact Or.inr (Or.inl rfl) | exact Or.inr (Or.inr rfl)) (hd:(x == ("__debug__":Str))=false:=by decide)
  (hcd:(x == ("__classdict__":Str))=false:=by decide):PE X (.Name x pos) (RL i):=SG hN hv hd hcd
end
theorem NS {A B:Prop} (h:B):if false=true then A else B:=by
 rw[if_neg bo];exact h
theorem Uy {A B:Prop} (h:A):if true=true then A else B:=by
 rw[if_pos rfl];exact h
theorem gY {c A B:Prop} [Decidable c] (h1:c->A) (h2:¬c->B):if c then A else B:=by
 by_cases h:c
 ·rw[if_pos h];exact h1 h
 ·rw[if_neg h];exact h2 h
def aH (H H':Hp):Prop:=∀b o,H b=some o->H' b=some o
theorem aH.refl (H:Hp):aH H H:=λ_ _ h=>h
theorem aH.trans (a:aH H H1) (b:aH H1 H2):aH H H2:=λc o h=>b c o (a c o h)
theorem aH.free (e:aH H H') (h:H' l=Option.none):H l=Option.none:=by
 cases q:H l with
 | none=>rfl
 | some o =>
  rw[e l o q] at h;cases h
theorem aH.seq {K:FG9} (e:aH H H') (h:bR K H a xs):bR K H' a xs:=by
 rcases h with (h | ⟨o,h⟩) | h
 ·exact .inl (.inl (e _ _ h))
 ·exact .inl (.inr #[o,e _ _ h])
 ·exact .inr h
end L2
namespace Nm
theorem Oa (a b:Int):Int.gcd b (a.fmod b)=Int.gcd a b:=by
 rw[Int.fmod_def,jt a b];apply Nat.dvd_antisymm
 ·apply OP
  ·exact fF ..
  ·have h1:=fF (a:=b) (b:=a - b*a.fdiv b);have h2:=gi (a:=b) (b:=a - b*a.fdiv b);have h3:=Int.dvd_add h2 (mL (c:=a.fdiv b) h1);rwa [Int.sub_add_cancel] at h3
 ·apply OP
  ·exact fF ..
  ·exact Int.dvd_sub (gi ..) (mL (fF ..))
theorem Ob (a b:Int):Int.gcd b (a % b)=Int.gcd a b:=by
 rw[Int.emod_def,jt a b];apply Nat.dvd_antisymm
 ·apply OP
  ·exact fF ..
  ·have h1:=fF (a:=b) (b:=a - b*(a / b));have h2:=gi (a:=b) (b:=a - b*(a / b));have h3:=Int.dvd_add h2 (mL (c:=a / b) h1);rwa [Int.sub_add_cancel] at h3
 ·apply OP
  ·exact fF ..
  ·exact Int.dvd_sub (gi ..) (mL (fF ..))
theorem Qt (a b:Int) (h:b≠0):(a.fmod b).natAbs < b.natAbs:=by
 rcases Int.lt_or_gt_of_ne h with h | h
 ·have e:a.fmod b=-((-a).fmod (-b)):=by
   have:=Int.neg_fmod_neg (-a) (-b);simp only[Int.neg_neg] at this;exact this
  have h1:=Int.fmod_nonneg_of_pos (-a) (b:=-b) ();have h2:=Int.fmod_lt_of_pos (-a) (b:=-b) ()
  lia
 ·have h1:=Int.fmod_nonneg_of_pos a h;have h2:=Int.fmod_lt_of_pos a h
  lia
def g (t b:Int):Int:=(Int.gcd t b:Int)
def lo (t b:Int):Int:=t / g t b
def hi (t b:Int):Int:=b / g t b
theorem BA (h:b≠0):0 < g t b:=by
 unfold g;have:0 < Int.gcd t b:=O0 _ h
 lia
theorem Bq (t b:Int):lo t b*g t b=t:=Int.ediv_mul_cancel (fF ..)
theorem yh (t b:Int):hi t b*g t b=b:=Int.ediv_mul_cancel (gi ..)
theorem E3 (h:0 < b):0 < hi t b:=by
 have h1:=BA (t:=t) (b:=b) ();have h2:=yh t b;by_cases h3:0 < hi t b
 ·exact h3
 ·have:hi t b*g t b<=0:=Int.mul_nonpos_of_nonpos_of_nonneg () ()
  lia
theorem Bo (h:b≠0):Int.gcd (lo t b) (hi t b)=1:=by
 have h1:=BA (t:=t) h;have e:=Int.gcd_mul_right (lo t b) (g t b) (hi t b);rw[Bq,yh] at e;have e2:(g t b).natAbs=Int.gcd t b:=by unfold g;simp
 rw[e2] at e;have h2:0 < Int.gcd t b:=O0 _ h;exact Nat.eq_of_mul_eq_mul_right h2 (by rw[<- e,qS])
theorem Bp (t b:Int):lo t b*b=t*hi t b:=by
 have h1:=Bq t b;have h2:=yh t b
 calc lo t b*b=lo t b*(hi t b*g t b):=by rw[h2]
  _=(lo t b*g t b)*hi t b:=by rw[gN (hi t b),<- dX]
  _=t*hi t b:=by rw[h1]
theorem qr (h:Int.gcd a b=1) (hd:a∣b*c):a∣c:=by
 have h1:a.natAbs∣b.natAbs*c.natAbs:=by rw[<- dk];exact ij.mpr hd
 have h2:Nat.Coprime a.natAbs b.natAbs:=h;exact ij.mp (h2.dvd_of_dvd_mul_left h1)
theorem uniq (hb:0 < b) (hd:0 < d) (h1:Int.gcd a b=1) (h2:Int.gcd c d=1) (e:a*d=c*b):a=c/\b=d:=by
 have e1:b∣d:=by
  have:b∣a*d:=#[c,by rw[e,gN]];exact qr (by rw[jt];exact h1) this
 have e2:d∣b:=by
  have:d∣c*b:=#[a,by rw[<- e,gN]];exact qr (by rw[jt];exact h2) this
 have e3:b=d:=Int.dvd_antisymm () () e1 e2;subst e3;exact #[uM () e,rfl]
theorem SO (hb:0 < b) (hd:0 < d) (h2:Int.gcd c d=1) (e:t*d=c*b):lo t b=c/\hi t b=d:=by
 refine uniq (E3 hb) hd (Bo ()) h2 ?_;have h:=Bp t b;have hb':b≠0:=()
 apply uM hb'
 calc lo t b*d*b=lo t b*b*d:=by rw[dX,gN d b,<- dX]
  _=t*hi t b*d:=by rw[h]
  _=t*d*hi t b:=by rw[dX,gN (hi t b),<- dX]
  _=c*b*hi t b:=by rw[e]
  _=c*hi t b*b:=by rw[dX,gN b,<- dX]
theorem SQ (hb:0 < b) (h:Int.gcd a b=1):lo a b=a/\hi a b=b:=SO hb hb h rfl
theorem nZ {a b:Int} (h:b≠0):a.natAbs<=(a*b).natAbs:=by
 rw[dk];exact c7 _ (Int.natAbs_pos.mpr h)
theorem lo_le (h:b≠0):(lo t b).natAbs<=t.natAbs:=by
 have:=nZ (a:=lo t b) (b:=g t b) (by have:=BA (t:=t) h;lia);rwa [Bq] at this
theorem Rf (h:b≠0):(hi t b).natAbs<=b.natAbs:=by
 have:=nZ (a:=hi t b) (b:=g t b) (by have:=BA (t:=t) h;lia);rwa [yh] at this
def Sz (k:Nat) (x:Int):Prop:=x.natAbs < 2^k
theorem Sz.mono (h:Sz j x) (l:j<=k):Sz k x:=bF h (au () l)
theorem Sz.mul (h1:Sz j x) (h2:Sz k y):Sz (j+k) (x*y):=by
 unfold Sz at *
 rw[dk,aB];exact Nat.mul_lt_mul'' h1 h2
theorem Sz.neg (h:Sz k x):Sz k (-x):=by unfold Sz at *;rw[uL];exact h
theorem Sz.le (h:Sz k y) (l:x.natAbs<=y.natAbs):Sz k x:=bx l h
theorem Sz.hi {k:Nat} {t b:Int} (h:Sz k b) (hb:b≠0):Sz k (hi t b):=h.le (Rf hb)
end Nm
namespace L2
open PySem PySem.Spec PyProof.Rows
structure Bk (env:Env) (scope:Scope) (own capN:List Str):Prop where
 kind:scope.kind=.function
 locs:∀y∈scope.names,y.2=.local->scope.names.lookup y.1=some .local
 ownk:∀x∈own,scope.names.lookup x=some .local\/scope.names.lookup x=some .cell
 cells:∀y∈scope.names,y.2=.cell->y.1∈own/\y.1∉capN
 frees:∀y∈scope.names,y.2=.free->y.1∈capN/\y.1∉own
 capf:∀x∈capN,scope.names.lookup x=some .free
 caps:∀x∈capN,env.kindOf x=some .cell\/env.kindOf x=some .free
def U1 (scope:Scope) (own capN:List Str):Bool :=
 decide (scope.kind=.function) && scope.names.all (λy=>decide (y.2=.local->scope.names.lookup y.1=some .local) && decide (y.2=.cell->y.1∈own/\y.1∉capN) && decide (y.2=.free->y.1∈capN/\y.1∉own)) &&
 own.all (λx=>decide (scope.names.lookup x=some .local\/scope.names.lookup x=some .cell)) && capN.all λx=>decide (scope.names.lookup x=some .free)
def DL (env:Env):List Str->Bool
 | []=>true
 | x :: r=>(match env.kindOf x with | some .cell=>true | some .free=>true | _=>false) && DL env r
theorem HM {env:Env}:∀{capN:List Str},DL env capN=true->∀x∈capN,env.kindOf x=some .cell\/env.kindOf x=some .free
 | [],_,_,h=>nomatch h
 | y :: r,h,x,hx=>by
  unfold DL at h;rw[eB] at h;rcases aG.mp hx with e | hx
  ·subst e;have h1:=h.1
   split at h1
   ·rename_i e;exact .inl e
   ·rename_i e;exact .inr e
   ·cases h1
  ·exact HM h.2 x hx
theorem Bk.of (h1:U1 scope own capN=true) (h2:DL env capN=true):Bk env scope own capN:=by
 unfold U1 at h1;rw[eB,eB,eB,o5,o5,o5] at h1;obtain ⟨⟨a1,a2⟩,a3⟩|a4:=h1
 have a2':∀y∈scope.names,(y.2=.local->scope.names.lookup y.1=some .local)/\(y.2=.cell->y.1∈own/\y.1∉capN)/\(y.2=.free->y.1∈capN/\y.1∉own):=λy hy=>by
  have q:=a2 y hy;rw[eB,eB] at q;exact #[of_decide_eq_true q.1.1,of_decide_eq_true q.1.2,of_decide_eq_true q.2]
 exact #[of_decide_eq_true a1,λy hy=>(a2' y hy).1,λx hx=>of_decide_eq_true (a3 x hx),λy hy=>(a2' y hy).2.1,λy hy=>(a2' y hy).2.2,λx hx=>of_decide_eq_true (a4 x hx),HM h2]
def eK (env:Env):List (Str×NameKind)->List (Str×Addr)->List (Str×Addr)
 | [],acc=>acc
 | (n,k) :: r,acc=>if k == .free then eK env r ((n,(env.cells.lookup n).getD 0) :: acc) else eK env r acc
theorem jd (env:Env):∀(names:List (Str×NameKind)) (acc:List (Str×Addr)),eK env names acc=eK env names []++acc
 | [],_=>rfl
 | (n,k) :: r,acc=>by
  unfold eK
  split
  ·rw[jd env r (_ :: acc),jd env r [_],cF];rfl
  ·exact jd env r acc
theorem qB (env:Env):∀(names:List (Str×NameKind)) {x:Str} {c:Addr},(x,c)∈eK env names []->(x,NameKind.free)∈names/\c=(env.cells.lookup x).getD 0
 | [],_,_,h=>nomatch h
 | (n,k) :: r,x,c,h=>by
  unfold eK at h
  split at h
  ·rename_i hk
   have ek:k=.free:=by simpa using hk
   subst ek;rw[jd] at h;rcases aA.mp h with h | h
   ·have q:=qB env r h;exact #[b7 _ q.1,q.2]
   ·have e:(x,c)=(n,(env.cells.lookup n).getD 0):=by simpa using h
    cases e;exact #[dF,rfl]
  ·have q:=qB env r h;exact #[b7 _ q.1,q.2]
theorem jA {α:Type}:∀{l:List (Str×α)} {x:Str} {c:α},(x,c)∈l->∃d,l.lookup x=some d
 | (k,v) :: r,x,c,h=>by
  rw[kR];cases hb:x == k with
  | true=>exact #[v,rfl]
  | false =>
   rcases aG.mp h with e | h
   ·cases e;simp at hb
   ·exact jA h
theorem qC (env:Env):∀(names:List (Str×NameKind)) {x:Str},(x,NameKind.free)∈names->∃c,(x,c)∈eK env names []
 | (n,k) :: r,x,h=>by
  unfold eK;rcases aG.mp h with e | h
  ·cases e;rw[if_pos (),jd];exact #[_,bH _ dF]
  ·obtain c|q:=qC env r h
   split
   ·rw[jd];exact #[c,dG _ q]
   ·exact #[c,q]
theorem BN (h:∀y∈scope.names,y.2=.free->∃c,env.cells.lookup y.1=some c):closureFor scope env=pure (eK env scope.names []):=by
 have gen:∀(names:List (Str×NameKind)) (acc:List (Str×Addr)) (f:Str×NameKind->List (Str×Addr)->Sem (ForInStep (List (Str×Addr)))),
   (∀name kind cells,f (name,kind) cells=if kind == .free then (do let a <- cellOf env name;pure (.yield ((name,a) :: cells))) else pure (.yield cells)) →
   (∀y∈names,y.2=.free->∃c,env.cells.lookup y.1=some c)->forIn names acc f=pure (eK env names acc):=by
  intro names
  induction names with
  | nil=>intro acc f hf _;rw[D3];rfl
  | cons y r ih =>
   intro acc f hf hh;obtain n|k:=y;rw[OZ,hf];unfold eK;by_cases hk:(k == NameKind.free)=true
   ·obtain c|hc:=hh (n,k) dF (by simpa using hk);have hc':env.cells.lookup n=some c:=hc;have e:cellOf env n=pure c:=by unfold cellOf;rw[hc']
    rw[if_pos hk,if_pos hk,e,hc'];simp only[pure_bind,Mq];exact ih _ f hf λy hy=>hh y (b7 _ hy)
   ·rw[if_neg hk,if_neg hk];simp only[pure_bind];exact ih _ f hf λy hy=>hh y (b7 _ hy)
 simp only[closureFor];rw[gen scope.names [] _ (λname kind cells=>by cases hkc:kind == NameKind.free <;> simp [hkc]) h];rfl
theorem gG:∀(names:List (Str×NameKind)) (n:Nat) (acc:List (Str×Addr)),cellsFrom n names acc=cellsFrom n names []++acc
 | [],_,_=>rfl
 | (x,k) :: r,n,acc=>by
  unfold cellsFrom
  split
  ·rw[gG r (n+1) (_ :: acc),gG r (n+1) [_],cF];rfl
  ·exact gG r n acc
theorem kN:∀(names:List (Str×NameKind)) (n:Nat) {x:Str} {c:Addr},(x,c)∈cellsFrom n names []->(x,NameKind.cell)∈names
 | [],_,_,_,h=>nomatch h
 | (y,k) :: r,n,x,c,h=>by
  unfold cellsFrom at h
  split at h
  ·rename_i hk
   have ek:k=.cell:=by simpa using hk
   subst ek;rw[gG] at h;rcases aA.mp h with h | h
   ·exact b7 _ (kN r _ h)
   ·have e:(x,c)=(y,n):=by simpa using h
    cases e;exact dF
  ·exact b7 _ (kN r _ h)
def yp (env:Env) (scope:Scope) (C:Addr):Env :=
 { scope:=relabel scope env,locals:=C,globals:=env.globals,cells:=cellsFrom (C+1) scope.names (eK env scope.names []),qual:=env.qual,func:=none,code:=env.code,frame:=env.frame,builtins:=env.builtins }
theorem GK 
  (h:Q (newEnv scope s.heap.objs.size g (cellsFrom (s.6+1) scope.names cl) qual none .none (some env) builtinsNs) { s with heap:=pushCells (s.heap.push { cls:=.type "dict",data:=.dict [].toArray }) scope.names }) :
  wpAny M A (newFunctionEnv scope g cl [] qual none .none (some env)) Q E s:=by
 simp only[newFunctionEnv,Option.isSome_some,if_true];refine wpAny_bind (wpAny_alloc ?_);refine wpAny_bind (wpAny_layCells _ (λname kind cells=>by cases hkc:kind == NameKind.cell <;> simp [hkc]) _ _ _ _ ?_);rw[show ({ s with heap:=s.heap.push { cls:=.type "dict",data:=.dict [].toArray } }:Shared).6=s.6+1 from Heap.size_push ..];rw[D3];exact wpAny_bind (wpAny_pure (wpAny_pure h))
theorem vG:∀{k:NameKind},(relabel scope env).names.lookup x=some k->∃k0,scope.names.lookup x=some k0/\(k=k0\/(k0=.free/\k=.cell)):=by
 unfold relabel;show ∀{k:NameKind},(scope.names.map λ(n,k)=>if (k == NameKind.free && env.scope.kind == .function && env.kindOf n == some .cell) then (n,NameKind.cell) else (n,k)).lookup x=some k->_
 induction scope.names with
 | nil=>intro k h;cases h
 | cons y r ih =>
  intro k h;obtain n|k1:=y;rw[iL,kR] at h;rw[kR];by_cases hc:(k1 == NameKind.free && env.scope.kind == .function && env.kindOf n == some .cell)=true
  ·simp only[hc,if_true] at h;cases hb:x == n with
   | true =>
    simp only[hb] at h
    have e1:k1=.free:=by
     rw[eB,eB] at hc;simpa using hc.1.1
    cases h;exact #[k1,rfl,.inr #[e1,rfl]]
   | false=>simp only[hb] at h;exact ih h
  ·have hc':(k1 == NameKind.free && env.scope.kind == .function && env.kindOf n == some .cell)=false:=by simpa using hc
   simp only[hc',jv,if_false] at h;cases hb:x == n with
   | true=>simp only[hb] at h;cases h;exact #[_,rfl,.inl rfl]
   | false=>simp only[hb] at h;exact ih h
theorem Gr:scope.names.lookup x=some .free->(relabel scope env).names.lookup x=some .cell\/(relabel scope env).names.lookup x=some .free:=by
 unfold relabel;show _->(scope.names.map λ(n,k)=>if (k == NameKind.free && env.scope.kind == .function && env.kindOf n == some .cell) then (n,NameKind.cell) else (n,k)).lookup x=some .cell\/(scope.names.map λ(n,k)=>if (k == NameKind.free && env.scope.kind == .function && env.kindOf n == some .cell) then (n,NameKind.cell) else (n,k)).lookup x=some .free
 induction scope.names with
 | nil=>intro h;cases h
 | cons y r ih =>
  intro h;obtain n|k1:=y;rw[kR] at h;rw[iL];by_cases hc:(k1 == NameKind.free && env.scope.kind == .function && env.kindOf n == some .cell)=true
  ·simp only[hc,if_true,kR];cases hb:x == n with
   | true=>exact .inl rfl
   | false=>rw[hb] at h;exact ih h
  ·have hc':(k1 == NameKind.free && env.scope.kind == .function && env.kindOf n == some .cell)=false:=by simpa using hc
   simp only[hc',jv,if_false,kR];cases hb:x == n with
   | true=>rw[hb] at h;cases h;exact .inr rfl
   | false=>rw[hb] at h;exact ih h
structure Bz where
 s:Shared
 H:Hp
 fp:List Addr
 C:Addr
def zR (X:Cx) (own capN:List Str) (scope:Scope) (Z:Bz):Cx where
 prog:=X.prog
 w:=X.w
 K:=X.K
 mg:=X.mg
 base:=X.base
 A:=X.A
 N:=own++capN
 s₀:=Z.s
 H₀:=Z.H
 env:=yp X.env scope Z.C
 outer:=X.stack
 stack:=X.stack
 ex:=Z.fp
 fn:=λx=>own.contains x
 calm:=true
 pn:=[]
 xe:=λ_ _=>False
section
variable {X:Cx} {pins:List (Addr×Obj)} {σ:St} {own capN:List Str} {scope:Scope} {Z:Bz}
theorem jG (B:Bk X.env scope own capN) (I:Inv X pins σ Z.H Z.s) (h:(yp X.env scope Z.C).cells.lookup x=some c) :
  (x∈own/\(x,c)∈cellsFrom (Z.C+1) scope.names [])\/(x∈capN/\x∉own/\X.env.cells.lookup x=some c):=by
 have h':(cellsFrom (Z.C+1) scope.names (eK X.env scope.names [])).lookup x=some c:=h;rw[gG] at h';rcases aA.mp (mem_of_lookup h') with m | m
 ·exact .inl #[(B.cells _ (kN _ _ m) rfl).1,m]
 ·obtain m1|e:=qB _ _ m;obtain q1|q2:=B.frees _ m1 rfl;obtain d|hd:=I.ok.has x (B.caps x q1);rw[hd] at e;exact .inr #[q1,q2,by rw[hd,e];rfl]
theorem QD (B:Bk X.env scope own capN) (I:Inv X pins σ Z.H Z.s) (hx:x∈capN) (h:X.env.cells.lookup x=some c):(yp X.env scope Z.C).cells.lookup x=some c:=by
 have hm:(x,NameKind.free)∈scope.names:=mem_of_lookup (B.capf x hx);obtain c1|m1:=qC X.env scope.names hm
 have hs:∃d,(yp X.env scope Z.C).cells.lookup x=some d:=by
  show ∃d,(cellsFrom (Z.C+1) scope.names (eK X.env scope.names [])).lookup x=some d
  rw[gG];exact jA (bH _ m1)
 obtain d|hd:=hs;rcases jG B I hd with ⟨q,m⟩ | ⟨_,_,q⟩
 ·exact absurd hx (B.cells _ (kN _ _ m) rfl).2
 ·rw[h] at q;cases q;exact hd
theorem LC (h:Heap) (C:Addr) (hC:h.objs.7=C+1) (names:List (Str×NameKind)):CellsOk (pushCells h names) (C+1) (cellsFrom (C+1) names []):=by
 have q:=cellsFrom_ok names h (C+1) [] #[λ_ _ hm=>(nomatch hm),List.Pairwise.nil] (by rw[hC];exact ao _);rwa [hC] at q
theorem Fe (I:Inv X pins σ Z.H Z.s) (h:X.env.cells.lookup x=some c):@LT.lt Nat instLTNat c Z.s.6:=by
 obtain v|q:=I.cell x c h;exact q.lt
theorem Td (I:Inv X pins σ Z.H Z.s) (hc:X.calm=true) (B:Bk X.env scope own capN) (hC:Z.s.6<=Z.C) (hcl:CellsOk h1 (Z.C+1) (cellsFrom (Z.C+1) scope.names []))
  (hf:∀b∈Z.fp,kH X pins Z.H b/\@LT.lt Nat instLTNat b Z.s.6):(zR X own capN scope Z).Ok:=by
 refine #[I.ok.mod,B.kind,I.ok.glob,I.ok.blt,hC,λx y c h1 h2=>?_,λx hx=>?_,λx c hx h=>?_,λ_=>I.ok.hd hc,I.ok.frames,.inl rfl,λb hb=>#[?_,λx c h=>?_],I.bs,ag I.ok.bsz I.sz,λb o e hb=>?_,λb hb hz=>?_,I.stack,I.stkFree]
 ·rcases jG B I h1 with ⟨q1,m1⟩ | ⟨q1,n1,m1⟩ <;> rcases jG B I h2 with ⟨q2,m2⟩ | ⟨q2,n2,m2⟩
  ·exact name_of_addr hcl.apart m1 m2
  ·have l1:=(hcl.empty _ _ m1).2;have l2:=Fe I m2
   lia
  ·have l1:=(hcl.empty _ _ m2).2;have l2:=Fe I m1
   lia
  ·exact I.ok.inj x y c m1 m2
 ·have hx':(relabel scope X.env).names.lookup x=some .cell\/(relabel scope X.env).names.lookup x=some .free:=hx
  have hk:scope.names.lookup x=some .cell\/scope.names.lookup x=some .free:=by
   rcases hx' with h | h
   ·obtain ⟨k0,e,q | ⟨q,_⟩⟩:=vG h
    ·exact .inl (by rw[e,<- q])
    ·exact .inr (by rw[e,q])
   ·obtain ⟨k0,e,q | ⟨_,q⟩⟩:=vG h
    ·exact .inr (by rw[e,<- q])
    ·cases q
  show ∃c,(cellsFrom (Z.C+1) scope.names (eK X.env scope.names [])).lookup x=some c
  rcases hk with h | h
  ·exact TB.mp (Af scope.names (Z.C+1) _ (.inl h))
  ·obtain c|m:=qC X.env scope.names (mem_of_lookup h);rw[gG];exact jA (bH _ m)
 ·have ho:x∈own:=by have hx':own.contains x=true:=hx;simpa using hx'
  rcases jG B I h with ⟨_,m⟩ | ⟨_,n,_⟩
  ·have:=(hcl.empty _ _ m).2;have hC':Z.s.6<=Z.C:=hC;show Z.s.6<=c
   lia
  ·exact absurd ho n
 ·intro e;have e':@Eq Nat b Z.C:=e;have:=(hf b hb).2
  lia
 ·have l:=(hf b hb).2;rcases jG B I h with ⟨_,m⟩ | ⟨_,_,m⟩
  ·intro e;have e':@Eq Nat c b:=e;have:=(hcl.empty _ _ m).2
   lia
  ·exact (hf b hb).1.2.2.2.2.1 x c m
 ·obtain _|_|_|f3|_:=(hf b hb).1;rcases f3 with f3 | f3
  ·exact I.ok.noex b o e f3
  ·exact absurd (bF (Heap.lt_size e) (ag I.ok.bsz f3)) (fO _)
 ·obtain _|f1|f2|_:=(hf b hb).1;rcases aG.mp (I.stkSub b hz) with e | e
  ·exact f1 e
  ·exact f2 e
def Mj (k:Nat) (cap:List Nat) (σ:St):St:=List.replicate k none++cap.map λj=>(σ[j]?).join
def zH (X:Cx) (capN:List Str) (cap:List Nat):Prop:=cap.map (λj=>X.N[j]?)=capN.map some
theorem zH.get (h:zH X capN cap) {i:Nat} (e:capN[i]?=some x):∃j,cap[i]?=some j/\X.N[j]?=some x:=by
 have q:=congrArg (λl=>l[i]?) h;simp only[aF,e,Option.map_some] at q;cases hc:cap[i]? with
 | none=>rw[hc] at q;cases q
 | some j=>rw[hc] at q;exact #[j,rfl,by simpa using q]
theorem HN (I:Inv X pins σ Z.H Z.s) (B:Bk X.env scope own capN) (hcap:zH X capN cap)
  (kc:∀x c,X.env.cells.lookup x=some c->∀v,Z.s.heap.IsCell c v->h'.IsCell c v) {i:Nat} (e1:(own++capN)[i]?=some x) (e2:(Mj own.9 cap σ)[i]?=some (some v)) :
  ∃u,RelV v u/\Look (yp X.env scope Z.C) h' m x u:=by
 have hi:own.9<=i:=by
  by_cases hi:own.9<=i
  ·exact hi
  ·exfalso
   unfold Mj at e2;rw[bG (by simpa using hi),gh] at e2
   split at e2 <;> cases e2
 rw[bp hi] at e1;unfold Mj at e2;rw[bp (by simpa using hi),aQ,aF] at e2;obtain j|hj|hN:=hcap.get e1;rw[hj] at e2;have e3:(σ[j]?).join=some v:=by simpa using e2
 have e4:σ[j]?=some (some v):=by
  cases q:σ[j]? with
  | none=>rw[q] at e3;cases e3
  | some o=>rw[q] at e3;simp at e3;rw[e3]
 have hx:x∈capN:=av e1;have hk:=B.caps x hx;obtain m0|_|hl:=I.loc;obtain u|r|l:=hl j x v hN e4 (.inr hk);refine #[u,r,.inr #[Gr (B.capf x hx),?_]];rcases l with ⟨hk2,_⟩ | ⟨_,c,hc,z⟩
 ·rcases hk with hk | hk
  ·rw[hk] at hk2;cases hk2
  ·rw[hk] at hk2;cases hk2
 ·exact #[c,QD B I hx hc,kc x c hc _ z]
theorem UG (I:Inv X pins σ Z.H Z.s) (h:b∈Mm X.stack):@LT.lt Nat instLTNat b Z.s.6:=by
 obtain _|o|ho|_:=I.stack.mem h;exact Heap.lt_size ho
theorem Qz {D:Addr} (I:Inv X pins σ Z.H Z.s) (hc:X.calm=true) (B:Bk X.env scope own capN) (hcap:zH X capN cap) (hC:Z.s.6<=Z.C)
  (hcl:CellsOk h1 (Z.C+1) (cellsFrom (Z.C+1) scope.names [])) (hf:∀b∈Z.fp,kH X pins Z.H b/\@LT.lt Nat instLTNat b Z.s.6)
  (hk:∀b o,Z.s.heap.get? b=some o->h1.get? b=some o) (hn:h1.Ns Z.C λ_=>none) (hD:Z.s.6<=D) (hDC:D≠Z.C) (hoD:h1.get? D=some oD) (hdD:∀v,oD.data≠.cell v) :
  Inv (zR X own capN scope Z) [(D,oD)] (Mj own.9 cap σ) Z.H { Z.s with heap:=h1,toks:=t1 }:=by
 refine #[Td I hc B hC hcl hf,rfl,I.bare,Un.kept hk,#[_,hn,λi x v e1 e2 _=>HN I B hcap (λx c _ v z=>z.keeps hk) e1 e2],λx c h=>?_,I.hok.fresh hC,λx c h=>?_,λp hp=>?_,I.hok.kept hk,?_]
 ·rcases jG B I h with ⟨_,m⟩ | ⟨_,_,m⟩
  ·exact #[none,(hcl.empty _ _ m).1]
  ·obtain v|q:=I.cell x c m;exact #[v,q.keeps hk]
 ·rcases jG B I h with ⟨_,m⟩ | ⟨_,_,m⟩
  ·exact I.hok.fresh (by have:=(hcl.empty _ _ m).2;lia)
  ·exact I.freeC x c m
 ·have e:p=(D,oD):=by simpa [zR] using hp
  subst e;exact #[hoD,I.hok.fresh hD,hDC,λz=>fO _ (bF (UG I z) hD),hdD]
 ·show (Mj own.9 cap σ).9=(own++capN).9
  have:=congrArg List.length hcap;simp only[aj] at this;unfold Mj;simp [this]
theorem OD {σ':St} (I:Inv X pins σ Z.H Z.s) (B:Bk X.env scope own capN) (hcap:zH X capN cap) (hf:∀b∈Z.fp,kH X pins Z.H b/\@LT.lt Nat instLTNat b Z.s.6)
  (J:Inv (zR X own capN scope Z) pins' σ' H' s'):Inv (zR X own capN scope Z) pins' (Mj own.9 cap σ) H' s':=by
 refine #[J.ok,J.os,J.bare,J.base,?_,J.cell,J.free,J.freeC,J.pin,J.hok,?_]
 ·obtain m|hn|_:=J.loc;refine #[m,hn,λi x v e1 e2 _=>HN I B hcap (λx c hx v z=>?_) e1 e2];obtain o|ho|hd:=z;obtain sl|e:=J.base.any ho (I.freeC x c hx) λz=>(hf c z).1.2.2.2.2.1 x c hx rfl
  exact #[_,e,hd]
 ·show (Mj own.9 cap σ).9=(own++capN).9
  have:=congrArg List.length hcap;simp only[aj] at this;unfold Mj;simp [this]
theorem QC {σ':St} {D:Addr} (I:Inv X pins σ Z.H Z.s) (hf:∀b∈Z.fp,kH X pins Z.H b/\@LT.lt Nat instLTNat b Z.s.6) (hD:Z.s.6<=D)
  (J:Inv (zR X own capN scope Z) [(D,{ cls:=.type "list",data:=.seq its.toArray n })] σ' H' s') (r:cV ys its) (hz:ys.9<=sizeLine) :
  Inv X pins σ (upd H' D (.lst ys)) s':=by
 have pD:=J.pin (D,{ cls:=.type "list",data:=.seq its.toArray n }) (by simp);have ne:∀{b:Addr} {o:Obj},Z.s.heap.get? b=some o->b≠D:=λe z=>by subst z;exact fO _ (bF (Heap.lt_size e) hD)
 have nt:∀{b:Addr} {u:HO},H' b=some u->b≠D:=λe z=>by rw[z,pD.2.1] at e;cases e
 refine I.call' (ch:=Z.fp) J.os #[J.base.keep,J.base.slot,λb o e h hx=>?_,J.base.there,λb xs e=>?_,λb o u e=>?_,λb ps e=>?_] (λb u e=>?_) J.bare λb hb=>?_
 ·rw[bM (ne e)];exact J.base.free b o e h hx
 ·have q:=J.base.tups b xs e;rw[bM (nt q)];exact q
 ·have q:=J.base.frzs b o u e;rw[bM (nt q)];exact q
 ·obtain more|q:=J.base.tbls b ps e;exact #[more,by rw[bM (nt q)];exact q]
 ·by_cases hb:b=D
  ·subst hb;rw[aL] at e;cases e;exact #[hz,its,n,r,pD.1]
  ·rw[bM hb] at e;exact (J.hok b u e).stay (λc v _ q=>q) (λc q=>by rw[bM (nt q)];exact q) λc xs q=>by rw[bM (nt q)];exact q
 ·obtain _|f1|_|f3|f4|f5:=(hf b hb).1;exact #[f3,f1,f4,f5]
end
theorem RK {t:Sem α} {Q Q':α->Shared->Prop} (h:wpAny M A t Q (λ_ _=>False) s) (hQ:∀a s,Q a s->Q' a s):wpAny M A t Q' E s :=
 wpAny_mono h hQ λ_ _ z=>False.elim z
theorem Fd (I:Nat->Shared->Prop)
  (turn:∀(E:Value->Shared->Prop) n s,I n s->wpAny (model prog w) A (pyNext it) (λr s₁=>match r with
   | none=>R (.ok .next) s₁
   | some v=>wpAny (model prog w) A (letOwnedTupleGo target it v) (λ_ s₂=>wpAny (model prog w) A (assign target env v) (λ_ s₃ =>
     wpAny (model prog w) A (forIn ifs true λc r=>if r=true then do let ok <- isTrue c env (eval c env);pure (ForInStep.yield ok) else pure (ForInStep.yield r)) (λok s₄ =>
      if ok=true then wpAny (model prog w) A (eval elt env) (λx s₅=>wpAny (model prog w) A (call (.builtin "list.append") [acc,x]) (λ_ s₆=>∃m,m < n/\I m s₆) E s₅) E s₄
      else ∃m,m < n/\I m s₄) E s₃) E s₂) E s₁) E s)
  (n:Nat) (h:I n s):codeAny (model prog w) A (.compLoop (.ListComp elt [#[target,iter,ifs,0]] scope pos) 0 it acc env) R s:=by
 refine codeAny_loop rfl I (λn s hI=>?_) n h;show wpAny _ A ((compTurn (.ListComp elt [#[target,iter,ifs,0]] scope pos) 0 it acc env).onRaise (λx=>do noteFrame x env;theTreesLotGoes x)) _ _ s
 refine wpAny_noted ?_;rw[compTurn_list];refine wpAny_bind (wpAny_standAt (wpAny_bind (wpAny_mono (turn _ n s hI) (λr s₁ h₁=>?_) λ_ _ h'=>h')));cases r with
 | none=>exact wpAny_pure h₁
 | some v =>
  refine wpAny_bind (wpAny_mono h₁ (λ_ s₂ h₂=>wpAny_bind (wpAny_mono h₂ (λ_ s₃ h₃=>wpAny_bind (wpAny_mono h₃ (λok s₄ h₄=>?_) λ_ _ h'=>h')) λ_ _ h'=>h')) λ_ _ h'=>h');cases ok with
  | false=>exact wpAny_pure #[rfl,h₄]
  | true =>
   exact wpAny_bind (wpAny_bind (wpAny_mono h₄ (λx s₅ h₅=>wpAny_bind (wpAny_mono h₅ (λ_ s₆ h₆=>wpAny_pure (wpAny_pure #[rfl,h₆])) λ_ _ h'=>h')) λ_ _ h'=>h'))
def PF (X:Cx) (ifs:List Expr) (t:TT):Prop :=
 ∀(pins:List (Addr×Obj)) (s:Shared) (σ:St) (H:Hp) (Q:Bool->Hp->Prop),Inv X pins σ H s->t σ H Q →
  wpAny (model X.prog X.w) X.A (forIn ifs true λc r=>if r=true then do let ok <- isTrue c X.env (eval c X.env);pure (ForInStep.yield ok) else pure (ForInStep.yield r)) (TP X pins σ Q) X.xe s
def TK:TT:=λ_ H Q=>Q true H
theorem cw:PF X [] TK:=λ_ _ _ H _ I h=>wpAny_tests_nil #[H,I,h]
def oF (σ₀:St) (g:TG) (tf:TT) (te:TE) (x:V) (H:Hp) (NY:V->Hp->Prop) (NN:Hp->Prop):Prop :=
 g x σ₀ H λσ2 H2=>tf σ2 H2 λb H3=>if b=true then te σ2 H3 NY else NN H3
def oW (J:It) (σ₀:St) (g:TG) (tf:TT) (te:TE) (Q:VK) (H1:Hp):Prop :=
 ∃W:Nat->Nat->List V->Hp->Prop,(∃m,W 0 m [] H1)/\∀i m ys H,W i m ys H →
  (J.stop i H/\ys.9<=sizeLine/\∀p,H p=none->Q (.ref p) (upd H p (.lst ys))) \/
  (J.go i H/\ys.9 < sizeLine/\∃(NY:V->Hp->Prop) (NN:Hp->Prop),(∀y H',NY y H'->∃m',m' < m/\W (i+1) m' (ys++[y]) H')/\(∀H',NN H'->∃m',m' < m/\W (i+1) m' ys H') /\
   ∀x H',J.yld i H x H'->oF σ₀ g tf te x H' NY NN)
def FO (wi:TI) (k:Nat) (cap:List Nat) (g:TG) (tf:TT) (te:TE):TE:=λσ H Q=>wi σ H λJ H1=>oW J (Mj k cap σ) g tf te Q H1
abbrev lobj (its:List Value) (n:Nat):Obj:={ cls:=.type "list",data:=.seq its.toArray n }
section
variable {X:Cx} {own capN:List Str} {cap:List Nat} {scope:Scope} {elt tg iter:Expr} {ifs:List Expr} {pos:Pos} {wi:TI} {g:TG} {tf:TT} {te:TE}
theorem DJ (hc:X.calm=true) (B:Bk X.env scope own capN) (hcap:zH X capN cap)
  (hi:PI X tg iter wi) (hg:∀Z,PG (zR X own capN scope Z) tg g) (hf:∀Z,PF (zR X own capN scope Z) ifs tf) (he:∀Z,PE (zR X own capN scope Z) elt te)
  (hs:∀x,foldedSetIterable iter X.env x=pure x) {σ:St} (I:Inv X pins σ H s) (h:FO wi own.9 cap g tf te σ H Q)
  (fin:∀(D C:Addr) (s':Shared) (H':Hp),Inv X pins σ H' s'->kH X pins H' C->(∃m,s'.heap.Ns C m)->Q (.ref D) H'->compPost (model X.prog X.w) X.A X.xe use Qe (.ref D) C (.ok .next) s') :
  wpAny (model X.prog X.w) X.A (comprehension (.ListComp elt [#[tg,iter,ifs,0]] scope pos) scope X.env fpos (newList []) false (eval iter X.env) use) Qe X.xe s:=by
 refine wpAny_comprehension_free (use:=use) rfl hs (BN λy hy hk=>I.ok.has y.1 (B.caps _ (B.frees y hy hk).1)) B.kind B.locs ?_;refine gL (hi pins s σ H _ I h) λv s1 h1=>gL h1 λitv s2 h2=>?_
 obtain it|fp|tn|J|H2|e|I2|T|st2|f2|W|⟨m0,w0⟩|turn:=h2;subst e;have hfp:∀b∈fp,kH X pins H2 b/\@LT.lt Nat instLTNat b s2.6:=λb hb=>#[f2 b hb,let ⟨_,e,_⟩:=T.obj _ _ st2 b hb;Heap.lt_size e]
 refine wpAny_newObj_type (GK ?_) (bg _);have es:(s2.heap.push { cls:=.type "list",data:=.seq ([]:List Value).5 }).objs.size=s2.6+1:=Heap.size_push ..
 show codeAny _ _ (.compStart _ 0 (.ref it) (.ref s2.6) { newEnv scope (s2.heap.push { cls:=.type "list",data:=.seq ([]:List Value).5 }).objs.size X.env.globals (cellsFrom ((s2.heap.push { cls:=.type "list",data:=.seq ([]:List Value).5 }).objs.size+1) scope.names (eK X.env scope.names [])) X.env.qual none .none (some X.env) builtinsNs with scope:=relabel scope X.env })
  (compPost (model X.prog X.w) X.A X.xe use Qe (.ref s2.6) (s2.heap.push { cls:=.type "list",data:=.seq ([]:List Value).5 }).objs.size)
  { s2 with heap:=pushCells ((s2.heap.push { cls:=.type "list",data:=.seq ([]:List Value).5 }).push { cls:=.type "dict",data:=.dict [].toArray }) scope.names }
 have hk1:∀b o,(s2.heap.push { cls:=.type "list",data:=.seq ([]:List Value).5 }).get? b=some o->(pushCells ((s2.heap.push { cls:=.type "list",data:=.seq ([]:List Value).5 }).push { cls:=.type "dict",data:=.dict [].toArray }) scope.names).get? b=some o :=
  λb o e=>pushCells_keeps _ _ _ _ (Heap.get?_push_of_some _ e)
 have hk:∀b o,s2.heap.get? b=some o->(pushCells ((s2.heap.push { cls:=.type "list",data:=.seq ([]:List Value).5 }).push { cls:=.type "dict",data:=.dict [].toArray }) scope.names).get? b=some o:=λb o e=>hk1 b o (Heap.get?_push_of_some _ e)
 have hoD:=hk1 s2.heap.objs.size _ (Heap.get?_push_size s2.heap (o:={ cls:=.type "list",data:=.seq ([]:List Value).5 }) rfl);have hn:=(Heap.Ns.new (s2.heap.push { cls:=.type "list",data:=.seq ([]:List Value).5 }) (.type "dict")).keeps (pushCells_keeps scope.names _);have hcl:=LC ((s2.heap.push { cls:=.type "list",data:=.seq ([]:List Value).5 }).push { cls:=.type "dict",data:=.dict [].toArray }) (s2.6+1) (by rw[Heap.size_push,es]) scope.names;rw[es] at hn ⊢;generalize pushCells ((s2.heap.push { cls:=.type "list",data:=.seq ([]:List Value).5 }).push { cls:=.type "dict",data:=.dict [].toArray }) scope.names=h3 at hk hoD hn hcl ⊢;have Z:Bz:=#[s2,H2,fp,s2.6+1]
 have I3:Inv (zR X own capN scope #[s2,H2,fp,s2.6+1]) [(s2.6,lobj [] 0)] (Mj own.9 cap σ) H2 { s2 with heap:=h3 } :=
  Qz (Z:=#[s2,H2,fp,s2.6+1]) (t1:=s2.toks) I2 hc B hcap (qT _) hcl hfp hk hn (ao _) (cg (ji _)) hoD (λv z=>nomatch z)
 have st3:tn 0 h3:=T.keep _ _ _ st2 λb _ o e=>hk b o e
 have loop:codeAny (model X.prog X.w) X.A (.compLoop (.ListComp elt [#[tg,iter,ifs,0]] scope pos) 0 (.ref it) (.ref s2.6) (yp X.env scope (s2.6+1))) (compPost (model X.prog X.w) X.A X.xe use Qe (.ref s2.6) (s2.6+1)) { s2 with heap:=h3 }:=by
  refine Fd (λm s'=>∃i ys σ' H' its n,Inv (zR X own capN scope #[s2,H2,fp,s2.6+1]) [(s2.6,lobj its n)] σ' H' s'/\tn i s'.8/\(∀b∈fp,H' b=none)/\cV ys its/\W i m ys H') ?_ m0
   #[0,[],_,H2,[],0,I3,st3,λb hb=>(f2 b hb).1,.nil,w0]
  rintro E n s4 ⟨i,ys,σ4,H4,its,k,I4,st4,fr4,rv,w4⟩
  have fpo:∀{pp:List (Addr×Obj)} {H':Hp},(∀p∈pp,p.1=s2.6)->(∀b∈fp,H' b=none)->∀b∈fp,kH (zR X own capN scope #[s2,H2,fp,s2.6+1]) pp H' b:=λ{pp H'} hpp hn b hb=>by
   obtain e1|e2:=I4.ok.exf b hb;refine #[hn b hb,e1,I4.ok.exfs b hb,.inl hb,e2,λp hp=>?_];have hp':p∈pp:=by simpa [zR] using hp
   have l:=(hfp b hb).2;rw[hpp p hp'];exact λz=>fO _ (by rw[<- z] at l;exact l)
  have pinD:∀{its:List Value} {n:Nat},∀p∈[(s2.6,lobj its n)],p.1=s2.6:=λp hp=>by simp at hp;rw[hp]
  rcases turn i n ys H4 w4 with ⟨stop,hz,q⟩ | ⟨go,hlt,NY,NN,hNY,hNN,step⟩
  ·refine gL (T.done (zR X own capN scope #[s2,H2,fp,s2.6+1]) rfl rfl rfl rfl i _ s4 σ4 H4 E I4 (fpo pinD fr4) st4 stop) λr s5 #[hr,I5]=>?_
   subst hr;have pD:=I5.pin (s2.6,lobj its k) (by simp);have I6:=QC (Z:=#[s2,H2,fp,s2.6+1]) I2 hfp (ao _) I5 rv hz
   have hC:upd H4 s2.heap.objs.size (.lst ys) (s2.6+1)=none:=by
    rw[bM (La (ji _))];exact I5.free
   obtain m|hm|_:=I5.loc;exact fin _ _ s5 _ I6 (I2.fpOk (qT _) hC) #[m,hm] (q _ pD.2.1)
  ·refine gL (T.item (zR X own capN scope #[s2,H2,fp,s2.6+1]) rfl rfl rfl rfl i _ s4 σ4 H4 E I4 (fpo pinD fr4) st4 go) λr s5 #[u,hr,h5]=>?_
   subst hr;refine gL h5 λ_ s6 #[x,H6,I6,r6,y6,st6,fr6]=>?_
   have I6':=(OD (Z:=#[s2,H2,fp,s2.6+1]) I2 B hcap hfp I6).pinned (fpo pinD fr6) (T.obj _ _ st6)
   have back:∀{σ7:St} {H7:Hp} {s7:Shared},Inv (zR X own capN scope #[s2,H2,fp,s2.6+1]) ([(s2.6,lobj its k)]++A1 fp s6.8) σ7 H7 s7 →
     Inv (zR X own capN scope #[s2,H2,fp,s2.6+1]) [(s2.6,lobj its k)] σ7 H7 s7/\tn (i+1) s7.8/\∀b∈fp,H7 b=none:=λ{σ7 H7 s7} I7=>by
    refine #[I7.unpinned,T.keep _ _ _ st6 λb hb o e=>(I7.pin (b,o) (bH _ (bH _ (qi hb e)))).1,λb hb=>?_];obtain o|e|d:=T.obj _ _ st6 b hb;exact (I7.pin (b,o) (bH _ (bH _ (qi hb e)))).2.1
   refine RK (hg _ _ s6 _ H6 x u _ I6' r6 (step x H6 y6)) λ_ s7 #[σ7,H7,I7,q7]=>?_
   refine RK (hf _ _ s7 σ7 H7 _ I7 q7) λok s8 #[H8,I8,q8]=>?_
   cases ok with
   | false =>
    rw[if_neg bo] at q8 ⊢;obtain m'|hm|w8:=hNN H8 q8;obtain J1|J2|J3:=back I8;exact #[m',hm,i+1,ys,σ7,H8,its,k,J1,J2,J3,rv,w8]
   | true =>
    rw[if_pos rfl] at q8 ⊢;refine RK (he _ _ s8 σ7 H8 _ I8 q8) λz s9 #[y,H9,I9,r9,q9]=>?_
    obtain J1|J2|J3:=back I9;obtain m'|hm|w9:=hNY y H9 q9;have pD:=J1.pin (s2.6,lobj its k) (by simp);have hl:=rv.9;refine call_meets F.slot_list_append #[_,pD.1,rfl] F.entry_list_append (F.args_list_append_2 _ _) (PySem.list_append s2.heap.objs.size its.toArray k z (by rw[aI];lia)) #[pD.1,?_];have e9:=kO pD.1 (λa=>a.push z);have e9':(its.toArray.push z)=(its++[z]).5:=by simp
    rw[e9'] at e9;obtain ⟨n',e9⟩:∃n',(s9.heap.update s2.heap.objs.size (Obj.mapSeq λa=>a.push z)).get? s2.6=some (lobj (its++[z]) n'):=#[_,e9]
    have J4:Inv (zR X own capN scope #[s2,H2,fp,s2.6+1]) [] σ7 H9 { s9 with heap:=s9.heap.update s2.heap.objs.size (Obj.mapSeq λa=>a.push z),toks:=s9.toks } :=
     (J1.pins_of (pins':=[]) λp hp=>nomatch hp).turned (λb o hb e=>(Heap.get?_update_other s9.heap _ (Ne.symm hb)).trans e) pD.2.1 pD.2.2.1 (.inr (ao _)) (λx c hx z=>by
      rcases jG (Z:=⟨s2,H2,fp,s2.6+1⟩) B I2 hx with ⟨_,m⟩ | ⟨_,_,m⟩
      ·have:=(hcl.empty _ _ m).2;have z':@Eq Nat c s2.6:=z
       lia
      ·have:=Fe (Z:=#[s2,H2,fp,s2.6+1]) I2 m;rw[z] at this;exact fO _ this) λp hp=>by simp [zR] at hp
    have nfp:∀b∈fp,b≠s2.6:=λb hb z=>by have:=(hfp b hb).2;rw[z] at this;exact fO _ this
    refine #[m',hm,i+1,ys++[y],σ7,H9,its++[z],n',J4.pins_of λp hp=>?_,T.keep _ _ _ J2 λb hb o e=>(Heap.get?_update_other s9.heap _ (Ne.symm (nfp b hb))).trans e,J3,rv.append (.cons r9 .nil),w9];have ep:p=(s2.6,lobj (its++[z]) n'):=by simpa using hp
    rw[ep];exact #[e9,pD.2.1,pD.2.2.1,pD.2.2.2.1,λv z=>nomatch z]
 exact codeAny_compStart_list loop (T.self _ _ _ _ _ st3 loop)
theorem b9 (own capN:List Str) (cap:List Nat) (hi:PI X tg iter wi) (hg:∀Z,PG (zR X own capN scope Z) tg g) (hf:∀Z,PF (zR X own capN scope Z) ifs tf) (he:∀Z,PE (zR X own capN scope Z) elt te)
  (h1:U1 scope own capN=true:=by decide +kernel) (h2:DL X.env capN=true:=by rfl) (hcap:zH X capN cap:=by rfl) (hc:X.calm=true:=by rfl) (hs:∀x,foldedSetIterable iter X.env x=pure x:=by intro _;rfl) :
  PE X (.ListComp elt [#[tg,iter,ifs,0]] scope pos) (FO wi own.9 cap g tf te):=by
 intro pins s σ H Q I h;rw[eval_ListComp];refine DJ (use:=none) hc (Bk.of h1 h2) hcap hi hg hf he hs I h λD C s' H' I' fC hm q=>?_
 obtain m|hm:=hm;refine #[m,hm,λh' hs'=>?_];obtain f0|f1|f2|f3|f4|f5:=fC;exact #[.ref D,H',I'.turned (t':=s'.toks) (λb o hb e=>(hs'.2 b hb).trans e) f0 f1 f3 f4 f5,rfl,q]
theorem pN (i:Nat) (own capN:List Str) (cap:List Nat) {x:Str} {pos' spos:Pos} (hN:X.N.Nodup) (hi':X.N[i]?=some x) (hx:X.env.scope.names.lookup x=some .local) (hi:PI X tg iter wi) (hg:∀Z,PG (zR X own capN scope Z) tg g) (hf:∀Z,PF (zR X own capN scope Z) ifs tf) (he:∀Z,PE (zR X own capN scope Z) elt te)
  (h1:U1 scope own capN=true:=by decide +kernel) (h2:DL X.env capN=true:=by rfl) (hcap:zH X capN cap:=by rfl) (hc:X.calm=true:=by rfl) (hs:∀x,foldedSetIterable iter X.env x=pure x:=by intro _;rfl)
  (hsw:swapsWith (.ListComp elt [#[tg,iter,ifs,0]] scope pos) (some (.Name x pos')) spos.line X.env=pure true:=by rfl) :
  PS X (.Assign [.Name x pos'] (.ListComp elt [#[tg,iter,ifs,0]] scope pos) spos) (O8 (FO wi own.9 cap g tf te) (Kx i)):=by
 intro pins s σ H D I h;rw[exec_Assign_Name_used _ _ _ _ hsw];refine wpAny_bind (wpAny_standAt (wpAny_bind ?_));rw[arm_evalThenUse_ListComp];refine wpAny_bind (DJ (Q:=λv H1=>D.nx (σ.set i (some v)) H1) (use:=some _) hc (Bk.of h1 h2) hcap hi hg hf he hs I h λL C s' H' I' fC hm q=>?_);obtain m|hm:=hm;obtain f0|f1|f2|f3|f4|f5:=fC;refine wpAny_assign_Name (C2 I' hN hi' (.inl hx) (v:=.ref L) rfl (λs'' I'' #[a,sb,ha]=>?_) (.inr hx))
 have hCa:C≠a:=by
  rcases ha with e | e
  ·rw[e];exact f1
  ·exact (f4 x a e).symm
 refine #[m,hm.at' λo e=>(sb.2 C hCa).trans e,λh' hs'=>?_];have I3:=I''.turned (h':=h') (t':=s''.toks) (λb o hb e=>(hs'.2 b hb).trans e) f0 f1 f3 f4 f5;exact wpAny_pure (wpAny_pure #[_,H',I3,q])
end
section
variable {K:FG9} {a:Addr} {xs:List V} {g:TG} {tf:TT} {te:TE} {Q:VK} {σ₀:St} {H:Hp}
theorem fR (Pv:Nat->List V->Hp->Prop) (hz:xs.9<=sizeLine) (h0:Pv 0 [] H) (hl:∀i ys H,i<=xs.9->Pv i ys H->bR K H a xs)
  (hs:∀i x ys H,xs[i]?=some x->ys.9<=i->Pv i ys H->oF σ₀ g tf te x H (λy H'=>Pv (i+1) (ys++[y]) H') (λH'=>Pv (i+1) ys H'))
  (hd:∀ys H,ys.9<=xs.9->Pv xs.9 ys H->∀p,H p=none->Q (.ref p) (upd H p (.lst ys))):oW (OR K a) σ₀ g tf te Q H:=by
 refine #[λi m ys H=>m=xs.9 - i/\i<=xs.9/\ys.9<=i/\Pv i ys H,#[xs.9,by simp,bg _,bg _,h0],?_];rintro i m ys H ⟨rfl,hi,hy,p⟩;have q:=hl i ys H hi p;by_cases hlt:i < xs.9
 ·refine .inr #[#[xs,xs[i],q,by simp [hlt]],(),λy H'=>Pv (i+1) (ys++[y]) H',λH'=>Pv (i+1) ys H',λy H' p'=>#[xs.9 - (i+1),(),rfl,hlt,by rw[aw,bI];lia,p'],λH' p'=>#[xs.9 - (i+1),(),rfl,hlt,(),p'],λx H' y=>?_];obtain e|y:=y;subst e;exact hs i x ys _ (y xs q) hy p
 ·have e:i=xs.9:=()
  subst e;exact .inl #[#[xs,q,ao _],(),hd ys H hy p]
theorem Oz (Pv:Nat->List V->Hp->Prop) (hz:xs.9<=sizeLine) (h0:Pv 0 [] H) (hl:∀i ys H,i<=xs.9->Pv i ys H->jB K H a xs)
  (hs:∀i x ys H,xs[i]?=some x->ys.9<=i->Pv i ys H->oF σ₀ g tf te x H (λy H'=>Pv (i+1) (ys++[y]) H') (λH'=>Pv (i+1) ys H'))
  (hd:∀ys H,ys.9<=xs.9->Pv xs.9 ys H->∀p,H p=none->Q (.ref p) (upd H p (.lst ys))):oW (QJ K a) σ₀ g tf te Q H:=by
 refine #[λi m ys H=>m=xs.9 - i/\i<=xs.9/\ys.9<=i/\Pv i ys H,#[xs.9,by simp,bg _,bg _,h0],?_];rintro i m ys H ⟨rfl,hi,hy,p⟩;have q:=hl i ys H hi p;by_cases hlt:i < xs.9
 ·refine .inr #[#[xs,xs[i],q,by simp [hlt]],(),λy H'=>Pv (i+1) (ys++[y]) H',λH'=>Pv (i+1) ys H',λy H' p'=>#[xs.9 - (i+1),(),rfl,hlt,by rw[aw,bI];lia,p'],λH' p'=>#[xs.9 - (i+1),(),rfl,hlt,(),p'],λx H' y=>?_];obtain e|y:=y;subst e;exact hs i x ys _ (y xs q) hy p
 ·have e:i=xs.9:=()
  subst e;exact .inl #[#[xs,q,ao _],(),hd ys H hy p]
theorem qA {lo:Int} (Pv:Nat->List V->Hp->Prop) (hz:n<=sizeLine) (h0:Pv 0 [] H)
  (hs:∀i ys H,i < n->ys.9<=i->Pv i ys H->oF σ₀ g tf te (.int (lo+i)) H (λy H'=>Pv (i+1) (ys++[y]) H') (λH'=>Pv (i+1) ys H'))
  (hd:∀ys H,ys.9<=n->Pv n ys H->∀p,H p=none->Q (.ref p) (upd H p (.lst ys))):oW (Iw lo n) σ₀ g tf te Q H:=by
 refine #[λi m ys H=>m=n - i/\i<=n/\ys.9<=i/\Pv i ys H,#[n,by simp,bg _,bg _,h0],?_];rintro i m ys H ⟨rfl,hi,hy,p⟩;by_cases hlt:i < n
 ·refine .inr #[hlt,(),λy H'=>Pv (i+1) (ys++[y]) H',λH'=>Pv (i+1) ys H',λy H' p'=>#[n - (i+1),(),rfl,hlt,by rw[aw,bI];lia,p'],λH' p'=>#[n - (i+1),(),rfl,hlt,(),p'],λx H' y=>?_];obtain e|y:=y;subst e y;exact hs i ys _ hlt hy p
 ·have e:i=n:=()
  subst e;exact .inl #[ao _,(),hd ys H hy p]
end
open Nm
def gJ (i j:Int):Prop:=Tq i j\/∃m n,Sz m i/\Sz n j/\m+n<=100000000
def nD (i j:Int):Prop:=j≠0/\Sz 8999000 j
theorem BP (h:Sz k i):Builtin.Int.intBits i<=k:=by
 unfold Builtin.Int.intBits;by_cases e:i=0
 ·subst e;simp
 ·have e':(i == 0)=false:=by simpa using e
  rw[e'];have hn:i.natAbs≠0:=()
  have:=(Nat.log2_lt hn).mpr h;simp only[jv,if_false]
  lia
theorem gJ.ok (h:gJ i j):IntMulOk i j:=by
 rcases h with h | ⟨m,n,h1,h2,h3⟩
 ·exact h.ok
 ·exact .of_le (BP h1) (BP h2) (ag h3 ())
section
variable {X:Cx} {a b:Expr} {ta tb:TE} {pos:Pos}
theorem c5:zF X (binaryOp .Mult) (rI gJ λi j=>.int (i*j)):=Ve λ_ _ _ _ _ _ _ hc q=>mul_int q hc.ok
theorem iQ (hs:X.stack=env :: l) (S:ba N ps sc) (he:env.scope=sc) (hb:env.builtins=builtinsNs) (hg:env.globals=mainGlobals) (ht:X.prog.given.tree=none) (hd:X.A.depth+Builtin.pylongFrames < recursionLimit):zF X (binaryOp .FloorDiv) (rI nD λi j=>.int (i.fdiv j)):=by
 intro pins s σ H x y v u Q I rx ry h;obtain i|j|rfl|rfl|hc|q:=h;obtain t|rfl:=rx;obtain t'|rfl:=ry;refine floordiv_int hc.1 #[.int _,H,I.tok _,#[_,rfl],q] (.inr (PySem.PylongRoom.of I.nolimit hd (PySem.SeerAt.of (I.ok.mod.seer.keeps I.bk) ht (env:=env) (l:=l) (by rw[I.ok.frames,hs]) (by rw[he];exact S.gen) (by rw[he];exact S.co) hb hg)))
theorem sQ (hr:kY k A):A.depth+Builtin.pylongFrames < recursionLimit:=by have:=hr.dp;show A.depth+100 < _;lia
def TM (t u:TS):TS:=λD σ H=>∃N:St->Hp->Prop,t { D with nx:=N } σ H/\∀σ' H',N σ' H'->u D σ' H'
theorem fA {st:Stmt} (h1:PS X st t) (h2:JG X rest u):JG X (st :: rest) (TM t u):=by
 intro pins s σ H D I h;obtain N|h|k:=h;refine wpAny_execs_cons (gL (h1 pins s σ H { D with nx:=N } I h) λf s1 q=>?_);cases f with
 | next =>
  obtain σ'|H'|I'|q:=q;exact h2 pins s1 σ' H' D I' (k _ _ q)
 | ret v=>exact q
 | brk=>exact q
 | cont=>exact q
def Q1 (K:FG9):V->V->Hp->VK->Prop:=λo i H Q=>∃p xs k v,o=.ref p/\i=.int k/\bR K H p xs/\Ir xs k=some v/\Q v H
theorem N9:UM X (Q1 X.K):=by
 intro pins s σ H o i ov iv Q I ro ri h;obtain p|xs|k|z|rfl|rfl|hq|he|q:=h;cases ro;obtain t|rfl:=ri;obtain its|r|pl|hz:=I.list hq;obtain j|h1|h2|h3|h4|h5:=Ff he;obtain w|ew|rw':=r.get h2;have hl:=r.9;have hn:=Br;have fin:EP X pins σ Q w s:=#[z,H,I,rw',q];by_cases h0:0<=k
 ·have hj:k.toNat=j:=by
   rw[seqIndex_of h0 h5] at h1;exact cn h1
  exact wpAny_getItem_list pl.isList h0 () (by rw[hj];simpa using ew) fin
 ·have hj:(k+(its.5.7:Int)).toNat=j:=by
   rw[seqIndex_neg () h4] at h1;rw[aI,<- hl];exact cn h1
  exact wpAny_getItem_list_neg pl.isList () (by rw[aI] <;> lia) () (by rw[hj];simpa using ew) fin
def IX (K:FG9) (T:String):V->Hp->VK->Prop:=λx H Q=>∃t b,vp K H x t/\PySem.W.kitOne K t (.type T)=some b/\Q (.bl b) H
theorem pQ {c:Str} {T:String} {p p2:Pos} (hg:Gl X "isinstance") (hm:X.mg "isinstance"=none) (hb:bootBuiltins c=some (.type T)) (hmc:X.mg c=none) (ha:PE X a ta) (hgc:Gl X c:=by rfl) (hn:c≠"__name__":=by decide)
  (hd:(c == ("__debug__":Str))=false:=by decide) (he:starEach [a,.Name c p2] X.env=[(false,eval a X.env),(false,eval (.Name c p2) X.env)]:=by rfl)
  (hpl:(backTo pos (starEach [.Name c p2] X.env)).any (·.1)=false:=by rfl) (he2:starEach [.Name c p2] X.env=[(false,eval (.Name c p2) X.env)]:=by rfl):PE X (.Call (.Name "isinstance" p) [a,.Name c p2] [] pos) (UZ (IX X.K T) ta):=by
 intro pins s σ H Q I h;refine wpAny_Call_Name_kw (j7 I hg hm PyProof.Rows.boot_isinstance ?_);have hA:PA X [a,.Name c p2] (rg ta (rg (tC (.ty T)) Lg)):=aa ha (aa (zZ hgc hmc hb rfl hn hd) ai he2) (by rw[he,he2])
 have hq:rg ta (rg (tC (.ty T)) Lg) σ H (λvs H1=>∃x,vs=[x,.ty T]/\IX X.K T x H1 Q):=by
  show ta σ H λx H1=>∃x',[x,V.ty T]=[x',V.ty T]/\IX X.K T x' H1 Q
  have e:(λx H1=>∃x',[x,V.ty T]=[x',V.ty T]/\IX X.K T x' H1 Q)=λx H1=>IX X.K T x H1 Q:=by
   funext x H1;apply propext;constructor
   ·rintro ⟨x',e,q⟩;cases e;exact q
   ·intro q;exact #[x,rfl,q]
  rw[e];exact h
 refine PyProof.Rows.callWith_builtin1 (gL (hA pos pins s σ H _ I hq) λus s1 #[vs,H1,I1,r1,x,e,q1]=>?_) (by rw[he,he2]) hpl;subst e;obtain u|w'|rfl|ru|rt:=vals2 r1;cases rt;obtain t|bb|ty|ek|q:=q1;exact Dv I1 ru ty ek λtk=>#[.bl bb,H1,I1.tok tk,rfl,q]
end
structure Kind (α:Type) [DecidableEq α] where
 R:FG9->Hp->V->α->Prop
 d:Nat
 inj:∀{X:Cx} {pins:List (Addr×Obj)} {σ:St} {H:Hp} {s:Shared} {x:V} {a b:α},Inv X pins σ H s->R X.K H x a->R X.K H x b->a=b
 rc:∀{X:Cx} {pins:List (Addr×Obj)} {σ:St} {H:Hp} {s:Shared} {x y:V} {v u:Value} {a b:α} {A:Around},Inv X pins σ H s->RelV x v->RelV y u->R X.K H x a->R X.K H y b->A.units+d < cLine->SeqAt.RcAt A s v u (decide (a=b))
 ne:∀{X:Cx} {pins:List (Addr×Obj)} {σ:St} {H:Hp} {s:Shared} {x y:V} {v u:Value} {a b:α} {A:Around},Inv X pins σ H s->RelV x v->RelV y u->R X.K H x a->R X.K H y b->A.units+d < cLine->SeqAt.RcNeAt A s v u (!decide (a=b))
 eq:∀{X:Cx} {pins:List (Addr×Obj)} {σ:St} {H:Hp} {s:Shared} {x y:V} {v u:Value} {a b:α} {A:Around},Inv X pins σ H s->RelV x v->RelV y u->R X.K H x a->R X.K H y b->A.units+d < cLine->SeqAt.EqAt A s v u (decide (a=b))
def Ux:Kind Int where
 R:=λ_ _ x i=>x=.int i
 d:=0
 inj:=λ_ h1 h2=>by rw[h1] at h2;cases h2;rfl
 rc:=λ{X pins σ H s x y v u a b A} I rx ry h1 h2 _=>by
  subst h1 h2;obtain t|rfl:=rx;obtain t'|rfl:=ry;have q:=SeqAt.RcAt.int_int (A:=A) (s:=s) a t b t';rwa [ik] at q
 ne:=λ{X pins σ H s x y v u a b A} I rx ry h1 h2 _=>by
  subst h1 h2;obtain t|rfl:=rx;obtain t'|rfl:=ry;have q:=SeqAt.RcNeAt.int_int (A:=A) (s:=s) a t b t';rwa [ik] at q
 eq:=λ{X pins σ H s x y v u a b A} I rx ry h1 h2 _=>by
  subst h1 h2;obtain t|rfl:=rx;obtain t'|rfl:=ry;have q:=SeqAt.EqAt.int_int (A:=A) (s:=s) a t b t';rwa [ik] at q
theorem ky {α β:Type} {F:α->β->Prop}:∀{l1:List α} {l2:List β} {i:Nat} (_:Paired F l1 l2) (h1:i < l1.9) (h2:i < l2.9),F l1[i] l2[i]
 | _,_,_,.nil,h1,_=>absurd h1 (d5 _)
 | _,_,0,.cons r _,_,_=>r
 | _,_,i+1,.cons _ t,h1,h2=>ky (i:=i) t (Nat.lt_of_succ_lt_succ h1) (Nat.lt_of_succ_lt_succ h2)
theorem mC {α β:Type} {F:α->β->Prop} (hF:∀a b x,F a x->F b x->a=b):∀{l1 l2:List α} {l:List β},Paired F l1 l->Paired F l2 l->l1=l2
 | _,_,_,.nil,.nil=>rfl
 | _,_,_,.cons r t,.cons r' t'=>by rw[hF _ _ _ r r',mC hF t t']
theorem wd {α:Type} [DecidableEq α] (as bs:List α) (h:as.9=bs.9):(List.range as.9).all (λj=>decide (as[j]?=bs[j]?))=decide (as=bs):=by
 rw[lW,o5,decide_eq_true_iff];constructor
 ·intro q;apply iK;intro i;by_cases hi:i < as.9
  ·exact of_decide_eq_true (q i (uK.mpr hi))
  ·rw[a8 (),a8 ()]
 ·rintro rfl i _;simp
section
variable {α:Type} [DecidableEq α] (k:Kind α)
theorem Kind.items {X:Cx} {pins:List (Addr×Obj)} {σ:St} {H:Hp} {s:Shared} {A:Around} (I:Inv X pins σ H s) (hA:A.units+k.d < cLine) {xs ys:List V} {us ws:List Value} {as bs:List α}
  (rx:cV xs us) (ry:cV ys ws) (ha:Paired (λa x=>k.R X.K H x a) as xs) (hb:Paired (λa x=>k.R X.K H x a) bs ys) :
  ∀j (h1:j < us.5.7) (h2:j < ws.5.7),SeqAt.EqAt A s us.5[j] ws.5[j] (decide (as[j]?=bs[j]?)):=λj h1 h2=>by
 have l1:j < us.9:=by simpa using h1
 have l2:j < ws.9:=by simpa using h2
 have e1:=rx.9;have e2:=ry.9;have e3:=ha.9;have e4:=hb.9;obtain u|hu|ru:=rx.get (i:=j) (x:=xs[j]'()) (by simp);obtain w|hw|rw':=ry.get (i:=j) (x:=ys[j]'()) (by simp);have q:=k.eq (A:=A) I ru rw' (ky ha () ()) (ky hb () ()) hA
 have eu:us.5[j]=u:=by
  have:=hu;rw[af l1] at this;simpa using this
 have ew:ws.5[j]=w:=by
  have:=hw;rw[af l2] at this;simpa using this
 rw[eu,ew,af (show j < as.9 by lia),af (show j < bs.9 by lia)];have e5:decide (some as[j]=some bs[j])=decide (as[j]=bs[j]):=by simp
 rw[e5];exact q
theorem D7 {α:Type} [DecidableEq α] (as bs:List α) {n m:Nat} (h1:as.9=n) (h2:bs.9=m):((List.range (min n m)).all (λj=>decide (as[j]?=bs[j]?)) && n == m)=decide (as=bs):=by
 subst h1 h2;by_cases e:as.9=bs.9
 ·rw[show min as.9 bs.9=as.9 by lia,wd as bs e];simp [e]
 ·have h1:(as.9 == bs.9)=false:=by simpa using e
  rw[h1,Bool.and_false];exact (decide_eq_false λz=>e (by rw[z])).symm
def Vg:Kind (List α) where
 R:=λK H x as=>∃p xs,x=.ref p/\jB K H p xs/\Paired (λa x=>k.R K H x a) as xs
 d:=k.d+1
 inj:=λ{X pins σ H s x a b} I h1 h2=>by
  obtain p|xs|rfl|hp|pa:=h1;obtain q|ys|e|hq|pb:=h2;cases e;have e:=I.tuple_inj hp hq;subst e;exact mC (F:=λa x=>k.R X.K H x a) (λa b x=>k.inj I) pa pb
 rc:=λ{X pins σ H s x y v u a b A} I rx ry h1 h2 hA=>by
  obtain p|xs|rfl|hp|pa:=h1;obtain q|ys|rfl|hq|pb:=h2;cases rx;cases ry;obtain us|r1|t1|_:=I.tuple hp;obtain ws|r2|t2|_:=I.tuple hq;have z:=SeqAt.RcAt.tuples (A:=A) (e:=λj=>decide (a[j]?=b[j]?)) (show s.heap.IsTuple p us.toArray from t1) (show s.heap.IsTuple q ws.toArray from t2) () (k.items (A:=A.in1) I (by show A.units+1+k.d < cLine;lia) r1 r2 pa pb);rwa [D7 a b (by rw[pa.9,r1.9];simp) (by rw[pb.9,r2.9];simp)] at z
 ne:=λ{X pins σ H s x y v u a b A} I rx ry h1 h2 hA=>by
  obtain p|xs|rfl|hp|pa:=h1;obtain q|ys|rfl|hq|pb:=h2;cases rx;cases ry;obtain us|r1|t1|_:=I.tuple hp;obtain ws|r2|t2|_:=I.tuple hq;have z:=SeqAt.RcNeAt.tuples (A:=A) (e:=λj=>decide (a[j]?=b[j]?)) (show s.heap.IsTuple p us.toArray from t1) (show s.heap.IsTuple q ws.toArray from t2) () (k.items (A:=A.in1) I (by show A.units+1+k.d < cLine;lia) r1 r2 pa pb);rwa [D7 a b (by rw[pa.9,r1.9];simp) (by rw[pb.9,r2.9];simp)] at z
 eq:=λ{X pins σ H s x y v u a b A} I rx ry h1 h2 hA=>by
  obtain p|xs|rfl|hp|pa:=h1;obtain q|ys|rfl|hq|pb:=h2;cases rx;cases ry;by_cases e:p=q
  ·subst e;have e:=I.tuple_inj hp hq;subst e;rw[mC (F:=λa x=>k.R X.K H x a) (λa b x=>k.inj I) pa pb,decide_eq_true rfl];exact SeqAt.EqAt.same _
  ·obtain us|r1|t1|_:=I.tuple hp;obtain ws|r2|t2|_:=I.tuple hq;have z:=SeqAt.RcAt.tuples (A:=A) (e:=λj=>decide (a[j]?=b[j]?)) (show s.heap.IsTuple p us.toArray from t1) (show s.heap.IsTuple q ws.toArray from t2) () (k.items (A:=A.in1) I (by show A.units+1+k.d < cLine;lia) r1 r2 pa pb);rw[D7 a b (by rw[pa.9,r1.9];simp) (by rw[pb.9,r2.9];simp)] at z;exact .of_refs e z
theorem Jo {X:Cx} {pins:List (Addr×Obj)} {σ:St} {H:Hp} {s:Shared} {p q:Addr} {xs ys:List V} {a b:List α} {A:Around} (I:Inv X pins σ H s) (hp:bR X.K H p xs) (hq:bR X.K H q ys)
  (pa:Paired (λa x=>k.R X.K H x a) a xs) (pb:Paired (λa x=>k.R X.K H x a) b ys) (hA:A.units+(k.d+1) < cLine) :
  SeqAt.RcAt A s (.ref p) (.ref q) (decide (a=b))/\SeqAt.RcNeAt A s (.ref p) (.ref q) (!decide (a=b)):=by
 obtain us|r1|t1|_:=I.list hp;obtain ws|r2|t2|_:=I.list hq;have l1:=r1.9;have l2:=r2.9;have l3:=pa.9;have l4:=pb.9;by_cases e:us.9=ws.9
 ·have it:=k.items (A:=A.in1) I (by show A.units+1+k.d < cLine;lia) r1 r2 pa pb;have z:=SeqAt.RcAt.lists (A:=A) (e:=λj=>decide (a[j]?=b[j]?)) t1.isList t2.isList (by simpa using e) () it;have z2:=SeqAt.RcNeAt.lists (A:=A) (e:=λj=>decide (a[j]?=b[j]?)) t1.isList t2.isList (by simpa using e) () it;have e1:us.5.7=a.9:=by rw[aI];lia
  rw[e1,wd a b ()] at z z2;exact #[z,z2]
 ·have hne:¬a=b:=λz=>e (by have:=congrArg List.length z;lia)
  rw[decide_eq_false hne];exact #[SeqAt.RcAt.lists_lengths t1.isList t2.isList (by simpa using e) (),SeqAt.RcNeAt.lists_lengths t1.isList t2.isList (by simpa using e) ()]
def Uw:Kind (List α) where
 R:=λK H x as=>∃p xs,x=.ref p/\bR K H p xs/\Paired (λa x=>k.R K H x a) as xs
 d:=k.d+1
 inj:=λ{X pins σ H s x a b} I h1 h2=>by
  obtain p|xs|rfl|hp|pa:=h1;obtain q|ys|e|hq|pb:=h2;cases e;have e:=I.list_inj hp hq;subst e;exact mC (F:=λa x=>k.R X.K H x a) (λa b x=>k.inj I) pa pb
 rc:=λ{X pins σ H s x y v u a b A} I rx ry h1 h2 hA=>by
  obtain p|xs|rfl|hp|pa:=h1;obtain q|ys|rfl|hq|pb:=h2;cases rx;cases ry;exact (Jo k I hp hq pa pb hA).1
 ne:=λ{X pins σ H s x y v u a b A} I rx ry h1 h2 hA=>by
  obtain p|xs|rfl|hp|pa:=h1;obtain q|ys|rfl|hq|pb:=h2;cases rx;cases ry;exact (Jo k I hp hq pa pb hA).2
 eq:=λ{X pins σ H s x y v u a b A} I rx ry h1 h2 hA=>by
  obtain p|xs|rfl|hp|pa:=h1;obtain q|ys|rfl|hq|pb:=h2;cases rx;cases ry;by_cases e:p=q
  ·subst e;have e:=I.list_inj hp hq;subst e;rw[mC (F:=λa x=>k.R X.K H x a) (λa b x=>k.inj I) pa pb,decide_eq_true rfl];exact SeqAt.EqAt.same _
  ·exact .of_refs e (Jo k I hp hq pa pb hA).1
def Kind.via {β:Type} [DecidableEq β] (f:β->α) (fi:∀a b,f a=f b->a=b) (R':FG9->Hp->V->β->Prop) (im:∀{K H x b},R' K H x b->k.R K H x (f b)):Kind β where
 R:=R'
 d:=k.d
 inj:=λI h1 h2=>fi _ _ (k.inj I (im h1) (im h2))
 rc:=λ{X pins σ H s x y v u a b A} I rx ry h1 h2 hA=>by
  have z:=k.rc (A:=A) I rx ry (im h1) (im h2) hA;rwa [decide_eq_decide.mpr (show f a=f b↔a=b from #[fi a b,λe=>by rw[e]])] at z
 ne:=λ{X pins σ H s x y v u a b A} I rx ry h1 h2 hA=>by
  have z:=k.ne (A:=A) I rx ry (im h1) (im h2) hA;rwa [decide_eq_decide.mpr (show f a=f b↔a=b from #[fi a b,λe=>by rw[e]])] at z
 eq:=λ{X pins σ H s x y v u a b A} I rx ry h1 h2 hA=>by
  have z:=k.eq (A:=A) I rx ry (im h1) (im h2) hA;rwa [decide_eq_decide.mpr (show f a=f b↔a=b from #[fi a b,λe=>by rw[e]])] at z
end
def xm (K:FG9) (H:Hp) (x:V) (n:Int×Int):Prop:=∃p,x=.ref p/\jB K H p [.int n.1,.int n.2]
def Uv:Kind (Int×Int):=(Vg Ux).via (λn=>[n.1,n.2]) (λa b e=>by cases a;cases b;simp at e;rw[e.1,e.2]) xm λ#[p,e,h]=>#[p,_,e,h,.cons rfl (.cons rfl .nil)]
def Vc (K:FG9):R2:=λx y H Q=>∃(α:Type) (_:DecidableEq α) (k:Kind α) (a b:α),k.d<=50/\k.R K H x a/\k.R K H y b/\Q (.bl (decide (a=b))) H
def Va (K:FG9):R2:=λx y H Q=>∃(α:Type) (_:DecidableEq α) (k:Kind α) (a b:α),k.d<=50/\k.R K H x a/\k.R K H y b/\Q (.bl (!decide (a=b))) H
theorem Jc (hu:X.A.units+50 < cLine):zF X (compareOp .Eq) (Vc X.K):=by
 intro pins s σ H x y v u Q I rx ry h;obtain α|_|k|a|b|hd|ha|hb|q:=h;exact k.rc (A:=X.A) I rx ry ha hb () _ _ _ _ #[.bl (decide (a=b)),H,I,rfl,q]
theorem EC (hu:X.A.units+50 < cLine):zF X (compareOp .NotEq) (Va X.K):=by
 intro pins s σ H x y v u Q I rx ry h;obtain α|_|k|a|b|hd|ha|hb|q:=h;exact k.ne (A:=X.A) I rx ry ha hb () _ _ _ _ #[.bl (!decide (a=b)),H,I,rfl,q]
theorem Jr (hr:kY k A):A.units+50 < cLine:=by have:=hr.units;lia
def Inner (H:Hp) (p q:Addr):Prop:=∃a b c:Int,H p=some (.lst [.int a,.int b,.int c,.ref q])
def cP (p:Addr) (H H':Hp):Prop:=(∀b o,H b=some o->b≠p->H' b=some o)/\∀q,Inner H p q->Inner H' p q
theorem cP.refl (H:Hp):cP p H H:=#[λ_ _ h _=>h,λ_ h=>h]
theorem cP.trans (a:cP p H H1) (b:cP p H1 H2):cP p H H2:=#[λc o h n=>b.1 c o (a.1 c o h n) n,λq h=>b.2 q (a.2 q h)]
theorem Inner.inj (h:Inner H p q) (h':Inner H p q'):q=q':=by
 obtain a|b|c|e:=h;obtain a'|b'|c'|e':=h';rw[e] at e';have:=HO.lst.inj (cn e');simp at this;exact this.2.2.2
theorem cP.set (h:H p=some (.lst [.int a,.int b,.int c,.ref q])):cP p H (upd H p (.lst [.int a',.int b',.int c',.ref q])) :=
 #[λb u h n=>by rw[bM n];exact h,λq' h'=>by
  rw[(Inner.inj #[a,b,c,h] h').symm];exact #[a',b',c',aL]]
theorem aH.upto (h:aH H H'):cP p H H':=#[λb o e _=>h b o e,λq #[a,b,c,e]=>#[a,b,c,h _ _ e]]
theorem aH.new (h:H p=Option.none):aH H (upd H p o):=λb u e=>by rw[bM (gD e h)];exact e
theorem aH.sqt {K:FG9} (e:aH H H') (h:jB K H a xs):jB K H' a xs:=by
 rcases h with (h | ⟨o,h⟩) | h
 ·exact .inl (.inl (e _ _ h))
 ·exact .inl (.inr #[o,e _ _ h])
 ·exact .inr h
theorem aH.num {K:FG9} (e:aH H H') (h:xm K H x n):xm K H' x n:=by obtain p|q|r:=h;exact #[p,q,e.sqt r]
section
variable {σ:St} {H:Hp} {D:Ends}
theorem aT {t:TS} (e:σ0=σ) (h:t D σ H):t D σ0 H:=by rw[e];exact h
theorem Sa (h:t { D with nx:=u D } σ H):TN t u D σ H:=h
theorem PB (h:D.nx σ H):QR D σ H:=h
theorem Ss {g:TG} (h:te σ H λx H1=>g x σ H1 D.nx):O8 te g D σ H:=h
theorem Nh (h:Q (σ.set i (some v)) H):Kx i v σ H Q:=h
theorem Sb (h:te σ H D.rt):TQ te D σ H:=h
theorem Sk (h:c σ H λb H1=>if b=true then t D σ H1 else u D σ H1):TY c t u D σ H:=h
theorem PR (h:te σ H λ_ H1=>D.nx σ H1):QV te D σ H:=h
theorem Sd (h:ta σ H λvs H1=>∃v w,vs=[v,w]/\D.nx ((σ.set i (some v)).set j (some w)) H1):TR i j ta D σ H:=h
theorem PY 
  (h:to σ H λo H1=>ti σ H1 λi H2=>tget o i H2 λx H3=>te σ H3 λy H4=>tip x y H4 λz H5=>tset o i z H5 λH6=>D.nx σ H6):QW to ti te tget tip tset D σ H:=h
theorem Sj (h:Q (.int (f i j)) H):ipI f (.int i) (.int j) H Q:=#[i,j,rfl,rfl,h]
theorem Sm {g:TG} (h:wi σ H λJ H1=>∃W:Nat->Nat->St->Hp->Prop,(∃m,W 0 m σ H1)/\∀i m σ H,W i m σ H →
  (J.stop i H/\D.nx σ H)\/(J.go i H/\∃N:St->Hp->Prop,(∀σ' H',N σ' H'->∃m',m' < m/\W (i+1) m' σ' H')/\∀x H',J.yld i H x H'->g x σ H' λσ2 H2=>tb { D with nx:=N,ct:=N,bk:=D.nx } σ2 H2)):TZ wi g tb D σ H:=h
variable {Q:VK} {QA:List V->Hp->Prop} {QB:Bool->Hp->Prop}
theorem RZ (e:σ[i]?=some (some v)) (h:Q v H):RL i σ H Q:=#[v,e,h]
theorem U8 (h:Q v H):tC v σ H Q:=h
theorem Ue (h:ta σ H λx H1=>tb σ H1 λy H2=>r x y H2 Q):TU r ta tb σ H Q:=h
theorem Ua (h:ta σ H λx H1=>r x H1 Q):UZ r ta σ H Q:=h
theorem Ui {g:Int->Int->V} (h:Q (g i j) H):P7 g (.int i) (.int j) H Q:=#[i,j,rfl,rfl,h]
theorem fU {g:Int->Int->V} (hc:C i j) (h:Q (g i j) H):rI C g (.int i) (.int j) H Q:=#[i,j,rfl,rfl,hc,h]
theorem U9 {g:Int->V} (h:Q (g i) H):rU g (.int i) H Q:=#[i,rfl,h]
theorem Sr (h:Q (.bl (decide (i=j))) H):Vd (.int i) (.int j) H Q:=#[rfl,by
 have e:decide (V.int i=V.int j)=decide (i=j):=by simp
 rw[e];exact h]
theorem Sh (h:Q (.bl (!decide (i=j))) H):Vb (.int i) (.int j) H Q:=#[rfl,by
 have e:decide (V.int i=V.int j)=decide (i=j):=by simp
 rw[e];exact h]
theorem Sq (h:Q (.bl (decide (i=j))) H):Vd (.str i) (.str j) H Q:=#[rfl,by
 have e:decide (V.str i=V.str j)=decide (i=j):=by simp
 rw[e];exact h]
theorem Sg (h:Q (.bl (!decide (i=j))) H):Vb (.str i) (.str j) H Q:=#[rfl,by
 have e:decide (V.str i=V.str j)=decide (i=j):=by simp
 rw[e];exact h]
theorem Pw (h:t σ H λx H'=>∃k,x=.bl k/\QB k H'):ME t σ H QB:=h
theorem Ub (h:t σ H λx H'=>∃k,x=.bl k/\QB k H'):tB t σ H QB:=h
theorem Su (h:t σ H λc H1=>if c=true then u σ H1 QB else QB false H1):T1 t u σ H QB:=h
theorem Ud (h:t σ H λc H1=>if c=true then QB true H1 else u σ H1 QB):tOr t u σ H QB:=h
theorem Se (h:t σ H λc H1=>QB (!c) H1):TV t σ H QB:=h
theorem PZ (h:t σ H λx H1=>∃c,x=.bl c/\if c=true then u σ H1 Q else Q (.bl false) H1):QX t u σ H Q:=h
theorem Pz (h:t σ H λx H1=>∃c,x=.bl c/\Q (.bl (!c)) H1):QQ t σ H Q:=h
theorem Sl (h:c σ H λb H1=>if b=true then ta σ H1 Q else tb σ H1 Q):tIf c ta tb σ H Q:=h
theorem RY (h:QB true H):TK σ H QB:=h
theorem Sf (h:QA [] H):Lg σ H QA:=h
theorem PU (h:ta σ H λx H1=>tr σ H1 λxs H2=>QA (x :: xs) H2):rg ta tr σ H QA:=h
theorem PX (h:t σ H λvs H1=>sp vs H1 Q E):MH sp [] E t σ H Q:=by
 have e:(λvs H1=>sp (vs++[]) H1 Q E)=λvs H1=>sp vs H1 Q E:=by funext vs H1;rw[lU]
 show t σ H λvs H1=>sp (vs++[]) H1 Q E
 rw[e];exact h
theorem Ug (h:t σ H λvs H1=>r vs H1 Q):U7 r t σ H Q:=h
theorem IV {K:FG9} (hx:jB K H p xs) (e:Ir xs i=some v) (h:Q v H):Sv K (.ref p) (.int i) H Q:=#[p,xs,i,v,rfl,rfl,hx,e,h]
theorem cH {K:FG9} (hx:bR K H p xs) (e:Ir xs i=some v) (h:Q v H):Sw K (.ref p) (.int i) H Q:=#[p,xs,i,v,rfl,rfl,hx,e,h]
theorem PN {K:FG9} (hx:bR K H p xs) (e:Ir xs i=some v) (h:Q v H):Q1 K (.ref p) (.int i) H Q:=#[p,xs,i,v,rfl,rfl,hx,e,h]
theorem fI (hx:H p=some (.lst xs)) (e:Ml xs.9 i=some j) (ey:xs.set j v=ys) (h:QH (upd H p (.lst ys))):Q0 (.ref p) (.int i) v H QH:=#[p,xs,i,j,rfl,rfl,hx,e,by rw[ey];exact h]
theorem PL (h:to σ H λo H1=>ti σ H1 λi H2=>t o i v H2 λH3=>QS σ H3):UD to ti t v σ H QS:=h
theorem Ni (h:t v σ H λσ' H'=>u r σ' H' QS):Rh t u (v :: r) σ H QS:=#[v,r,rfl,h]
theorem PM (h:QS σ H):UE [] σ H QS:=#[rfl,h]
theorem PK {K:FG9} (hx:jB K H a xs) (hl:xs.9=n) (h:t xs σ H QS):S7 K n t (.ref a) σ H QS:=#[a,xs,rfl,hx,hl,h]
theorem Uc (h:te σ H λx H1=>tl σ H1 λl H2=>th σ H2 λu H3=>r x l u H3 Q):tSl r te tl th σ H Q:=h
theorem Ls (h:QO none H):JS σ H QO:=h
theorem Py (h:t σ H λx H1=>∃i,x=.int i/\QO (some i) H1):QP t σ H QO:=h
variable {R:It->Hp->Prop} {K:FG9}
theorem Nd (h:tl σ H λx H1=>∃a,x=.ref a/\(∃xs,bR K H1 a xs)/\R (OR K a) H1):NZ K tl σ H R:=h
theorem PJ (h:tl σ H λx H1=>∃a,x=.ref a/\(∃xs,jB K H1 a xs)/\R (QJ K a) H1):UB K tl σ H R:=h
theorem Nc (h:ta σ H λvs H1=>∃j:Int,vs=[.int j]/\-(2^62)<=j/\j < 2^62/\R (Iw 0 j.toNat) H1):Q9 ta σ H R:=h
theorem Na (h:ta σ H λvs H1=>∃i j:Int,vs=[.int i,.int j]/\(-(2^62)<=i/\i < 2^62/\-(2^62)<=j/\j < 2^62)/\R (Iw i (j - i).toNat) H1):Q8 ta σ H R:=h
theorem PV {g:TG} (e:Mj k cap σ=σ₀) (h:wi σ H λJ H1=>oW J σ₀ g tf te Q H1):FO wi k cap g tf te σ H Q:=by
 unfold FO;rw[e];exact h
theorem Pu {g:TG} {NY:V->Hp->Prop} (h:g x σ H λσ2 H2=>tf σ2 H2 λb H3=>if b=true then te σ2 H3 NY else NN H3):oF σ g tf te x H NY NN:=h
theorem Uh (h:to σ H λx H1=>U6 K T x H1/\t σ H1 λxs H2=>r x xs H2 Q):tBM K T r to t σ H Q:=h
def UO (Q:VK) (xs:List V) (H:Hp):Prop:=xs.9<=sizeLine/\∀p,H p=none->Q (.ref p) (upd H p (.tup xs))
def UP (Q:VK) (xs:List V) (H:Hp):Prop:=xs.9<=sizeLine/\∀p,H p=none->Q (.ref p) (upd H p (.lst xs))
theorem R8 (h:t σ H (UO Q)):TL t σ H Q:=h
theorem Si (h:t σ H (UP Q)):TX t σ H Q:=h
theorem jK (h:Nat.ble n 1000=true):n<=sizeLine:=be (bC (Nat.le_of_ble_eq_true h))
theorem bU {xs:List V} (h:∀p H',aH H H'->H' p=some (.tup xs)->Q (.ref p) H') (hl:Nat.ble xs.9 1000=true:=by rfl):UO Q xs H :=
 #[jK hl,λp hp=>h p _ (aH.new hp) aL]
theorem cU {xs:List V} (h:∀p H',aH H H'->H p=none->H' p=some (.lst xs)->Q (.ref p) H') (hl:Nat.ble xs.9 1000=true:=by rfl):UP Q xs H :=
 #[jK hl,λp hp=>h p _ (aH.new hp) hp aL]
theorem Uz {A B:Prop} (h:B):if (!true)=true then A else B:=NS h
theorem UA {A B:Prop} (h:A):if (!false)=true then A else B:=Uy h
def WB (tb:TS) (D:Ends) (Pv:St->Hp->Prop) (μ:St->Hp->Nat) (n:Nat) (σ:St) (H:Hp):Prop:=∃N:St->Hp->Prop,(∀σ' H',N σ' H'->∃m',m' < n/\(m'=μ σ' H'/\Pv σ' H'))/\tb { D with nx:=N,ct:=N,bk:=D.nx } σ H
theorem QZ (h:tb { D with nx:=λσ' H'=>Pv σ' H'/\μ σ' H' < n,ct:=λσ' H'=>Pv σ' H'/\μ σ' H' < n,bk:=D.nx } σ H):WB tb D Pv μ n σ H :=
 #[_,λσ' H' #[p,l]=>#[_,l,rfl,p],h]
theorem D5 (Pv:St->Hp->Prop) (μ:St->Hp->Nat) (h0:Pv σ H) (hs:∀σ H,Pv σ H->c σ H λb H1=>if b=true then WB tb D Pv μ (μ σ H) σ H1 else D.nx σ H1):MD c tb D σ H:=by
 refine #[λm σ H=>m=μ σ H/\Pv σ H,#[_,rfl,h0],?_];rintro m σ H ⟨rfl,p⟩;exact hs σ H p
end
def gV (H:Hp) (p:Addr):Prop:=∃(q:Addr) (a b c:Int) (cs:List Int),H p=some (.lst [.int a,.int b,.int c,.ref q])/\H q=some (.lst (cs.map V.int))/\0<=a/\0<=c/\c<=(cs.9:Int)/\∀x∈cs,(0:Int)<=x
theorem Mb {H:Hp} {cs:List Int} (hp:H p=some (.lst [.int a,.int b,.int c,.ref q])) (hq:H q=some (.lst (cs.map V.int))):q≠p:=λe=>by
 rw[e,hp] at hq;have h:=HO.lst.inj (cn hq);cases cs with
 | nil=>cases h
 | cons x1 cs=>cases cs with
  | nil=>cases h
  | cons x2 cs=>cases cs with
   | nil=>cases h
   | cons x3 cs=>cases cs with
    | nil=>cases h
    | cons x4 cs=>simp at h
theorem gV.same (h:gV H p) (e:aH H H'):gV H' p:=by obtain q|a|b|c|cs|h1|h2|r:=h;exact #[q,a,b,c,cs,e _ _ h1,e _ _ h2,r]
theorem cP.tup {H H':Hp} {p r:Addr} {xs:List V} (u:cP p H H') (B:gV H p) (h:H r=some (.tup xs)):H' r=some (.tup xs):=by
 obtain q|a|b|c|cs|h1|_:=B;exact u.1 r _ h λe=>by rw[e,h1] at h;cases h
theorem cP.other (u:cP p H H') (n:r≠p) (h:H r=some o):H' r=some o:=u.1 r _ h n
theorem gV.inner (h:gV H p):∃q,Inner H p q/\∃xs,H q=some (.lst xs):=by obtain q|a|b|c|cs|h1|h2|_:=h;exact #[q,#[a,b,c,h1],_,h2]
theorem gV.upd (h:gV H p) (hi:Inner H p q) (n1:r≠p) (n2:r≠q):gV (L2.upd H r o) p:=by
 obtain q'|a|b|c|cs|h1|h2|z:=h;have e:q'=q:=Inner.inj #[a,b,c,h1] hi;subst e;exact #[q',a,b,c,cs,by rw[bM n1.symm];exact h1,by rw[bM n2.symm];exact h2,z]
theorem Inner.upd (hi:Inner H p q) (n1:r≠p):Inner (L2.upd H r o) p q:=by obtain a|b|c|h:=hi;exact #[a,b,c,by rw[bM n1.symm];exact h]
def Pb:Sp:=λvs H Q _=>∃p n,vs=[.ref p,.int n]/\gV H p/\0 < n/\n < 2^64/\∀v H',0<=v->v < n->gV H' p->cP p H H'->Q (.int v) H'
inductive MR (K:FG9) (vs:List V) (H:Hp) (Q:VK) (E9:XK):Prop
 | mk (a:Addr) (ns:List Int):vs=[.ref a]->bR K H a (ns.map V.int)->ns.9<=63->(∀p H',H p=none->gV H' p->aH H H'->Q (.ref p) H')->MR K vs H Q E9
inductive Ax (K:FG9) (vs:List V) (H:Hp) (Q:VK) (E9:XK):Prop
 | mk (a:Addr) (ns:List Int):vs=[.ref a]->bR K H a (ns.map V.int)->ns.9<=63->(∀H',Q (.bl true) H')->Ax K vs H Q E9
def RS:Sp:=λvs H Q _=>∃t b,vs=[.int t,.int b]/\0 < b/\Sz 8999000 b/\∀r H',aH H H'->H' r=some (.tup [.int (lo t b),.int (hi t b)])->Q (.ref r) H'
def T4:Sp:=λvs H Q _=>∃a b,vs=[.int a,.int b]/\Q (.int (g a b)) H
def Lk:Sp:=λvs H Q _=>∃t b,vs=[.int t,.int b]/\b≠0/\Sz 8999000 b/\∀r H',aH H H'->H' r=some (.tup [.int (lo (if b < 0 then -t else t) (if b < 0 then -b else b)),.int (hi (if b < 0 then -t else t) (if b < 0 then -b else b))])->Q (.ref r) H'
def Ri (a b c d:Int):Int:=a*d+c*b
def Oi (a b c d:Int):Int:=a*d - c*b
def Oh (a _b c _d:Int):Int:=a*c
def Ka (K:FG9) (f:Int->Int->Int->Int->Int):Sp:=λvs H Q _=>∃p q a b c d,vs=[.ref p,.ref q]/\jB K H p [.int a,.int b]/\jB K H q [.int c,.int d]/\0 < b/\0 < d/\Sz 4000000 a/\Sz 4000000 b/\Sz 4000000 c/\Sz 4000000 d /\
 ∀r H',aH H H'->H' r=some (.tup [.int (lo (f a b c d) (b*d)),.int (hi (f a b c d) (b*d))])->Q (.ref r) H'
theorem bX {α β:Type} {F:α->β->Prop}:∀{l1 l1':List α} {l2 l2':List β},Paired F l1 l2->Paired F l1' l2'->Paired F (l1++l1') (l2++l2')
 | _,_,_,_,.nil,h=>h
 | _,_,_,_,.cons r t,h=>.cons r (bX t h)
theorem dA {h:Heap} (ha:h.get? a=some o) (hb:h.get? b=some u) (hc:o.cls≠u.cls):a≠b:=λe=>by
 subst e;rw[ha] at hb;cases hb;exact hc rfl
theorem l8 (h:a≠b):Value.type a≠Value.type b:=λe=>h (by injection e)
theorem CW {z TI TO i1 i2 l1 l2:Addr} (hz:IsZip h z TI TO f0) (hTI:IsPair h TI (.ref i1) (.ref i2)) (hTO:IsPair h TO a b)
  (h1:h.IsListIter i1 l1 k1) (h2:h.IsListIter i2 l2 k2) (hl1:h.IsList l1 xs) (hl2:h.IsList l2 ys) (hT:TI≠TO) (hi:i1≠i2):ZipApart z TI TO i1 i2 l1 l2:=by
 obtain o1|g1|c1|_:=h1;obtain o2|g2|c2|_:=h2;obtain p1|q1|d1|_:=hl1;obtain p2|q2|d2|_:=hl2;refine #[dA hTI hz ?_,dA hTO hz ?_,dA g1 hz ?_,dA g2 hz ?_,hT,dA hTI g1 ?_,dA hTI g2 ?_,dA hTO g1 ?_,dA hTO g2 ?_,hi,dA q1 hz ?_,dA q1 hTO ?_,dA q1 g1 ?_,dA q1 g2 ?_,dA q2 hz ?_,dA q2 hTO ?_,dA q2 g1 ?_,dA q2 g2 ?_]
 all_goals first
  | (rw[d1];first | (rw[c1];exact l8 ()) | (rw[c2];exact l8 ()) | exact l8 ())
  | (rw[d2];first | (rw[c1];exact l8 ()) | (rw[c2];exact l8 ()) | exact l8 ())
  | (rw[c1];exact l8 ())
  | (rw[c2];exact l8 ())
  | exact l8 ()
def Ti (K : FG9) (l1 l2 : Addr) : It :=
  #[λi H => ∃ xs ys x y, bR K H l1 xs /\ bR K H l2 ys /\ xs[i]? = some x /\ ys[i]? = some y,
   λi H v H' => ∃ p x y, v = .ref p /\ H p = none /\ H' = upd H p (.tup [x, y]) /\ (∀ xs, bR K H l1 xs → xs[i]? = some x) /\ ∀ ys, bR K H l2 ys → ys[i]? = some y,
   λi H => ∃ xs ys, bR K H l1 xs /\ bR K H l2 ys /\ (xs.9 ≤ i \/ ys.9 ≤ i)]
def tnZ (z TI TO i1 i2 l1 l2:Addr) (i:Nat) (h:Heap):Prop:=IsZip h z TI TO .none/\IsPair h TI (.ref i1) (.ref i2)/\(∃a b,IsPair h TO a b)/\h.IsListIter i1 l1 i/\h.IsListIter i2 l2 i
theorem MB {P:Program} {w:World} {K:FG9} {elts:List Expr} {kk:Nat} {tpos:Pos} (z TI TO i1 i2 l1 l2:Addr) (hT:TI≠TO) (hi:i1≠i2):Turn P w K (.Tuple elts kk tpos) (Ti K l1 l2) [z,TI,TO,i1,i2] z (tnZ z TI TO i1 i2 l1 l2) where
 mem:=by simp
 obj:=λi h st b hb=>by
  obtain hz|hTI|⟨a,c,hTO⟩|⟨o1,g1,c1,d1⟩|⟨o2,g2,c2,d2⟩:=st;simp only[aG,aP,or_false] at hb;rcases hb with rfl | rfl | rfl | rfl | rfl
  ·exact #[_,hz,λv q=>nomatch q]
  ·exact #[_,hTI,λv q=>nomatch q]
  ·exact #[_,hTO,λv q=>nomatch q]
  ·exact #[o1,g1,λv q=>by rw[d1] at q;cases q]
  ·exact #[o2,g2,λv q=>by rw[d2] at q;cases q]
 keep:=λi h h' st k=>by
  obtain hz|hTI|⟨a,c,hTO⟩|h1|h2:=st;exact #[k z (by simp) _ hz,k TI (by simp) _ hTI,#[a,c,k TO (by simp) _ hTO],h1.at λo e=>k i1 (by simp) o e,h2.at λo e=>k i2 (by simp) o e]
 item:=by
  intro X hP hw hK hc i pins s σ H E I hf st hg;subst hP hw hK;obtain hz|hTI|⟨a,c,hTO⟩|h1|h2:=st;obtain xs|ys|x|y|qx|qy|ex|ey:=hg;obtain us|rx|px|_:=I.list qx;obtain ws|ry|py|_:=I.list qy;obtain u|eu|ru:=rx.get ex;obtain v|ev|rv:=ry.get ey;have D:=CW hz hTI hTO h1 h2 px.isList py.isList hT hi;refine wpAny_pyNext_zip_item D hz hTI hTO h1 h2 px.isList py.isList (x:=u) (y:=v) (by simpa using eu) (by simpa using ev) λh' a1 a2 a3 a4 a5 a6 hk=>?_
  refine #[_,rfl,wpAny_letOwnedTupleGo_zip a1 λh'' hz'' hs=>?_];have hT0:H s.6=none:=I.hok.fresh (ao _);have zne:s.6≠z:=La (Heap.lt_size hz)
  have up:∀b o,b∉[z,TO,i1,i2]->s.heap.get? b=some o->h''.get? b=some o:=λb o hb e=>by
   simp only[aG,aP,or_false,not_or] at hb;exact (hs.2 b hb.1).trans (hk b o hb.1 hb.2.1 hb.2.2.1 hb.2.2.2 e)
  have fx:∀b∈[z,TO,i1,i2],kH X pins H b:=λb hb=>hf b (by
   simp only[aG,aP,or_false] at hb ⊢;rcases hb with rfl | rfl | rfl | rfl <;> simp)
  have nx:∀b o,H b=some o->b∉[z,TO,i1,i2]:=λb o e hb=>by
   have:=(fx b hb).1;rw[this] at e;cases e
  have nT:∀{b:Addr} {o:HO},H b=some o->b≠s.6:=λe q=>by rw[q,hT0] at e;cases e
  have tup:h''.get? s.6=some { cls:=.type "tuple",data:=.seq [u,v].toArray }:=(hs.2 _ zne).trans a5
  have I2:Inv X pins σ (upd H s.heap.objs.size (.tup [x,y])) { s with heap:=h'' }:=by
   refine I.step (g':=s.gens) (d':=s.drawn) (t':=s.toks) (ch:=[z,TO,i1,i2]) (λb hb=>?_) (λb o _ _ hb e _=>up b o hb e) (λb o _ _ hb e _=>#[o.slots,up b o hb e]) (λb o hb e n=>?_)
    (λb o hb e=>#[o,up b o hb e]) (λb q e=>by rw[bM (nT e)];exact e) (λb o q e=>by rw[bM (nT e)];exact e) (λb q e=>#[[].toArray,by rw[bM (nT e),e];simp]) (λm hm=>?_) (λb o e=>?_) I.bare
   ·obtain _|f1|_|f3|f4|f5:=fx b hb;exact #[f3,f1,f4,f5]
   ·rw[bM (cg (Heap.lt_size e))];exact n
   ·obtain o|es|ep|ho|r:=hm;exact #[o,es,ep,up _ o (λz=>(fx _ z).2.1 rfl) ho,r]
   ·by_cases hb:b=s.6
    ·subst hb;rw[aL] at e;cases e;exact #[jK rfl,[u,v],.cons ru (.cons rv .nil),#[_,tup,rfl,_,rfl]]
    ·rw[bM hb] at e;refine (I.hok b o e).stay (λc v' hc q=>up c v' ?_ q) (λc q=>by rw[bM (nT q)];exact q) λc xs q=>by rw[bM (nT q)];exact q
     rcases hc with rfl | hc
     ·exact nx _ _ e
     ·exact nx _ _ hc
  refine #[.ref s.6,_,I2,rfl,#[_,x,y,rfl,hT0,rfl,λxs' q=>by rw[I.list_inj q qx];exact ex,λys' q=>by rw[I.list_inj q qy];exact ey],?_,λb hb=>?_]
  ·refine #[hz'',(hs.2 _ D.TIz).trans (hk _ _ D.TIz D.TITO D.TIi1 D.TIi2 hTI),#[_,_,(hs.2 _ D.TOz).trans a2],a3.at λo e=>(hs.2 _ D.i1z).trans e,a4.at λo e=>(hs.2 _ D.i2z).trans e]
  ·obtain ⟨o,e,_⟩:∃o,s.heap.get? b=some o/\True:=by
    obtain o1|g1|_:=h1;obtain o2|g2|_:=h2;simp only[aG,aP,or_false] at hb;rcases hb with rfl | rfl | rfl | rfl | rfl
    ·exact #[_,hz,trivial]
    ·exact #[_,hTI,trivial]
    ·exact #[_,hTO,trivial]
    ·exact #[_,g1,trivial]
    ·exact #[_,g2,trivial]
   rw[bM (cg (Heap.lt_size e))];exact (hf b hb).1
 done:=by
  intro X hP hw hK hc i pins s σ H E I hf st hg;subst hP hw hK;obtain hz|hTI|⟨a,c,hTO⟩|h1|h2:=st;obtain xs|ys|qx|qy|hend:=hg;obtain us|rx|px|_:=I.list qx;obtain ws|ry|py|_:=I.list qy;have lx:=rx.9;have ly:=ry.9;have D:=CW hz hTI hTO h1 h2 px.isList py.isList hT hi
  refine wpAny_pyNext_zip_end (I.ok.hd hc) D hz hTI hTO h1 h2 px.isList py.isList (by
   rcases hend with q | q
   ·exact .inl (by simp;lia)
   ·exact .inr (by simp;lia)) λh' hk=>#[rfl,?_]
  have up:∀b o,b∉[z,TO,i1,i2]->s.heap.get? b=some o->h'.get? b=some o:=λb o hb e=>by
   simp only[aG,aP,or_false,not_or] at hb;exact hk b o hb.1 hb.2.1 hb.2.2.1 hb.2.2.2 e
  have fx:∀b∈[z,TO,i1,i2],kH X pins H b:=λb hb=>hf b (by
   simp only[aG,aP,or_false] at hb ⊢;rcases hb with rfl | rfl | rfl | rfl <;> simp)
  have nx:∀b o,H b=some o->b∉[z,TO,i1,i2]:=λb o e hb=>by
   have:=(fx b hb).1;rw[this] at e;cases e
  refine I.step (g':=s.gens) (d':=s.drawn) (t':=s.toks) (ch:=[z,TO,i1,i2]) (λb hb=>?_) (λb o _ _ hb e _=>up b o hb e) (λb o _ _ hb e _=>#[o.slots,up b o hb e]) (λb o hb e n=>n)
   (λb o hb e=>#[o,up b o hb e]) (λb q e=>e) (λb o q e=>e) (λb q e=>#[[].toArray,by rw[e];simp]) (λm hm=>?_) (λb o e=>?_) I.bare
  ·obtain _|f1|_|f3|f4|f5:=fx b hb;exact #[f3,f1,f4,f5]
  ·obtain o|es|ep|ho|r:=hm;exact #[o,es,ep,up _ o (λz=>(fx _ z).2.1 rfl) ho,r]
  ·refine (I.hok b o e).stay (λc v' hc q=>up c v' ?_ q) (λc q=>q) λc xs q=>q
   rcases hc with rfl | hc
   ·exact nx _ _ e
   ·exact nx _ _ hc
 self:=λ_ _ _ _ _ st h=>wpAny_pyIter_zip st.1 h
section
variable {X:Cx}
def S4 (K:FG9) (ta:TA):TI:=λσ H R=>ta σ H λvs H1=>∃l1 l2,vs=[.ref l1,.ref l2]/\(∃xs,bR K H1 l1 xs)/\(∃ys,bR K H1 l2 ys)/\R (Ti K l1 l2) H1
theorem pO {a b:Expr} {ta:TA} {p pos tpos:Pos} {elts:List Expr} {kk:Nat} (hg:Gl X "zip") (hm:X.mg "zip"=none) (ha:PA X [a,b] ta) (hs:starEach [a,b] X.env=[(false,eval a X.env),(false,eval b X.env)]:=by rfl) (hs2:starEach [b] X.env=[(false,eval b X.env)]:=by rfl) :
  PI X (.Tuple elts kk tpos) (.Call (.Name "zip" p) [a,b] [] pos) (S4 X.K ta):=by
 intro pins s σ H R I h;refine Call_ (j7 I hg hm boot_zip (PyProof.Rows.callWith_type1 (gL (ha pos pins s σ H _ I h) λus s1 #[vs,H1,I1,r1,q1]=>?_) (by rw[hs,hs2]) (by rw[hs2];rfl)));obtain l1|l2|e|⟨xs,qx⟩|⟨ys,qy⟩|q:=q1;subst e;obtain u|v|rfl|ru|rv:=vals2 r1;cases ru;cases rv;obtain us|rx|px|_:=I1.list qx;obtain ws|ry|py|_:=I1.list qy;refine call_zip_2 px.isList py.isList λh' a1 a2 a3 a4 a5 a6 hk=>wpAny_pyIter_zip a1 ?_
 have I2:Inv X pins σ H1 { s1 with heap:=h' }:=I1.kept (t':=s1.toks) hk;refine #[_,[s1.6+4,s1.6+2,s1.6+3,s1.6,s1.6+1],_,_,H1,rfl,I2,MB (s1.6+4) (s1.6+2) (s1.6+3) s1.heap.objs.size (s1.6+1) l1 l2 (cg (ji _)) (cg (ji _)),#[a1,a2,#[_,_,a3],a4,a5],λb hb=>?_,q]
 have hb':s1.6<=b:=by
  simp only[aG,aP,or_false] at hb;rcases hb with rfl | rfl | rfl | rfl | rfl <;> first | exact Nat.le_add_right _ _ | exact ao _
 exact I1.fpOk hb' (I1.hok.fresh hb')
theorem wQ (hc:X.calm=true):nB X (.builtin "all") (λxs H Q=>∃(p:Addr) (bs:List Bool),xs=[.ref p]/\bR X.K H p (bs.map V.bl)/\Q (.bl (bs.all id)) H):=by
 intro pins s σ H xs us Q I r h;obtain p|bs|rfl|hp|q:=h;obtain u|rfl|ru:=vals1 r;cases ru;obtain vs|rv|pl|hz:=I.list hp
 have hb:PyProof.Rows.LSm.BoolsAre vs bs:=by
  clear q hp pl hz
  induction bs generalizing vs with
  | nil=>cases rv;exact .nil
  | cons b bs ih =>
   rw[iL] at rv;cases rv with
   | cons r1 r2=>cases r1;exact .cons b (ih _ r2)
 have hlt:p < s.6:=by obtain _|e|_:=pl.isList;exact Heap.lt_size e
 refine call_all_walk (wpAny_pyIter_list pl.isList ?_)
 refine #[s.6,[s.6,p],[s.6],vs.5.7,_,_,λi=>(bs[i]?).getD true,rfl,Walks.list (A:=X.A.in1) (I.ok.hd hc) _ p (cg hlt) vs.5,
  #[#[_,Heap.get?_push_size _ rfl,rfl,rfl],pl.isList.push _],λi v s' Q' E' hP hQ=>?_,λh' tk hk=>?_]
 ·obtain b|e|rfl:=hb.get i v (by simpa using hP);simp only[e,Mq] at hQ;exact wpAny_truthy_bool hQ
 ·have e:((List.range vs.5.7).all λi=>(bs[i]?).getD true)=bs.all id:=by
   rw[aI,hb.9];exact PyProof.Rows.LSm.range_all bs
  rw[e];exact #[.bl _,H,I.kept (t':=tk) (PyProof.Rows.LSm.kept_iter hk),rfl,q]
theorem HP (hc:X.calm=true):nB X (.builtin "sum") (λxs H Q=>∃(p:Addr) (ns:List Int),xs=[.ref p]/\bR X.K H p (ns.map V.int)/\Q (.int ns.sum) H):=by
 intro pins s σ H xs us Q I r h;obtain p|ns|rfl|hp|q:=h;obtain u|rfl|ru:=vals1 r;cases ru;obtain vs|rv|pl|_:=I.list hp;have hi:IntsAre vs ns:=intsAre_of rv;obtain xs|hx:=hi.allInts.items;have hl':s.heap.IsList p (intItems xs):=hx ▸ pl.isList;refine sum_intListG (I.ok.hd hc) hl' λh' tk t' hk=>?_
 have e1:ns=xs.toList.map (·.1):=by
  rw[<- nums_intItems,<- hx];exact (show numsOf vs.toArray.toList=ns from hi.numsOf).symm
 have e2:preSum (numAt xs) xs.7=ns.sum:=by
  rw[preSum_eq,aJ (by simp),e1]
 rw[e2];exact #[.int _,H,I.kept (t':=tk) hk,#[_,rfl],q]
end
section
variable {K:FG9} {l1 l2:Addr} {xs ws:List V} {g:TG} {tf:TT} {te:TE} {Q:VK} {σ₀:St} {H:Hp}
theorem oP (Pv:Nat->List V->Hp->Prop) (hz:xs.9<=sizeLine) (hw:ws.9=xs.9) (h0:Pv 0 [] H) (hl:∀i ys H,i<=xs.9->Pv i ys H->bR K H l1 xs/\bR K H l2 ws)
  (hs:∀i x y ys H p,xs[i]?=some x->ws[i]?=some y->ys.9<=i->Pv i ys H->H p=none->oF σ₀ g tf te (.ref p) (upd H p (.tup [x,y])) (λy H'=>Pv (i+1) (ys++[y]) H') (λH'=>Pv (i+1) ys H'))
  (hd:∀ys H,ys.9<=xs.9->Pv xs.9 ys H->∀p,H p=none->Q (.ref p) (upd H p (.lst ys))):oW (Ti K l1 l2) σ₀ g tf te Q H:=by
 refine #[λi m ys H=>m=xs.9 - i/\i<=xs.9/\ys.9<=i/\Pv i ys H,#[xs.9,by simp,bg _,bg _,h0],?_];rintro i m ys H ⟨rfl,hi,hy,p⟩;obtain q1|q2:=hl i ys H hi p;by_cases hlt:i < xs.9
 ·refine .inr #[#[xs,ws,xs[i],ws[i]'(),q1,q2,by simp [hlt],by simp],(),λy H'=>Pv (i+1) (ys++[y]) H',λH'=>Pv (i+1) ys H',λy H' p'=>#[xs.9 - (i+1),(),rfl,hlt,by rw[aw,bI];lia,p'],λH' p'=>#[xs.9 - (i+1),(),rfl,hlt,(),p'],λx H' y=>?_];obtain r|x'|y'|rfl|hr|rfl|e1|e2:=y;exact hs i x' y' ys _ r (e1 xs q1) (e2 ws q2) hy p hr
 ·have e:i=xs.9:=()
  subst e;exact .inl #[#[xs,ws,q1,q2,.inl (ao _)],(),hd ys H hy p]
theorem Qs {tb:TS} {D:Ends} (Pv:Nat->St->Hp->Prop) (hw:ws.9=xs.9) (h0:Pv 0 σ H) (hl:∀i σ H,i<=xs.9->Pv i σ H->bR K H l1 xs/\bR K H l2 ws)
  (hs:∀i x y σ H p,xs[i]?=some x->ws[i]?=some y->Pv i σ H->H p=none->g (.ref p) σ (upd H p (.tup [x,y])) λσ2 H2=>tb { D with nx:=Pv (i+1),ct:=Pv (i+1),bk:=D.nx } σ2 H2) (hd:∀σ H,Pv xs.9 σ H->D.nx σ H) :
  ∃W:Nat->Nat->St->Hp->Prop,(∃m,W 0 m σ H)/\∀i m σ H,W i m σ H →
   ((Ti K l1 l2).stop i H/\D.nx σ H)\/((Ti K l1 l2).go i H/\∃N:St->Hp->Prop,(∀σ' H',N σ' H'->∃m',m' < m/\W (i+1) m' σ' H')/\∀x H',(Ti K l1 l2).yld i H x H'->g x σ H' λσ2 H2=>tb { D with nx:=N,ct:=N,bk:=D.nx } σ2 H2):=by
 refine #[λi m σ H=>m=xs.9 - i/\i<=xs.9/\Pv i σ H,#[xs.9,by simp,bg _,h0],?_];rintro i m σ H ⟨rfl,hi,p⟩;obtain q1|q2:=hl i σ H hi p;by_cases hlt:i < xs.9
 ·refine .inr #[#[xs,ws,xs[i],ws[i]'(),q1,q2,by simp [hlt],by simp],Pv (i+1),λσ' H' p'=>#[xs.9 - (i+1),(),rfl,hlt,p'],λx H' y=>?_];obtain r|x'|y'|rfl|hr|rfl|e1|e2:=y;exact hs i x' y' σ _ r (e1 xs q1) (e2 ws q2) p hr
 ·have e:i=xs.9:=()
  subst e;exact .inl #[#[xs,ws,q1,q2,.inl (ao _)],hd σ H p]
end
section
variable {X:Cx}
theorem mR (K:FG9) (n:Nat) {es:List Expr} {k:Nat} {pos:Pos} {t:OQ} (h:UL X es t) (hK:X.K=K:=by rfl) (hc:X.calm=true:=by rfl)
  (hn:(assignEach es X.env).9=n:=by rfl) (hst:(assignEach es X.env).findIdx? (·.1)=none:=by rfl):PG X (.Tuple es k pos) (S7 K n t):=by subst hK;exact xY hc h hn hst
theorem qo (K:FG9) (hK:X.K=K):UQ X (Sv K):=by subst hK;exact bu
theorem mI (K:FG9) (hK:X.K=K):UQ X (Sw K):=by subst hK;exact bT
theorem Gy (K:FG9) {tg l:Expr} {tl:TE} (hl:PE X l tl) (hK:X.K=K:=by rfl):PI X tg l (NZ K tl):=by subst hK;exact cE hl
end
theorem fh {X:Cx} {e e':Expr} {es:List Expr} {te:TE} {t:TA} (h:e=e') (ha:PE X e' te) (hr:PA X es t) (hs:∀l,starEach (e' :: l) X.env=(false,eval e' X.env) :: starEach l X.env:=by intro _;rfl):PA X (e :: es) (rg te t):=by subst h;exact aa ha hr (hs _)
section
variable {σ:St} {H:Hp} {D:Ends} {Q:VK}
theorem iw (hl:H l=some (.lst xs)) (hz:xs.9 < sizeLine) (h:Q .non (upd H l (.lst (xs++[y])))):Kf (.ref l) [y] H Q:=#[l,xs,y,rfl,rfl,hl,hz,h]
theorem PH {K:FG9} (h:ta σ H λvs H1=>∃l1 l2,vs=[.ref l1,.ref l2]/\(∃xs,bR K H1 l1 xs)/\(∃ys,bR K H1 l2 ys)/\R (Ti K l1 l2) H1):S4 K ta σ H R:=h
theorem kr (h1:H l=some (.lst xs)) (h2:H b=some (.lst zs)) (hz:xs.9+zs.9<=sizeLine) (h:∀p H',aH H H'->H p=none->H' p=some (.lst (xs++zs))->Q (.ref p) H'):Um (.ref l) (.ref b) H Q :=
 #[l,b,xs,zs,rfl,rfl,h1,h2,hz,λp hp=>h p _ (aH.new hp) hp aL]
theorem R9 {K:FG9} {lo hi:Option Int} (h1:bR K H a xs) (h:∀p H',aH H H'->H p=none->H' p=some (.lst (wO xs lo hi))->Q (.ref p) H'):Uj K (.ref a) lo hi H Q :=
 #[a,xs,rfl,h1,λp hp=>h p _ (aH.new hp) hp aL]
theorem ir {xs:List α} {i:Int} (h0:0<=i) (h1:i < xs.9):∃v,Ir xs i=some v/\v∈xs/\xs[i.toNat]?=some v:=by
 have hj:i.toNat < xs.9:=()
 refine #[xs[i.toNat],?_,aK hj,by simp [hj]];have:=iH (xs:=xs) (j:=i.toNat) (v:=xs[i.toNat]) (by simp [hj]);rwa [Int.toNat_of_nonneg h0] at this
end
inductive Kn (H:Hp):V->Prop where
 | non:Kn H .non
 | bl (b:Bool):Kn H (.bl b)
 | int (i:Int):Kn H (.int i)
 | str (x:Str):Kn H (.str x)
 | lst {a:Addr} {xs:List V} (e:H a=some (.lst xs)):Kn H (.ref a)
 | tup {a:Addr} {xs:List V} (e:H a=some (.tup xs)):Kn H (.ref a)
 | dic {a:Addr} {kvs:List (Key×V)} (e:H a=some (.dK kvs)):Kn H (.ref a)
def tyB (T:String) (x:V) (H:Hp):Bool:=match x with
 | .int _=>T == "int"
 | .bl _=>T == "int" || T == "bool"
 | .ref a=>(match H a with
  | some (.lst _)=>T == "list"
  | some (.tup _)=>T == "tuple"
  | _=>false)
 | _=>false
def OkT (T:String):Prop:=T="int"\/T="bool"\/T="list"\/T="tuple"
theorem IW {K:FG9} (h:Kn H x) (hT:OkT T) (q:Q (.bl (tyB T x H)) H):IX K T x H Q:=by
 cases h with
 | non=>rcases hT with rfl | rfl | rfl | rfl <;> exact #[_,_,.non,rfl,q]
 | bl b=>rcases hT with rfl | rfl | rfl | rfl <;> exact #[_,_,.bl b,rfl,q]
 | int i=>rcases hT with rfl | rfl | rfl | rfl <;> exact #[_,_,.int i,rfl,q]
 | str x=>rcases hT with rfl | rfl | rfl | rfl <;> exact #[_,_,.str x,rfl,q]
 | lst e =>
  simp only[tyB,e] at q;rcases hT with rfl | rfl | rfl | rfl <;> exact #[_,_,.lst e,rfl,q]
 | tup e =>
  simp only[tyB,e] at q;rcases hT with rfl | rfl | rfl | rfl <;> exact #[_,_,.tup e,rfl,q]
 | dic e =>
  simp only[tyB,e] at q;rcases hT with rfl | rfl | rfl | rfl <;> exact #[_,_,.dK e,rfl,q]
theorem cX {α β:Type} {F:α->β->Prop}:∀{l1:List α} {l2:List β} {y:β},Paired F l1 l2->y∈l2->∃x∈l1,F x y
 | _,_,_,.nil,h=>nomatch h
 | _,_,_,.cons r t,h=>by
  rcases aG.mp h with rfl | h
  ·exact #[_,dF,r]
  ·obtain x|hx|q:=cX t h;exact #[x,b7 _ hx,q]
theorem b6 {F:α->β->Prop} {l1:List α} {l2:List β} {i:Nat} {y:β} (h:Paired F l1 l2) (e:l2[i]?=some y):∃x,l1[i]?=some x/\F x y:=by
 have hl:=h.9;have hi:i < l2.9:=(aM.mp e).1;refine #[l1[i]'(),by simp,?_];have:=ky h (i:=i) () hi;have e2:l2[i]=y:=(aM.mp e).2;rwa [e2] at this
def zG (n:Int×Int):Prop:=0 < n.2/\Int.gcd n.1 n.2=1/\Sz 8000000 n.1/\Sz 8000000 n.2
theorem take_snoc {α:Type} {l:List α} {v:α} (h:l[i]?=some v):l.take (i+1)=l.take i++[v]:=by rw[List.take_add_one,h];rfl
theorem aH.after (s:aH H H') (h:H r=Option.none):aH H (upd H' r o):=λb u e=>by rw[bM (gD e h)];exact s b u e
theorem cP.after (s:cP b H H') (h:H r=Option.none):cP b H (upd H' r o):=#[λc u e n=>by rw[bM (gD e h)];exact s.1 c u e n,λq hi=>(s.2 q hi).upd λz=>by obtain _|_|_|e:=hi;rw[<- z,h] at e;cases e]
theorem cP.same (s:cP b H H') (e:aH H' H''):cP b H H'':=s.trans e.upto
theorem Ac {α:Type} {Pr:α->Prop} {l:List α} {a:α} (h:∀n∈l,Pr n) (ha:Pr a):∀n∈l++[a],Pr n:=λn hn=>by
 rcases aA.mp hn with hn | hn
 ·exact h n hn
 ·have e:n=a:=by simpa using hn
  rw[e];exact ha
abbrev BY (h:Heap) (z TI TO:Addr) (f0 f1:Value):Prop:=h.get? z=some { cls:=.type "zip",dict:=none,data:=.fields [f0,f1,.bool false,.ref TI,.ref TO].toArray,slots:=[].toArray }
section
variable {prog:Program} {w:World} {A:Around} {E:Value->Shared->Prop} {s:Shared}
theorem JD (e:s.heap.get? a=some o) (h:Q (some o) s):wpAny (model prog w) A (loadIfAlive a) Q E s:=by
 intro Γ p hp;show Sem.wp _ _ (.loadIfAlive a .pure) _ _ _ _
 simp only[Sem.wp_loadIfAlive,e];exact wpAny_pure h Γ p hp
theorem A3 {z TI TO T:Addr} (zr:BY s.heap z TI TO (rawInt T) (.bool b1)) (al:s.heap.get? T=some o)
  (h:∀h',BY h' z TI TO (rawInt T) (.bool true)->Heap.SameBut z s.heap h'->Q false { s with heap:=h' }):wpAny (model prog w) A (Builtin.SmallTypes.ownedTupleIsFree (.ref z)) Q E s:=by
 unfold Builtin.SmallTypes.ownedTupleIsFree;refine wpAny_bind (wpAny_field zr rfl (x:=rawInt T) rfl ?_);refine wpAny_bind (JD (a:=T) al ?_);refine wpAny_bind (wpAny_field zr rfl (x:=.bool b1) rfl ?_);cases b1 with
 | true=>exact wpAny_pure (h _ zr (.refl ..))
 | false=>exact wpAny_bind (wpAny_setField_rec zr (by simp) λh' zr' sb=>wpAny_pure (h h' zr' sb))
theorem LR {z TI TO T i1 i2 l1 l2:Addr} {Q:Value->Shared->Prop} (D:ZipApart z TI TO i1 i2 l1 l2) (zr:BY s.heap z TI TO (rawInt T) (.bool b1)) (al:s.heap.get? T=some o)
  (pt:IsPair s.heap TI (.ref i1) (.ref i2)) (j1:s.heap.IsListIter i1 l1 k1) (j2:s.heap.IsListIter i2 l2 k2) (m1:s.heap.IsList l1 us) (m2:s.heap.IsList l2 ws) (eu:us[k1]?=some u) (ev:ws[k2]?=some v)
  (hQ:∀h',BY h' z TI TO (rawInt T) (.bool true)->h'.IsListIter i1 l1 (k1+1)->h'.IsListIter i2 l2 (k2+1)->IsPair h' s.heap.objs.size u v->(∀c o,c≠z->c≠i1->c≠i2->s.heap.get? c=some o->h'.get? c=some o)->Q (.ref s.6) { s with heap:=h' }) :
  wpAny (model prog w) A (Builtin.«zip.__next__» #[[.ref z],[]]) (λfin s'=>∃v,fin=.done (.ret v)/\Q v s') E s:=by
 change wpAny _ _ (field (Value.ref z) 2 >>= _) _ _ s
 refine wpAny_bind (wpAny_field zr rfl (x:=.bool false) rfl ?_)
 change wpAny _ _ (field (Value.ref z) 3 >>= _) _ _ s
 refine wpAny_bind (wpAny_field zr rfl (x:=.ref TI) rfl (wpAny_bind (wpAny_seqItems pt rfl ?_)))
 change wpAny _ _ (Builtin.SmallTypes.ownedTupleIsFree (Value.ref z) >>= _) _ _ s
 refine wpAny_bind (A3 zr al λg1 zr1 sb1=>?_);simp only[jv,if_false];refine wpAny_bind ?_;rw[<- Array.forIn_toList];simp only[OZ,D3];have j1':=j1.extBut sb1.extBut D.i1z;have m1':=m1.extBut sb1.extBut D.l1z;refine wpAny_bind (wpAny_bind (wpAny_holding ?_))
 change wpAny _ _ (Builtin.SmallTypes.nextOf (Value.ref i1) >>= _) _ _ _
 refine wpAny_bind (wpAny_nextOf_list_item j1' m1' eu λg2 j1a sb2=>wpAny_pure ?_);refine wpAny_pure ?_;have j2':=(j2.extBut sb1.extBut D.i2z).extBut sb2.extBut D.i12.symm;have m2':=(m2.extBut sb1.extBut D.l2z).extBut sb2.extBut D.l2i1;refine wpAny_bind (wpAny_bind (wpAny_holding ?_))
 change wpAny _ _ (Builtin.SmallTypes.nextOf (Value.ref i2) >>= _) _ _ _
 refine wpAny_bind (wpAny_nextOf_list_item j2' m2' ev λg3 j2a sb3=>wpAny_pure ?_);refine wpAny_pure (wpAny_pure ?_);refine wpAny_bind (wpAny_newTuple (hsz:=jK rfl) ?_);have sz:g3.objs.7=s.6:=by rw[sb3.1,sb2.1,sb1.1]
 have up:∀c o,c≠z->c≠i1->c≠i2->s.heap.get? c=some o->g3.get? c=some o:=λc o c1 c2 c3 e=>sb3.extBut _ _ c3 (sb2.extBut _ _ c2 (sb1.extBut _ _ c1 e))
 have zr3:BY g3 z TI TO (rawInt T) (.bool true):=sb3.extBut _ _ D.i2z.symm (sb2.extBut _ _ D.i1z.symm zr1);refine wpAny_pure #[_,rfl,?_]
 change Q (.ref g3.objs.7) { s with heap:=g3.push { cls:=.type "tuple",data:=.seq [u,v].toArray } }
 have last:=hQ (g3.push { cls:=.type "tuple",data:=.seq [u,v].toArray }) (Heap.get?_push_of_some _ zr3) ((j1a.extBut sb3.extBut D.i12).at λo e=>Heap.get?_push_of_some _ e) (j2a.at λo e=>Heap.get?_push_of_some _ e)
  (by rw[<- sz];exact Heap.get?_push_size _ rfl) λc o c1 c2 c3 e=>Heap.get?_push_of_some _ (up c o c1 c2 c3 e)
 rw[sz];exact last
theorem NI {z TI TO T i1 i2 l1 l2:Addr} (hh:A.handled=none) (D:ZipApart z TI TO i1 i2 l1 l2) (zr:BY s.heap z TI TO (rawInt T) (.bool b1)) (al:s.heap.get? T=some o)
  (pt:IsPair s.heap TI (.ref i1) (.ref i2)) (j1:s.heap.IsListIter i1 l1 k1) (m1:s.heap.IsList l1 us) (eu:us[k1]?=none)
  (hE:∀h' e,(∀c o,c≠z->c≠i1->c≠i2->s.heap.get? c=some o->h'.get? c=some o)->(∃o,h'.get? e=some o/\o.cls=.type "StopIteration")->E (.ref e) { s with heap:=h' }) :
  wpAny (model prog w) A (Builtin.«zip.__next__» #[[.ref z],[]]) Q E s:=by
 change wpAny _ _ (field (Value.ref z) 2 >>= _) _ _ s
 refine wpAny_bind (wpAny_field zr rfl (x:=.bool false) rfl ?_)
 change wpAny _ _ (field (Value.ref z) 3 >>= _) _ _ s
 refine wpAny_bind (wpAny_field zr rfl (x:=.ref TI) rfl (wpAny_bind (wpAny_seqItems pt rfl ?_)))
 change wpAny _ _ (Builtin.SmallTypes.ownedTupleIsFree (Value.ref z) >>= _) _ _ s
 refine wpAny_bind (A3 zr al λg1 zr1 sb1=>?_);simp only[jv,if_false];refine wpAny_bind ?_;rw[<- Array.forIn_toList];simp only[OZ,D3];refine wpAny_bind (wpAny_bind (wpAny_holding ?_))
 change wpAny _ _ (Builtin.SmallTypes.nextOf (Value.ref i1) >>= _) _ _ _
 exact wpAny_bind (wpAny_nextOf_list_end hh (j1.extBut sb1.extBut D.i1z) (m1.extBut sb1.extBut D.l1z) eu λg2 e xb he=>hE g2 e (λc o c1 c2 _ q=>xb _ _ c2 (sb1.extBut _ _ c1 q)) he)
theorem LN {z TI TO T i1 i2 l1 l2:Addr} (D:ZipApart z TI TO i1 i2 l1 l2) (zr:BY s.heap z TI TO (rawInt T) (.bool b1)) (al:s.heap.get? T=some o)
  (pt:IsPair s.heap TI (.ref i1) (.ref i2)) (j1:s.heap.IsListIter i1 l1 k1) (j2:s.heap.IsListIter i2 l2 k2) (m1:s.heap.IsList l1 us) (m2:s.heap.IsList l2 ws) (eu:us[k1]?=some u) (ev:ws[k2]?=some v)
  (hQ:∀h',BY h' z TI TO (rawInt T) (.bool true)->h'.IsListIter i1 l1 (k1+1)->h'.IsListIter i2 l2 (k2+1)->IsPair h' s.heap.objs.size u v->(∀c o,c≠z->c≠i1->c≠i2->s.heap.get? c=some o->h'.get? c=some o)->Q (some (.ref s.6)) { s with heap:=h' }) :
  wpAny (model prog w) A (pyNext (.ref z)) Q E s:=by
 have ty:s.TypeIs (.ref z) "zip":=#[_,zr,rfl];unfold pyNext;refine wpAny_bind (wpAny_attempt (wpAny_callSpecial?_slot (name:=Str.ofString "__next__") ty oX (wpAny_call_entry oX ty PySem.F.entry_zip_next ?_ (UU _))));exact LR D zr al pt j1 j2 m1 m2 eu ev λh' a1 a2 a3 a4 a5=>wpAny_pure (hQ h' a1 a2 a3 a4 a5)
theorem LM {z TI TO T i1 i2 l1 l2:Addr} (hh:A.handled=none) (D:ZipApart z TI TO i1 i2 l1 l2) (zr:BY s.heap z TI TO (rawInt T) (.bool b1)) (al:s.heap.get? T=some o)
  (pt:IsPair s.heap TI (.ref i1) (.ref i2)) (j1:s.heap.IsListIter i1 l1 k1) (m1:s.heap.IsList l1 us) (eu:us[k1]?=none)
  (hQ:∀h',(∀c o,c≠z->c≠i1->c≠i2->s.heap.get? c=some o->h'.get? c=some o)->Q none { s with heap:=h' }):wpAny (model prog w) A (pyNext (.ref z)) Q E s:=by
 have ty:s.TypeIs (.ref z) "zip":=#[_,zr,rfl];unfold pyNext;refine wpAny_bind (wpAny_attempt (wpAny_callSpecial?_slot (name:=Str.ofString "__next__") ty oX (wpAny_call_entry oX ty PySem.F.entry_zip_next ?_ (UU _))));refine NI hh D zr al pt j1 m1 eu λh' e kk #[oe,he,hc]=>?_
 exact wpAny_bind (wpAny_isInstance (T:="StopIteration") (b:=true) #[oe,he,hc] isSubtype_stop (wpAny_pure (hQ _ kk)))
end
section
variable {X:Cx} {pins:List (Addr×Obj)} {σ:St} {H:Hp} {s:Shared}
theorem Inv.moved {ch:List Addr} (I:Inv X pins σ H s) (fx:∀b∈ch,kH X pins H b) (up:∀b o,b∉ch->s.heap.get? b=some o->h'.get? b=some o) (hg:AllBare g') :
  Inv X pins σ H { s with heap:=h',gens:=g',drawn:=d',toks:=t' }:=by
 have nx:∀b o,H b=some o->b∉ch:=λb o e hb=>by have:=(fx b hb).1;rw[this] at e;cases e
 refine I.step (ch:=ch) (λb hb=>?_) (λb o _ _ hb e _=>up b o hb e) (λb o _ _ hb e _=>#[o.slots,up b o hb e]) (λb o hb e n=>n) (λb o hb e=>#[o,up b o hb e]) (λb q e=>e) (λb o q e=>e) (λb q e=>#[[].toArray,by rw[e];simp]) (λm hm=>?_) (λb o e=>?_) hg
 ·obtain _|f1|_|f3|f4|f5:=fx b hb;exact #[f3,f1,f4,f5]
 ·obtain o|es|ep|ho|r:=hm;exact #[o,es,ep,up _ o (λz=>(fx _ z).2.1 rfl) ho,r]
 ·refine (I.hok b o e).stay (λc v' hc q=>up c v' ?_ q) (λc q=>q) λc xs q=>q
  rcases hc with rfl | hc
  ·exact nx _ _ e
  ·exact nx _ _ hc
theorem Inv.track (I:Inv X pins σ H s) (fp:kH X pins H p) (new:gR X.prog X.w (upd H p o) s.heap p o):Inv X pins σ (upd H p o) s:=by
 have nt:∀{b:Addr} {u:HO},H b=some u->b≠p:=λe z=>by rw[z,fp.1] at e;cases e
 refine I.step (h':=s.8) (g':=s.gens) (d':=s.drawn) (t':=s.toks) (ch:=[p]) (λb hb=>?_) (λb o _ _ _ e _=>e) (λb o _ _ _ e _=>#[o.slots,e]) (λb o hb e n=>?_) (λb o _ e=>#[o,e]) (λb q e=>by rw[bM (nt e)];exact e) (λb o q e=>by rw[bM (nt e)];exact e)
  (λb q e=>#[[].toArray,by rw[bM (nt e),e];simp]) (λm hm=>hm) (λb u e=>?_) I.bare
 ·have e:b=p:=by simpa using hb
  subst e;obtain _|f1|_|f3|f4|f5:=fp;exact #[f3,f1,f4,f5]
 ·rw[bM λz=>hb (by simp [z])];exact n
 ·by_cases hb:b=p
  ·subst hb;rw[aL] at e;cases e;exact new
  ·rw[bM hb] at e;exact (I.hok b u e).stay (λc v _ q=>q) (λc q=>by rw[bM (nt q)];exact q) λc xs q=>by rw[bM (nt q)];exact q
end
def Rt (H:Hp) (p:V×V) (x:V):Prop:=∃T,x=.ref T/\H T=some (.tup [p.1,p.2])
theorem Rt.same (h:Rt H p x) (e:aH H H'):Rt H' p x:=by obtain T|q|g:=h;exact #[T,q,e _ _ g]
def Zst (h:Heap) (z TI TO:Addr) (base:Nat):Prop:=(∃a b,IsPair h TO a b)/\(IsZip h z TI TO .none\/∃(T:Addr) (b1:Bool) (o:Obj),BY h z TI TO (rawInt T) (.bool b1)/\h.get? T=some o/\@LE.le Nat instLENat base T)
theorem D4 {z TI TO i1 i2 l1 l2:Addr} (hz:BY h z TI TO f0 f1) (hTI:IsPair h TI (.ref i1) (.ref i2)) (hTO:IsPair h TO a b) (h1:h.IsListIter i1 l1 k1) (h2:h.IsListIter i2 l2 k2) (hl1:h.IsList l1 xs) (hl2:h.IsList l2 ys) (hT:TI≠TO) (hi:i1≠i2):ZipApart z TI TO i1 i2 l1 l2:=by
 obtain o1|g1|c1|_:=h1;obtain o2|g2|c2|_:=h2;obtain p1|q1|d1|_:=hl1;obtain p2|q2|d2|_:=hl2;have zt:Value.type "zip"≠.type "tuple":=l8 ();have it:Value.type "list_iterator"≠.type "tuple":=l8 ();have iz:Value.type "list_iterator"≠.type "zip":=l8 ();have lz:Value.type "list"≠.type "zip":=l8 ();have lt:Value.type "list"≠.type "tuple":=l8 ();have li:Value.type "list"≠.type "list_iterator":=l8 ()
 exact #[dA hTI hz zt.symm,dA hTO hz zt.symm,dA g1 hz (by rw[c1];exact iz),dA g2 hz (by rw[c2];exact iz),hT,dA hTI g1 (by rw[c1];exact it.symm),dA hTI g2 (by rw[c2];exact it.symm),dA hTO g1 (by rw[c1];exact it.symm),dA hTO g2 (by rw[c2];exact it.symm),hi,
  dA q1 hz (by rw[d1];exact lz),dA q1 hTO (by rw[d1];exact lt),dA q1 g1 (by rw[d1,c1];exact li),dA q1 g2 (by rw[d1,c2];exact li),dA q2 hz (by rw[d2];exact lz),dA q2 hTO (by rw[d2];exact lt),dA q2 g1 (by rw[d2,c1];exact li),dA q2 g2 (by rw[d2,c2];exact li)]
section
variable {X:Cx} {pins:List (Addr×Obj)} {σ:St}
theorem kH.heap (f:kH X pins H b) (e:H' b=none):kH X pins H' b:=#[e,f.2]
structure Fi where
 z:Addr
 TI:Addr
 TO:Addr
 i1:Addr
 i2:Addr
 S:Addr
 base:Nat
def Fi.all (a:Fi):List Addr:=[a.z,a.TI,a.TO,a.i1,a.i2,a.S]
structure Fi.Ok (a:Fi):Prop where
 tt:a.TI≠a.TO
 ii:a.i1≠a.i2
 Sz:a.S≠a.z
 STI:a.S≠a.TI
 STO:a.S≠a.TO
 Si1:a.S≠a.i1
 Si2:a.S≠a.i2
 lt:∀b∈a.all,@LT.lt Nat instLTNat b a.base
structure QI (X:Cx) (pins:List (Addr×Obj)) (σ:St) (H1:Hp) (a:Fi) (l1 l2:Addr) (i:Nat) (H:Hp) (s:Shared):Prop where
 inv:Inv X pins σ H s
 same:aH H1 H
 fps:∀b∈a.all,kH X pins H b
 sz:a.base<=s.heap.objs.size
 zst:Zst s.heap a.z a.TI a.TO a.base
 pt:IsPair s.heap a.TI (.ref a.i1) (.ref a.i2)
 j1:s.heap.IsListIter a.i1 l1 i
 j2:s.heap.IsListIter a.i2 l2 i
variable {a:Fi} {l1 l2:Addr} {H1 H:Hp} {s:Shared} {i:Nat} {xs ys:List V}
theorem QI.push (L:QI X pins σ H1 a l1 l2 i H s) (O:a.Ok) (k:∀b o,b≠a.S->s.heap.get? b=some o->h'.get? b=some o) (hz:h'.objs.7=s.6):QI X pins σ H1 a l1 l2 i H { s with heap:=h' }:=by
 refine #[L.inv.moved (g':=s.gens) (d':=s.drawn) (t':=s.toks) (ch:=[a.S]) (λb hb=>?_) (λb o hb e=>k b o (λz=>hb (by simp [z])) e) L.inv.bare,L.same,L.fps,by show a.base<=h'.objs.7;rw[hz];exact L.sz,?_,k _ _ O.STI.symm L.pt,L.j1.at λo e=>k _ o O.Si1.symm e,L.j2.at λo e=>k _ o O.Si2.symm e]
 ·have e:b=a.S:=by simpa using hb
  rw[e];exact L.fps _ (by simp [Fi.all])
 ·obtain ⟨c,d,z0⟩|z4:=L.zst;refine #[#[c,d,k _ _ O.STO.symm z0],?_];rcases z4 with z1 | ⟨T,b1,o,z1,z2,z3⟩
  ·exact .inl (k _ _ O.Sz.symm z1)
  ·refine .inr #[T,b1,o,k _ _ O.Sz.symm z1,k _ _ (λe=>?_) z2,z3];have:=O.lt a.S (by simp [Fi.all]);rw[<- e] at this;exact absurd this (Nat.not_lt.mpr z3)
theorem Mu (O:a.Ok) (q1:bR X.K H1 l1 xs) (q2:bR X.K H1 l2 ys) (ex:xs[i]?=some x) (ey:ys[i]?=some y) (L:QI X pins σ H1 a l1 l2 i H s)
  (hQ:∀s',QI X pins σ H1 a l1 l2 (i+1) (upd H s.heap.objs.size (.tup [x,y])) s'->(∀c o,c∉[a.z,a.TO,a.i1,a.i2]->s.heap.get? c=some o->s'.heap.get? c=some o)->H s.6=none->Q (some (.ref s.6)) s'):wpAny (model X.prog X.w) A' (pyNext (.ref a.z)) Q E s:=by
 obtain I|sm|fps|sz|zst|pt|j1|j2:=id L;obtain us|ru|pu|_:=I.list (sm.seq q1);obtain ws|rw'|pw|_:=I.list (sm.seq q2);obtain u|eu|r1:=ru.get ex;obtain v|ev|r2:=rw'.get ey;have fx:∀b∈[a.z,a.TO,a.i1,a.i2],kH X pins H b:=λb hb=>fps b (by simp only[Fi.all,aG,aP,or_false] at hb ⊢;rcases hb with e | e | e | e <;> simp [e])
 have hT0:H s.6=none:=I.hok.fresh (ao _);have fT:kH X pins H s.6:=I.fpOk (ao _) hT0;have lt:∀b∈a.all,b≠s.6:=λb hb e=>by have:=O.lt b hb;rw[e] at this;exact absurd this (Nat.not_lt.mpr sz)
 have fin:∀h',(∀c o,c∉[a.z,a.TO,a.i1,a.i2]->s.heap.get? c=some o->h'.get? c=some o)->IsPair h' s.heap.objs.size u v->IsPair h' a.TI (.ref a.i1) (.ref a.i2)->h'.IsListIter a.i1 l1 (i+1)->h'.IsListIter a.i2 l2 (i+1)->Zst h' a.z a.TI a.TO a.base →
   Q (some (.ref s.6)) { s with heap:=h' }:=λh' up pr pt' j1' j2' zst'=>by
  have I2:Inv X pins σ H { s with heap:=h' }:=I.moved (g':=s.gens) (d':=s.drawn) (t':=s.toks) fx up I.bare;have I3:Inv X pins σ (upd H s.heap.objs.size (.tup [x,y])) { s with heap:=h' }:=I2.track fT ⟨jK rfl,[u,v],.cons r1 (.cons r2 .nil),⟨_,pr,rfl,_,rfl⟩⟩;refine hQ _ #[I3,sm.trans (aH.new hT0),λb hb=>(fps b hb).heap (by rw[bM (lt b hb)];exact (fps b hb).1),?_,zst',pt',j1',j2'] up hT0;exact ag sz (be (Heap.lt_size pr))
 obtain ⟨c,d,z0⟩|z4:=zst;rcases z4 with z1 | ⟨T,b1,o,z1,z2,z3⟩
 ·have D:=D4 z1 pt z0 j1 j2 pu.isList pw.isList O.tt O.ii;refine wpAny_pyNext_zip_item D z1 pt z0 j1 j2 pu.isList pw.isList (x:=u) (y:=v) (by simpa using eu) (by simpa using ev) λh' a1 a2 a3 a4 a5 a6 hk=>?_
  have up:∀c o,c∉[a.z,a.TO,a.i1,a.i2]->s.heap.get? c=some o->h'.get? c=some o:=λc o hc e=>by
   simp only[aG,aP,or_false,not_or] at hc;exact hk c o hc.1 hc.2.1 hc.2.2.1 hc.2.2.2 e
  exact fin h' up a5 (hk _ _ D.TIz D.TITO D.TIi1 D.TIi2 pt) a3 a4 #[#[_,_,a2],.inr #[s.6,false,_,a1,a5,sz]]
 ·have D:=D4 z1 pt z0 j1 j2 pu.isList pw.isList O.tt O.ii;refine LN D z1 z2 pt j1 j2 pu.isList pw.isList (u:=u) (v:=v) (by simpa using eu) (by simpa using ev) λh' a1 a3 a4 a5 hk=>?_
  have up:∀c o,c∉[a.z,a.TO,a.i1,a.i2]->s.heap.get? c=some o->h'.get? c=some o:=λc o hc e=>by
   simp only[aG,aP,or_false,not_or] at hc;exact hk c o hc.1 hc.2.2.1 hc.2.2.2 e
  have Tn:∀b∈a.all,T≠b:=λb hb e=>by have:=O.lt b hb;rw[<- e] at this;exact absurd this (Nat.not_lt.mpr z3)
  exact fin h' up a5 (hk _ _ D.TIz D.TIi1 D.TIi2 pt) a3 a4 #[#[_,_,hk _ _ D.TOz D.TOi1 D.TOi2 z0],.inr #[T,true,o,a1,hk _ _ (Tn _ (by simp [Fi.all])) (Tn _ (by simp [Fi.all])) (Tn _ (by simp [Fi.all])) z2,z3]]
theorem Mt (hh:A'.handled=none) (O:a.Ok) (q1:bR X.K H1 l1 xs) (q2:bR X.K H1 l2 ys) (hi:xs.9<=i) (L:QI X pins σ H1 a l1 l2 i H s)
  (hQ:∀s',Inv X pins σ H s'->(∀c o,c∉[a.z,a.TO,a.i1,a.i2]->s.heap.get? c=some o->s'.heap.get? c=some o)->Q none s'):wpAny (model X.prog X.w) A' (pyNext (.ref a.z)) Q E s:=by
 obtain I|sm|fps|sz|zst|pt|j1|j2:=id L;obtain us|ru|pu|_:=I.list (sm.seq q1);obtain ws|rw'|pw|_:=I.list (sm.seq q2);have lx:=ru.9;have none1:us.5[i]?=none:=by simp;lia
 have fx:∀b∈[a.z,a.TO,a.i1,a.i2],kH X pins H b:=λb hb=>fps b (by simp only[Fi.all,aG,aP,or_false] at hb ⊢;rcases hb with e | e | e | e <;> simp [e])
 have fin:∀h',(∀c o,c∉[a.z,a.TO,a.i1,a.i2]->s.heap.get? c=some o->h'.get? c=some o)->Q none { s with heap:=h' }:=λh' up=>hQ _ (I.moved (g':=s.gens) (d':=s.drawn) (t':=s.toks) fx up I.bare) up
 obtain ⟨c,d,z0⟩|z4:=zst;rcases z4 with z1 | ⟨T,b1,o,z1,z2,z3⟩
 ·have D:=D4 z1 pt z0 j1 j2 pu.isList pw.isList O.tt O.ii;refine wpAny_pyNext_zip_end hh D z1 pt z0 j1 j2 pu.isList pw.isList (.inl none1) λh' hk=>fin h' λc o hc e=>?_
  simp only[aG,aP,or_false,not_or] at hc;exact hk c o hc.1 hc.2.1 hc.2.2.1 hc.2.2.2 e
 ·have D:=D4 z1 pt z0 j1 j2 pu.isList pw.isList O.tt O.ii;refine LM hh D z1 z2 pt j1 pu.isList none1 λh' hk=>fin h' λc o hc e=>?_
  simp only[aG,aP,or_false,not_or] at hc;exact hk c o hc.1 hc.2.2.1 hc.2.2.2 e
theorem Mw (hh:A'.handled=none) (O:a.Ok) (hz:xs.9<=sizeLine) (hl:ys.9=xs.9) (q1:bR X.K H1 l1 xs) (q2:bR X.K H1 l2 ys)
  (fin:∀s' H' ts acc c,Inv X pins σ H' s'->aH H1 H'->kH X pins H' a.S->s'.heap.get? a.S=some (lobj acc c)->cV ts acc->Paired (Rt H') (xs.zip ys) ts->R (.ok (.ret .none)) s') :
  ∀(k i:Nat) (s:Shared) (H:Hp) (ts:List V) (acc:List Value) (c:Nat),xs.9 - i=k->i<=xs.9->QI X pins σ H1 a l1 l2 i H s->s.heap.get? a.S=some (lobj acc c)->cV ts acc->Paired (Rt H) ((xs.zip ys).take i) ts →
   codeAny (model X.prog X.w) A' (.builtin "list.extend.loop" #[[.ref a.S,.ref a.z,.none],[]]) R s:=by
 have Sn:a.S∉[a.z,a.TO,a.i1,a.i2]:=λh=>by
  simp only[aG,aP,or_false] at h;rcases h with e | e | e | e
  ·exact O.Sz e
  ·exact O.STO e
  ·exact O.Si1 e
  ·exact O.Si2 e
 intro k
 induction k with
 | zero =>
  intro i s H ts acc c hk hi L gS rv prs;have e:i=xs.9:=()
  refine codeAny_builtin Tr ?_;rw[Around.under_plainId k6 _]
  change wpAny _ A'.in1 (pyNext (Value.ref a.z) >>= _) _ _ s
  refine wpAny_bind (Mt hh O q1 q2 () L λs' I' up=>wpAny_pure (fin s' H ts acc c I' L.same (L.fps _ (by simp [Fi.all])) (up _ _ Sn gS) rv ?_));rwa [aJ (by rw[qY];lia)] at prs
 | succ k ih =>
  intro i s H ts acc c hk hi L gS rv prs;have hlt:i < xs.9:=()
  have lt:=prs.9;have la:=rv.9;refine codeAny_builtin Tr ?_;rw[Around.under_plainId k6 _]
  change wpAny _ A'.in1 (pyNext (Value.ref a.z) >>= _) _ _ s
  refine wpAny_bind (Mu O q1 q2 (x:=xs[i]) (y:=ys[i]'()) (by simp [hlt]) (by simp) L λs' L' up hT=>?_);have gS':=up _ _ Sn gS
  change wpAny _ A'.in1 (updateSeq a.S (·.push (Value.ref s.6)) >>= _) _ _ s'
  have small:acc.9<=sizeLine:=by
   rw[cN,qY] at lt
   lia
  refine wpAny_bind (wpAny_updateSeq gS' rfl (wpAny_pure #[plainId_quiet k6 _,?_]) (by rw[aI];exact small) (by
   show (acc.toArray.push (Value.ref s.6)).7<=sizeLine+1
   rw[Array.size_push,aI]
   lia))
  have gS2:=kO gS' (λb=>b.push (Value.ref s.6));have e2:(acc.toArray.push (Value.ref s.6))=(acc++[Value.ref s.6]).5:=by simp
  rw[e2] at gS2;refine ih (i+1) _ (upd H s.heap.objs.size (.tup [xs[i],ys[i]'()])) (ts++[.ref s.6]) (acc++[.ref s.6]) _ () hlt (L'.push O (λb o hb e=>(Heap.get?_update_other _ _ (Ne.symm hb)).trans e) (Heap.size_update ..)) gS2 (rv.append (show cV [V.ref s.6] [Value.ref s.6] from .cons rfl .nil)) ?_;have zp:(xs.zip ys)[i]?=some (xs[i],ys[i]'()):=by simp [Ts,hlt]
  rw[take_snoc zp];exact (Paired.imp' (λ_ _ z=>z.same (aH.new hT)) prs).snoc #[_,rfl,aL]
theorem ID:typeLookup (.type "zip") "__len__"=pure Option.none:=by rw[typeLookup_type,builtinLookup_eq_fast];kernel_rfl
theorem FJ:typeLookup (.type "zip") "__length_hint__"=pure Option.none:=by rw[typeLookup_type,builtinLookup_eq_fast];kernel_rfl
theorem Mv (hh:A'.handled=none) (O:a.Ok) (hz:xs.9<=sizeLine) (hl:ys.9=xs.9) (q1:bR X.K H1 l1 xs) (q2:bR X.K H1 l2 ys) (L:QI X pins σ H1 a l1 l2 0 H s) (gS:s.heap.get? a.S=some (lobj [] 0)) (z0:IsZip s.heap a.z a.TI a.TO .none)
  (fin:∀s' H' ts acc c,Inv X pins σ H' s'->aH H1 H'->kH X pins H' a.S->s'.heap.get? a.S=some (lobj acc c)->cV ts acc->Paired (Rt H') (xs.zip ys) ts->R (.ok (.ret .none)) s') :
  wpAny (model X.prog X.w) A'.in1 (Builtin.«list.__init__» #[[.ref a.S,.ref a.z],[]]) (λfl s'=>match fl with | .done f=>R (.ok f) s' | .again c'=>c'.quiet=true/\codeAny (model X.prog X.w) A' c' R s') (λe s'=>R (.error e) s') s:=by
 change wpAny _ A'.in1 (do let old <- Builtin.List.listItems (Value.ref a.S);Builtin.List.listUpdate (Value.ref a.S) (λ_=>[].toArray);letGo old.toList.reverse;Builtin.List.listExtendWith (Value.ref a.S) (Value.ref a.z) Value.none) _ _ s
 refine wpAny_bind ?_;unfold Builtin.List.listItems;refine wpAny_bind (wpAny_seqItems gS rfl (wpAny_pure ?_))
 change wpAny _ A'.in1 (updateSeq a.S (λ_=>[].toArray) >>= λ_=>letGo ([].toArray:Array Value).toList.reverse >>= λ_=>Builtin.List.listExtendWith (Value.ref a.S) (Value.ref a.z) Value.none) _ _ s
 refine wpAny_bind (wpAny_updateSeq gS rfl ?_);have g1:=kO gS (λ_=>([].toArray:Array Value));obtain ⟨n1,g1⟩:∃n1,(s.heap.update a.S (Obj.mapSeq λ_=>([].toArray:Array Value))).get? a.S=some (lobj [] n1):=#[_,g1];have L1:=L.push (h':=s.heap.update a.S (Obj.mapSeq λ_=>([].toArray:Array Value))) O (λb o hb e=>(Heap.get?_update_other _ _ (Ne.symm hb)).trans e) (Heap.size_update ..);have z1:IsZip (s.heap.update a.S (Obj.mapSeq λ_=>([].toArray:Array Value))) a.z a.TI a.TO .none:=(Heap.get?_update_other _ _ O.Sz).trans z0;refine wpAny_bind (wpAny_letGo ?_);unfold Builtin.List.listExtendWith;have ty:Shared.TypeIs { s with heap:=s.heap.update a.S (Obj.mapSeq λ_=>([].toArray:Array Value)) } (.ref a.z) "zip":=#[_,z1,rfl];refine wpAny_bind (wpAny_typeOf ty ?_);have h1:Builtin.List.listSameRef (.ref a.S) (.ref a.z)=false:=by simp [Builtin.List.listSameRef,O.Sz]
 have h2:(Value.type "zip" == Value.type "list")=false:=()
 have h3:(Value.type "zip" == Value.type "tuple")=false:=()
 simp only[h1,h2,h3,Bool.or_false,jv,if_false];refine wpAny_bind (wpAny_pyIter_zip z1 (wpAny_bind (wpAny_holding ?_)));unfold Builtin.List.listLengthHint;refine wpAny_bind (wpAny_specialOf ty ID ?_)
 change wpAny _ A'.in1 (specialOf (Value.ref a.z) (Str.ofString "__length_hint__") >>= _) _ _ _
 refine wpAny_bind (wpAny_specialOf ty FJ (wpAny_pure ?_))
 change wpAny _ A'.in1 (rule "list.extend.makes-room" >>= λ_=>Builtin.List.listTouch (Value.ref a.S) >>= λ_=>again (.builtin "list.extend.loop" #[[Value.ref a.S,Value.ref a.z,Value.none],[]])) _ _ _
 refine wpAny_bind (wpAny_rule (wpAny_bind ?_))
 change wpAny _ A'.in1 (updateSeq a.S (·.push Value.none) >>= λ_=>updateSeq a.S (·.pop)) _ _ _
 refine wpAny_bind (wpAny_updateSeq g1 rfl ?_);have g2:=kO g1 (λb=>b.push Value.none);obtain ⟨n2,g2⟩:∃n2,((s.heap.update a.S (Obj.mapSeq λ_=>([].toArray:Array Value))).update a.S (Obj.mapSeq λb=>b.push Value.none)).get? a.S=some (lobj [Value.none] n2):=#[_,g2];have L2:=L1.push (h':=(s.heap.update a.S (Obj.mapSeq λ_=>([].toArray:Array Value))).update a.S (Obj.mapSeq λb=>b.push Value.none)) O (λb o hb e=>(Heap.get?_update_other _ _ (Ne.symm hb)).trans e) (Heap.size_update ..);refine wpAny_updateSeq g2 rfl ?_ (jK rfl);have g3:=kO g2 (λb=>b.pop);have L3:=L2.push (h':=((s.heap.update a.S (Obj.mapSeq λ_=>([].toArray:Array Value))).update a.S (Obj.mapSeq λb=>b.push Value.none)).update a.S (Obj.mapSeq λb=>b.pop)) O (λb o hb e=>(Heap.get?_update_other _ _ (Ne.symm hb)).trans e) (Heap.size_update ..);exact wpAny_pure #[plainId_quiet k6 _,Mw hh O hz hl q1 q2 fin _ 0 _ H [] [] _ rfl (bg _) L3 g3 .nil .nil]
end
section
variable {X:Cx}
theorem RE (n:Nat):Fi.Ok #[n+4,n+2,n+3,n,n+1,n+5,n+5+1]:=by
 have ne:∀p q:Nat,p≠q->@Ne Addr p q:=λ_ _ h=>h
 refine #[ne (n+2) (n+3) (),ne n (n+1) (),ne (n+5) (n+4) (),ne (n+5) (n+2) (),ne (n+5) (n+3) (),ne (n+5) n (),ne (n+5) (n+1) (),λb hb=>?_];have hb':b∈[n+4,n+2,n+3,n,n+1,n+5]:=hb;show @LT.lt Nat instLTNat b (n+5+1)
 simp only[aG,aP,or_false] at hb';rcases hb' with e | e | e | e | e | e <;> (rw[e];exact bF (ji _) ())
def FN (K:FG9) (ta:TA):TE:=λσ H Q=>ta σ H λvs H1=>∃(l1 l2:Addr) (xs ys:List V),vs=[.ref l1,.ref l2]/\bR K H1 l1 xs/\bR K H1 l2 ys/\ys.9=xs.9 /\
 ∀L ts H',aH H1 H'->H1 L=none->H' L=some (.lst ts)->Paired (Rt H') (xs.zip ys) ts->Q (.ref L) H'
theorem A2 {e1 e2:Expr} {ta:TA} {p p2 pos pos2:Pos} (hg:Gl X "list") (hm:X.mg "list"=none) (hg2:Gl X "zip") (hm2:X.mg "zip"=none) (ha:PA X [e1,e2] ta) (hc:X.calm=true:=by rfl)
  (hs:starEach [e1,e2] X.env=[(false,eval e1 X.env),(false,eval e2 X.env)]:=by rfl) (hs2:starEach [e2] X.env=[(false,eval e2 X.env)]:=by rfl)
  (hs3:starEach [Expr.Call (.Name "zip" p2) [e1,e2] [] pos2] X.env=[(false,eval (.Call (.Name "zip" p2) [e1,e2] [] pos2) X.env)]:=by rfl) :
  PE X (.Call (.Name "list" p) [.Call (.Name "zip" p2) [e1,e2] [] pos2] [] pos) (FN X.K ta):=by
 intro pins s σ H Q I h;refine wpAny_Call_Name_kw (j7 I hg hm boot_list ?_);refine PyProof.Rows.callWith_type1 ?_ (by rw[hs3];rfl) rfl;rw[hs3];show wpAny _ _ (spliced ((false,eval (.Call (.Name "zip" p2) [e1,e2] [] pos2) X.env) :: [])) _ _ s
 refine Calls.spliced_cons ?_;refine Call_ (j7 I hg2 hm2 boot_zip (PyProof.Rows.callWith_type1 (gL (ha pos2 pins s σ H _ I h) λus s1 #[vs,H1,I1,r1,q1]=>?_) (by rw[hs,hs2]) (by rw[hs2];rfl)));obtain l1|l2|xs|ys|e|qx|qy|hl|q:=q1;subst e;obtain u|v|rfl|ru|rv:=vals2 r1;cases ru;cases rv;obtain us|rx|px|hz:=I1.list qx;obtain ws|ry|py|_:=I1.list qy;refine call_zip_2 px.isList py.isList λh' a1 a2 a3 a4 a5 a6 hk=>?_
 refine Calls.spliced_nil ?_;have I2:Inv X pins σ H1 { s1 with heap:=h' }:=I1.kept (t':=s1.toks) hk;have up:∀b o,h'.get? b=some o->(h'.push { cls:=.type "list",data:=.seq [].toArray }).get? b=some o:=λb o e=>Heap.get?_push_of_some _ e
 have O:Fi.Ok #[s1.6+4,s1.6+2,s1.6+3,s1.6,s1.6+1,h'.objs.7,h'.objs.7+1]:=by
  rw[a6];exact RE s1.heap.objs.size
 have old:∀b∈(Fi.mk (s1.6+4) (s1.6+2) (s1.6+3) s1.heap.objs.size (s1.6+1) h'.objs.size (h'.objs.7+1)).all,s1.6<=b:=λb hb=>by
  rw[a6] at hb;simp only[Fi.all,aG,aP,or_false] at hb;rcases hb with rfl | rfl | rfl | rfl | rfl | rfl <;> first | exact Nat.le_add_right _ _ | exact ao _
 have gS:(h'.push { cls:=.type "list",data:=.seq [].toArray }).get? h'.objs.7=some (lobj [] 0):=Heap.get?_push_size _ rfl;refine callType_codes (Q₁:=λob t=>ob=.ref h'.objs.7/\t={ s1 with heap:=h'.push { cls:=.type "list",data:=.seq [].toArray } }) PySem.F.called_list (PySem.F.typeCall_list_1 _) PySem.F.entry_list_init (code_list_new _ ⟨rfl,rfl⟩) λob t ht=>?_
 obtain rfl|rfl:=ht;refine #[#[_,gS,rfl],PySem.F.args_list_init_2 _ _,?_]
 have L:QI X pins σ H1 #[s1.6+4,s1.6+2,s1.6+3,s1.6,s1.6+1,h'.objs.7,h'.objs.7+1] l1 l2 0 H1 { s1 with heap:=h'.push { cls:=.type "list",data:=.seq [].toArray } } :=
  #[I2.kept (t':=s1.toks) up,aH.refl _,λb hb=>I1.fpOk (old b hb) (I1.hok.fresh (old b hb)),by rw[Heap.size_push];exact ao _,#[#[_,_,up _ _ a3],.inl (up _ _ a1)],up _ _ a2,a4.at λo e=>up _ o e,a5.at λo e=>up _ o e]
 refine Mv (A':=X.A.in1) (I.ok.hd hc) O hz hl qx qy L gS (up _ _ a1) λs' H' ts acc c I' sm fS gS' vs' prs=>#[rfl,?_]
 have nS:H1 h'.objs.7=none:=I1.hok.fresh (old _ (by simp [Fi.all]));have lt:=prs.9;rw[qY] at lt;exact #[.ref h'.objs.7,_,I'.track (o:=.lst ts) fS #[(),acc,c,vs',gS'],rfl,q _ ts _ (sm.trans (aH.new fS.1)) nS aL (Paired.imp' (λ_ _ z=>z.same (aH.new fS.1)) prs)]
end
end L2
namespace Nm
def ye:List Int->Int->Int
 | [],m=>m
 | b :: r,m=>ye r (m*(b / g m b))
theorem vW (hm:0 < m) (hb:0 < b):0 < m*(b / g m b):=jr hm (E3 (t:=m) hb)
theorem EW:b∣m*(b / g m b):=by
 have h1:=Bq m b;refine #[lo m b,?_];have h2:b / g m b*g m b=b:=yh m b
 calc m*(b / g m b)=lo m b*g m b*(b / g m b):=by rw[h1]
  _=lo m b*(b / g m b*g m b):=by rw[dX,gN (g m b)]
  _=b*lo m b:=by rw[h2,gN]
theorem Bs:∀{bs:List Int} {m:Int},0 < m->(∀b∈bs,0 < b)->0 < ye bs m
 | [],_,hm,_=>hm
 | b :: r,m,hm,h=>Bs (bs:=r) (vW hm (h b dF)) λc hc=>h c (b7 _ hc)
theorem GQ:∀{bs:List Int} {m:Int},m∣ye bs m
 | [],_=>Lc _
 | b :: r,m=>Int.dvd_trans (Int.dvd_mul_right m _) (GQ (bs:=r))
theorem GO:∀{bs:List Int} {m b:Int},b∈bs->b∣ye bs m
 | c :: r,m,b,h=>by
  rcases aG.mp h with rfl | h
  ·exact Int.dvd_trans EW (GQ (bs:=r))
  ·exact GO (bs:=r) h
end Nm
namespace L2
open PySem PySem.Spec PyProof.Rows Nm
def Fj (K:FG9) (H:Hp) (p:Addr) (ns:List (Int×Int)):Prop:=∃xs,H p=some (.lst xs)/\Paired (λn x=>xm K H x n) ns xs
theorem Fj.same {K:FG9} (h:Fj K H p ns) (e:aH H H'):Fj K H' p ns:=by obtain xs|g|q:=h;exact #[xs,e _ _ g,Paired.imp' (λ_ _ z=>e.num z) q]
def Gx (K:FG9) (T:String):V->Hp->VK->Prop:=λx H Q=>IX K T x H Q\/∃a xs b,x=.ref a/\jB K H a xs/\PySem.W.kitOne K (.type "tuple") (.type T)=some b/\Q (.bl b) H
theorem Du:∀{bs:List Int} {m b:Int},ye (bs++[b]) m=ye bs m*(b / g (ye bs m) b)
 | [],_,_=>rfl
 | c :: r,m,b=>Du (bs:=r)
def dO (ns:List (Int×Int)) (B:Int):List Int:=ns.map λn=>n.1*(B / n.2)
def ft (ns:List (Int×Int)):Int:=ye (ns.map (·.2)) 1
def JB (ns ms:List (Int×Int)):Int:=(List.zipWith (λx y=>x*y) (dO ns (ft ns)) (dO ms (ft ms))).sum
theorem sX (h:n∈ns):n.2∣ft ns:=GO (aE.mpr #[n,h,rfl])
theorem IU {K:FG9} (h:ta σ H λvs H1=>∃(l1 l2:Addr) (xs ys:List V),vs=[.ref l1,.ref l2]/\bR K H1 l1 xs/\bR K H1 l2 ys/\ys.9=xs.9 /\
 ∀L ts H',aH H1 H'->H1 L=none->H' L=some (.lst ts)->Paired (Rt H') (xs.zip ys) ts->Q (.ref L) H'):FN K ta σ H Q:=h
theorem Vi (hb:0 < b) (h:Sz k b):Sz k (g m b):=h.le (by
 have h1:(g m b).natAbs=Int.gcd m b:=by unfold g;simp
 rw[h1];exact jJ () (by have:=gi (a:=m) (b:=b);exact ij.mpr this |> λz=>by simpa using z))
theorem JN {ts us:List Int} {i:Nat} (h:((ts.map V.int).zip (us.map V.int))[i]?=some pq):∃t u,ts[i]?=some t/\us[i]?=some u/\pq=(.int t,.int u):=by
 rw[Ts,aF,aF] at h;obtain h1|h2:=h;cases e1:ts[i]? with
 | none=>rw[e1] at h1;cases h1
 | some t =>
  cases e2:us[i]? with
  | none=>rw[e2] at h2;cases h2
  | some u =>
   rw[e1] at h1;rw[e2] at h2;refine #[t,u,rfl,rfl,?_];cases pq;simp at h1 h2;rw[h1,h2]
def Lm (K:FG9):Sp:=λvs H Q _=>∃x n,vs=[x]/\xm K H x n/\zG n/\∀H',aH H H'->Q (.bl true) H'
inductive xI (K:FG9) (vs:List V) (H:Hp) (Q:VK) (E9:XK):Prop
 | mk (p:Addr) (ns:List (Int×Int)):vs=[.ref p,.int ns.9]->Fj K H p ns->ns.9<=1000->(∀n∈ns,zG n)->(∀H',aH H H'->Q (.bl true) H')->xI K vs H Q E9
theorem pP {X:Cx} {a:Expr} {ta:TE} {pos:Pos} {c:Str} {T:String} {p p2:Pos} (hg:Gl X "isinstance") (hm:X.mg "isinstance"=none) (hb:bootBuiltins c=some (.type T)) (hmc:X.mg c=none) (ha:PE X a ta) (hgc:Gl X c:=by rfl) (hn:c≠"__name__":=by decide)
  (hd:(c == ("__debug__":Str))=false:=by decide) (he:starEach [a,.Name c p2] X.env=[(false,eval a X.env),(false,eval (.Name c p2) X.env)]:=by rfl)
  (hpl:(backTo pos (starEach [.Name c p2] X.env)).any (·.1)=false:=by rfl) (he2:starEach [.Name c p2] X.env=[(false,eval (.Name c p2) X.env)]:=by rfl):PE X (.Call (.Name "isinstance" p) [a,.Name c p2] [] pos) (UZ (Gx X.K T) ta):=by
 intro pins s σ H Q I h;refine wpAny_Call_Name_kw (j7 I hg hm PyProof.Rows.boot_isinstance ?_);have hA:PA X [a,.Name c p2] (rg ta (rg (tC (.ty T)) Lg)):=aa ha (aa (zZ hgc hmc hb rfl hn hd) ai he2) (by rw[he,he2])
 have hq:rg ta (rg (tC (.ty T)) Lg) σ H (λvs H1=>∃x,vs=[x,.ty T]/\Gx X.K T x H1 Q):=by
  show ta σ H λx H1=>∃x',[x,V.ty T]=[x',V.ty T]/\Gx X.K T x' H1 Q
  have e:(λx H1=>∃x',[x,V.ty T]=[x',V.ty T]/\Gx X.K T x' H1 Q)=λx H1=>Gx X.K T x H1 Q:=by
   funext x H1;apply propext;constructor
   ·rintro ⟨x',e,q⟩;cases e;exact q
   ·intro q;exact #[x,rfl,q]
  rw[e];exact h
 refine PyProof.Rows.callWith_builtin1 (gL (hA pos pins s σ H _ I hq) λus s1 #[vs,H1,I1,r1,x,e,q1]=>?_) (by rw[he,he2]) hpl;subst e;obtain u|w'|rfl|ru|rt:=vals2 r1;cases rt;rcases q1 with ⟨t,bb,ty,ek,q⟩ | ⟨ad,xs,bb,rfl,hs,ek,q⟩
 ·exact Dv I1 ru ty ek λtk=>#[.bl bb,H1,I1.tok tk,rfl,q]
 ·cases ru;obtain its|_|⟨o,g1,g2,_⟩|_:=I1.tuple hs;exact dM uJ I1.kIn #[o,g1,g2] ek (λz=>nomatch z) λtk=>#[.bl bb,H1,I1.tok tk,rfl,q]
theorem M8 (h:H l=some (.lst [x])) (hk:k<=1000) (q:∀p H',aH H H'->H p=none->H' p=some (.lst (List.replicate k x))->Q (.ref p) H'):Uk (.ref l) (.int k) H Q :=
 #[l,k,[x],rfl,rfl,h,(),(),be (bC (by simp;lia)),λp hp=>q p _ (aH.new hp) hp (by rw[aL];simp)]
theorem Tc {k:Nat} (h:k<=xs.9):wO xs none (some (k:Int))=xs.take k:=by
 unfold wO;rw[HT.Gh,HT.Kd,OW h];simp
theorem va {α β:Type} {F:α->β->Prop} {x:α} {y:β} (h:F x y):∀m:Nat,Paired F (List.replicate m x) (List.replicate m y)
 | 0=>.nil
 | m+1=>.cons h (va h m)
theorem fZ (h:a < n):Ml n (a:Int)=some a:=by
 unfold Ml;rw[if_pos (),if_pos (),Int.toNat_natCast]
theorem Ox {k:Nat}:wO xs none (some (k:Int))=xs.take k:=by
 by_cases h:k<=xs.9
 ·exact Tc h
 ·unfold wO;rw[HT.Gh,HT.Kd,Nat.min_eq_right (),aJ (by simp),aJ ()];rfl
theorem yD {α β:Type} {F:α->β->Prop}:∀{l1:List α} {l2:List β} (_:Paired F l1 l2) (k:Nat),Paired F (l1.take k) (l2.take k)
 | _,_,.nil,k=>by simp;exact .nil
 | _,_,.cons h r,0=>.nil
 | _,_,.cons h r,k+1=>.cons h (yD r k)
def P6 (K:FG9):List V->Hp->VK->Prop:=λxs H Q=>∃p ys,xs=[.ref p]/\(bR K H p ys\/jB K H p ys)/\∀l,H l=none->Q (.ref l) (upd H l (.lst ys))
theorem fz (K:FG9) (hK:X.K=K):nB X (.type "list") (P6 K):=by subst hK;exact qD
theorem aH.none (s:aH H H') (h:H' l=Option.none):H l=Option.none:=by
 cases e:H l with
 | none=>rfl
 | some o=>have:=s _ _ e;rw[h] at this;cases this
def Rv (K:FG9) (H:Hp) (p:Addr) (rows:List (List (Int×Int))):Prop:=∃xs,H p=some (.lst xs)/\Paired (λns x=>∃q,x=V.ref q/\Fj K H q ns) rows xs
theorem IH (h:b.natAbs<=1000000):Sz 20 b:=bx h ()
theorem cP.none (u:cP b H H') (B:gV H' b) (h:H' l=Option.none):H l=Option.none:=by
 cases e:H l with
 | none=>rfl
 | some o =>
  by_cases z:l=b
  ·obtain _|_|_|_|_|e2|_:=B;rw[<- z,h] at e2;cases e2
  ·have:=u.1 l o e z;rw[h] at this;cases this
inductive Ay (K:FG9) (vs:List V) (H:Hp) (Q:VK) (E9:XK):Prop
 | mk (p:Addr) (rows:List (List (Int×Int))) (m:Nat):vs=[.ref p,.int rows.9,.int m]->Rv K H p rows->rows.9<=1000->m<=1000->((∀ns∈rows,ns.9=m/\∀n∈ns,zG n))->(∀H',aH H H'->Q (.bl true) H')->Ay K vs H Q E9
end L2
namespace Nm
def nm (q:Rat):Int×Int:=(q.num,(q.den:Int))
theorem iT (q:Rat):0 < (nm q).2:=by have:=q.den_pos;show 0 < (q.den:Int);lia
theorem Bi (q:Rat):Int.gcd (nm q).1 (nm q).2=1:=q.reduced
theorem SK (h:nm p=nm q):p=q:=by
 have h1:p.num=q.num:=congrArg Prod.fst h;have h2:(p.den:Int)=q.den:=congrArg Prod.snd h;exact Rat.ext h1 ()
theorem jU (q:Rat):(q.num:Rat)=q*(q.den:Rat):=by
 have h:=Rat.num_divInt_den q;rw[Rat.divInt_eq_div] at h
 have hd:((q.den:Int):Rat)≠0:=by
  intro z;have z:=zI.mp z;have:=q.den_pos
  lia
 have e:((q.den:Int):Rat)=(q.den:Rat):=aS _
 calc (q.num:Rat)=(q.num:Rat) / ((q.den:Int):Rat)*((q.den:Int):Rat):=(uI hd).symm
  _=q*(q.den:Rat):=by rw[h,e]
theorem Q4 (hb:0 < b) (hg:Int.gcd a b=1) (e:q*(b:Rat)=(a:Rat)):(a,b)=nm q:=by
 have h1:a*(q.den:Int)=q.num*b:=by
  apply dI.mp;rw[bc,bc,<- e,jU,aS];grind
 obtain e1|e2:=uniq hb (iT q) hg (Bi q) h1;exact Prod.ext e1 e2
theorem mU {t b:Int} (hb:0 < b) (e:q*(b:Rat)=(t:Rat)):(lo t b,hi t b)=nm q:=by
 refine Q4 (E3 hb) (Bo ()) ?_;have h:=Bp t b;have hb':(b:Rat)≠0:=λz=>by have:=zI.mp z;lia
 have h2:((lo t b:Int):Rat)*(b:Rat)=(t:Rat)*((hi t b:Int):Rat):=by rw[<- bc,h,bc]
 rw[<- e] at h2;have h3:(q*((hi t b:Int):Rat) - ((lo t b:Int):Rat))*(b:Rat)=0:=by grind
 rcases lS.mp h3 with h4 | h4
 ·grind
 ·exact absurd h4 hb'
def Fr (M V:Nat) (q:Rat):Prop:=∃z:Int,q*(M:Rat)=(z:Rat)/\z.natAbs<=V*M
theorem Fr.mono (h:Fr M V q) (l:V<=V'):Fr M V' q:=by obtain z|e|b:=h;exact #[z,e,ag b (aD _ l)]
theorem Fr.scale (h:Fr M V q) (k:Nat):Fr (M*k) V q:=by
 obtain z|e|b:=h;refine #[z*k,?_,?_]
 ·rw[iD,bc,<- e,aS,Rat.mul_assoc]
 ·rw[dk,bW,<- cu];exact aD _ b
theorem Fr.scaleL (h:Fr M V q) (k:Nat):Fr (k*M) V q:=by rw[bY];exact h.scale k
theorem Fr.dvd (h:Fr M V q) (d:M∣N):Fr N V q:=by obtain k|rfl:=d;exact h.scale k
theorem Fr.add (h:Fr M V p) (h':Fr M W q):Fr M (V+W) (p+q):=by
 obtain z|e|b:=h;obtain z'|e'|b':=h';refine #[z+z',by rw[Cg,<- e,<- e',Rat.add_mul],?_];rw[OO];have:=Int.natAbs_add_le z z'
 lia
theorem Fr.neg (h:Fr M V q):Fr M V (-q):=by
 obtain z|e|b:=h;exact #[-z,by rw[dZ,<- e,Rat.neg_mul],by rw[uL];exact b]
theorem Fr.sub (h:Fr M V p) (h':Fr M W q):Fr M (V+W) (p - q):=by rw[Rat.sub_eq_add_neg];exact h.add h'.neg
theorem Fr.mul (h:Fr M V p) (h':Fr N W q):Fr (M*N) (V*W) (p*q):=by
 obtain z|e|b:=h;obtain z'|e'|b':=h';refine #[z*z',?_,?_]
 ·rw[iD,bc,<- e,<- e'];grind
 ·rw[dk]
  calc z.natAbs*z'.natAbs<=(V*M)*(W*N):=ay b b'
   _=V*W*(M*N):=by rw[cu,Nat.mul_left_comm M,<- cu]
theorem Fr.zero:Fr M V 0:=#[0,by simp,by simp]
theorem Fr.int {i:Int} (h:i.natAbs<=V):Fr M V (i:Rat):=#[i*M,by rw[bc,aS],by rw[dk,bW];exact aD _ h]
theorem Fr.one (h:1<=V):Fr M V 1:=Fr.int (i:=1) h
theorem Fr.den (h:Fr M V q):(q.den:Int)∣(M:Int):=by
 obtain z|e|b:=h
 have h1:q.num*(M:Int)=z*(q.den:Int):=by
  apply dI.mp;rw[bc,bc,<- e,jU,aS,aS];grind
 have h2:(q.den:Int)∣q.num*(M:Int):=#[z,by rw[h1,gN]];exact qr (by rw[jt];exact Bi q) h2
theorem Fr.den_le (h:Fr M V q) (hM:0 < M):q.den<=M:=jJ hM (zK.mp h.den)
theorem Fr.num_le (h:Fr M V q) (hM:0 < M):q.num.natAbs<=V*M:=by
 have hd:=h.den;obtain z|e|b:=h;obtain k|hk:=zK.mp hd;have hk0:k≠0:=λz=>by rw[z,Ag] at hk;lia
 have h1:z=q.num*(k:Int):=by
  apply dI.mp;rw[bc,<- e,jU,aS,hk,iD];grind
 rw[h1] at b;exact ag (nZ ()) b
theorem Fr.own (q:Rat) (h:q.num.natAbs<=V):Fr q.den V q:=#[q.num,(jU q).symm,ag h (c7 _ q.den_pos)]
theorem Fr.sz (h:Fr M V q) (hM:0 < M) (h1:M<=2^k) (h2:V<=2^j):Sz (j+k+1) (nm q).1/\Sz (k+1) (nm q).2:=by
 constructor
 ·show q.num.natAbs < 2^(j+k+1)
  have h3:=h.num_le hM;have h4:V*M<=2^j*2^k:=ay h2 h1;rw[eP,aB];have:=Nat.two_pow_pos (j+k);rw[aB] at this
  lia
 ·show (q.den:Int).natAbs < 2^(k+1)
  have h3:=h.den_le hM;rw[bW,eP];have:=Nat.two_pow_pos k
  lia
theorem Fr.sum {M V:Nat}:∀{l:List Rat},(∀x∈l,Fr M V x)->Fr M (l.9*V) l.sum
 | [],_=>by simp;exact Fr.zero
 | x :: r,h=>by
  rw[List.sum_cons,bO,dw,nF];exact (h x (.head _)).add (Fr.sum λy hy=>h y (.tail _ hy))
def cm (xs ys:List Rat):Rat:=(List.zipWith (λx y=>x*y) xs ys).sum
theorem Fr.dot (h:∀x∈xs,Fr M V x) (h':∀y∈ys,Fr N W y):Fr (M*N) (xs.9*(V*W)) (cm xs ys):=by
 have q:=Fr.sum (M:=M*N) (V:=V*W) (l:=List.zipWith (λx y=>x*y) xs ys) λz hz=>by
  obtain i|hi|e:=bE hz;rw[dg] at e;rw[<- e];exact (h _ (aK _)).mul (h' _ (aK _))
 exact q.mono (aD _ (by rw[bD];lia))
theorem Aa:∀{bs:List Int} {m M:Int},0 < m->m∣M->(∀b∈bs,0 < b/\b∣M)->ye bs m∣M
 | [],_,_,_,h,_=>h
 | b :: r,m,M,hm,h,hb=>by
  have b1:=hb b dF;refine Aa (bs:=r) (vW hm b1.1) ?_ λc hc=>hb c (b7 _ hc)
  have gp:0 < g m b:=BA ();have e1:=Bq m b;have e2:=yh m b;obtain u|hu:=h;obtain v|hv:=b1.2
  have h3:lo m b*u=hi m b*v:=by
   apply uM (show g m b≠0 by lia)
   calc lo m b*u*g m b=lo m b*g m b*u:=by rw[dX,gN u,<- dX]
    _=m*u:=by rw[e1]
    _=M:=hu.symm
    _=b*v:=hv
    _=hi m b*g m b*v:=by rw[e2]
    _=hi m b*v*g m b:=by rw[dX,gN (g m b),<- dX]
  have h4:hi m b∣lo m b*u:=#[v,h3];have h5:hi m b∣u:=qr (by rw[jt];exact Bo ()) h4;obtain w|hw:=h5;refine #[w,?_];show M=m*hi m b*w
  rw[hu,hw,dX]
theorem E7 (hb:0 < b) (d:a∣b) (h:Sz k b):Sz k a:=h.le (jJ () (ij.mpr d))
end Nm
namespace Nm
def Dr (W:Nat) (x:Rat):Prop:=x.num.natAbs<=W/\x.den<=W
def vH:List Nat->Nat
 | []=>1
 | a :: r=>a*vH r
theorem xW:∀{l:List Nat},(∀a∈l,0 < a)->0 < vH l
 | [],_=>Nat.one_pos
 | a :: r,h=>a7 (h a (.head _)) (xW λb hb=>h b (.tail _ hb))
theorem xX:∀{l:List Nat} {a:Nat},a∈l->a∣vH l
 | b :: r,a,h=>by
  rcases aG.mp h with rfl | h
  ·exact xu ..
  ·exact gX (xX h) (cM ..)
theorem A0 {k:Nat}:∀{l:List Nat},(∀a∈l,a<=2^k)->vH l<=2^(k*l.9)
 | [],_=>by simp [vH]
 | a :: r,h=>by
  rw[bO,Nat.mul_succ,aB,bY (2^(k*r.9))];exact ay (h a (.head _)) (A0 λb hb=>h b (.tail _ hb))
def GF (M V:Nat) (rows:LR9):Prop:=∀xs∈rows,∀x∈xs,Fr M V x
def To (c n i:Nat) (rows:LR9):Prop:=∃M,0 < M/\M<=2^(i*(c*n+2))/\GF M (2^(20+2*i)) rows
theorem S5:To c n 0 []:=#[1,(),by simp,λ_ h=>nomatch h]
theorem S6 (c n i:Nat):(i+1)*(c*n+2)=i*(c*n+2)+(c*n+2):=dw ..
theorem Qr (h:To c n i rows) (hl:xs.9=n) (hd:∀x∈xs,Dr (2^c) x) (hc:c<=20):To c n (i+1) (rows++[xs]):=by
 obtain M|h0|h1|h2:=h
 have dp:0 < vH (xs.map (·.den)):=xW λa ha=>by
  obtain x|_|rfl:=aE.mp ha;exact x.den_pos
 have dl:vH (xs.map (·.den))<=2^(c*n):=by
  have:=A0 (k:=c) (l:=xs.map (·.den)) λa ha=>by
   obtain x|hx|rfl:=aE.mp ha;exact (hd x hx).2
  rwa [aj,hl] at this
 refine #[M*vH (xs.map (·.den)),a7 h0 dp,?_,λys hy x hx=>?_]
 ·rw[S6,aB];exact ay h1 (ag dl (au () ()))
 ·rcases aA.mp hy with hy | hy
  ·exact ((h2 ys hy x hx).scale _).mono (au () ())
  ·have e:ys=xs:=by simpa using hy
   subst e;have f:Fr x.den (2^c) x:=Fr.own x (hd x hx).1;have g:=(f.dvd (xX (aE.mpr #[x,hx,rfl]))).scaleL M;exact g.mono (au () ())
def cp (rows:LR9) (w:Nat):LR9:=(List.range w).map λj=>rows.map λxs=>xs.getD j 0
def xx (one other:LR9) (w:Nat):LR9:=one.map λxs=>(cp other w).map λys=>cm ys xs
theorem cx:(cp rows w).9=w:=by simp [cp]
theorem gO:∀ys∈cp rows w,ys.9=rows.9:=λys hy=>by
 obtain j|_|rfl:=aE.mp hy;exact aj ..
theorem getD_map {α:Type} {l:List α} {f:α->Rat} (h:i < l.9):(l.map f).getD i 0=f l[i]:=by
 rw[ae,aF,af h];rfl
theorem CZ (h:∀xs∈rows,xs.9=w):cp (cp rows w) rows.9=rows:=by
 apply fD
 ·exact cx
 ·intro i h1 h2;have e:(cp (cp rows w) rows.9)[i]=(cp rows w).map λxs=>xs.getD i 0:=by simp [cp]
  rw[e];have hw:=h rows[i] (aK h2);apply fD
  ·rw[aj,cx,hw]
  ·intro j h3 h4;rw[oZ];have e2:(cp rows w)[j]'(by rw[cx];lia)=rows.map λxs=>xs.getD j 0:=by simp [cp]
   rw[e2,getD_map h2,ae,af h4];rfl
end Nm
namespace L2
open PySem PySem.Spec PyProof.Rows Nm
theorem cP.sqt {K:FG9} (u:cP b H H') (B:gV H b) (h:jB K H a xs):jB K H' a xs:=by
 rcases h with (h | ⟨o,h⟩) | h
 ·exact .inl (.inl (u.tup B h))
 ·exact .inl (.inr #[o,u.other (λz=>by obtain _|_|_|_|_|e|_:=B;rw[z,e] at h;cases h) h])
 ·exact .inr h
theorem MK {K:FG9} (h:jB K H a xs) (hl:H l=some (.lst ys)):jB K (upd H l o) a xs:=by
 rcases h with (h | ⟨o,h⟩) | h
 ·exact .inl (.inl (by rw[bM λz=>by rw[z,hl] at h;cases h];exact h))
 ·exact .inl (.inr #[o,by rw[bM λz=>by rw[z,hl] at h;cases h];exact h])
 ·exact .inr h
def bQ (K:FG9) (H:Hp) (q:Rat) (x:V):Prop:=xm K H x (nm q)
section
variable {K:FG9} {H H':Hp} {q:Rat} {x:V} {b l p:Addr} {qs:List Rat}
theorem bQ.same (h:bQ K H q x) (e:aH H H'):bQ K H' q x:=e.num h
theorem bQ.upto (h:bQ K H q x) (u:cP b H H') (B:gV H b):bQ K H' q x:=by obtain p|e|s:=h;exact #[p,e,u.sqt B s]
theorem bQ.updL (h:bQ K H q x) (hl:H l=some (.lst ys)):bQ K (upd H l o) q x:=by obtain p|e|s:=h;exact #[p,e,MK s hl]
theorem bQ.mk (h:H r=some (.tup [.int a,.int c])) (e:(a,c)=nm q):bQ K H q (.ref r):=#[r,rfl,by rw[<- e];exact jB.of h]
def bV (K:FG9) (H:Hp) (p:Addr) (qs:List Rat):Prop:=∃xs,H p=some (.lst xs)/\Paired (bQ K H) qs xs
theorem bV.same (h:bV K H p qs) (e:aH H H'):bV K H' p qs:=by obtain xs|g|r:=h;exact #[xs,e _ _ g,Paired.imp' (λ_ _ z=>z.same e) r]
theorem bV.upto (h:bV K H p qs) (u:cP b H H') (B:gV H b) (n:p≠b):bV K H' p qs:=by obtain xs|g|r:=h;exact #[xs,u.other n g,Paired.imp' (λ_ _ z=>z.upto u B) r]
theorem bV.updL (h:bV K H p qs) (hl:H l=some (.lst ys)) (n:p≠l):bV K (upd H l o) p qs:=by obtain xs|g|r:=h;exact #[xs,by rw[bM n];exact g,Paired.imp' (λ_ _ z=>z.updL hl) r]
theorem rY {α β γ:Type} {F:α->β->Prop} {f:γ->α}:∀{l:List γ} {l2:List β},Paired (λc x=>F (f c) x) l l2->Paired F (l.map f) l2
 | _,_,.nil=>.nil
 | _,_,.cons r t=>.cons r (rY t)
theorem bV.rowK (h:bV K H p qs):Fj K H p (qs.map nm):=by obtain xs|g|r:=h;exact #[xs,g,rY (F:=λn x=>xm K H x n) r]
def dB (K:FG9) (H0 H:Hp) (qs:List Rat) (x:V):Prop:=∃q,x=V.ref q/\H0 q=none/\bV K H q qs
def bL (K:FG9) (H0 H:Hp) (p:Addr) (rows:LR9):Prop:=∃xs,H p=some (.lst xs)/\Paired (dB K H0 H) rows xs/\V.ref p∉xs
theorem jV {rows:LR9} (h:∃H2,H2 p=none/\Paired (dB K H0 H2) rows ys):V.ref p∉ys:=λhm=>by
 obtain H2|e|pr:=h;obtain qs|_|q|z|_|xs|g|_:=cX pr hm;cases z;rw[e] at g;cases g
variable {H0:Hp} {rows:LR9}
theorem dB.same (h:dB K H0 H qs x) (e:aH H H'):dB K H0 H' qs x:=by obtain q|a|b|c:=h;exact #[q,a,b,c.same e]
theorem dB.upto (h:dB K H0 H qs x) (u:cP b H H') (B:gV H b) (nb:H0 b≠none):dB K H0 H' qs x:=by obtain q|a|c|d:=h;exact #[q,a,c,d.upto u B λz=>nb (by rw[<- z];exact c)]
theorem dB.weak (h:dB K H0 H qs x) (e:aH H1 H0):dB K H1 H qs x:=by obtain q|a|b|c:=h;exact #[q,a,e.none b,c]
theorem bL.same (h:bL K H0 H p rows) (e:aH H H'):bL K H0 H' p rows:=by obtain xs|g|r|n:=h;exact #[xs,e _ _ g,Paired.imp' (λ_ _ z=>z.same e) r,n]
theorem bL.upto (h:bL K H0 H p rows) (u:cP b H H') (B:gV H b) (n:p≠b) (nb:H0 b≠none):bL K H0 H' p rows:=by obtain xs|g|r|nn:=h;exact #[xs,u.other n g,Paired.imp' (λ_ _ z=>z.upto u B nb) r,nn]
theorem bL.weak (h:bL K H0 H p rows) (e:aH H1 H0):bL K H1 H p rows:=by obtain xs|g|r|n:=h;exact #[xs,g,Paired.imp' (λ_ _ z=>z.weak e) r,n]
theorem bL.gridK (h:bL K H0 H p rows):Rv K H p (rows.map (List.map nm)):=by obtain xs|g|r|_:=h;exact #[xs,g,rY (F:=λns x=>∃q,x=V.ref q/\Fj K H q ns) (Paired.imp' (λ_ _ #[q,a,_,c]=>#[q,a,c.rowK]) r)]
end
def GS:Kind Rat:=Uv.via nm (λ_ _ e=>SK e) (λK H x q=>bQ K H q x) id
def GR:Kind (List Rat):=Uw GS
def EX:Kind (LR9):=Uw GR
theorem bV.kind {K:FG9} (h:bV K H p qs):GR.R K H (.ref p) qs:=by obtain xs|g|q:=h;exact #[p,xs,rfl,bR.of g,q]
theorem bL.kind {K:FG9} (h:bL K H0 H p rows):EX.R K H (.ref p) rows:=by obtain xs|g|q|_:=h;exact #[p,xs,rfl,bR.of g,Paired.imp' (λ_ _ #[q,a,_,c]=>by rw[a];exact c.kind) q]
def iI (x:Rat):Prop:=Sz 4000000 (nm x).1/\Sz 4000000 (nm x).2
def Fits (l:List Rat):Prop:=∃M V:Nat,0 < M/\M<=2^900/\V<=2^900/\∀x∈l,Fr M V x
theorem Fits.szn (h:Fits l) (hx:x∈l):iI x:=by
 obtain M|V|h0|h1|h2|h3:=h;obtain a|b:=(h3 x hx).sz h0 h1 h2;exact #[a.mono (),b.mono ()]
theorem Fits.ok (h:Fits l) (hx:x∈l):zG (nm x):=#[iT x,Bi x,(h.szn hx).1.mono (),(h.szn hx).2.mono ()]
theorem Jx {M V:Nat} (h0:0 < M) (h1:M<=2^1800) (h2:V<=2^1810) (h:Fr M V x):iI x:=by
 obtain a|b:=h.sz h0 h1 h2;exact #[a.mono (),b.mono ()]
theorem MI (h:iI x):zG (nm x):=#[iT x,Bi x,h.1.mono (),h.2.mono ()]
inductive o8 (K:FG9) (f:Rat->Rat->Rat) (vs:List V) (H:Hp) (Q:VK) (E9:XK):Prop
 | mk (u v:V) (x y:Rat):vs=[u,v]->bQ K H x u->bQ K H y v->iI x->iI y->(∀r H',aH H H'->bQ K H' (f x y) (.ref r)->Q (.ref r) H')->o8 K f vs H Q E9
section
variable {K:FG9} {vs:List V} {H:Hp} {Q:VK} {E:XK}
theorem Jd (hf:∀x y:Rat,(f x y)*(((nm x).2*(nm y).2:Int):Rat)=((F (nm x).1 (nm x).2 (nm y).1 (nm y).2:Int):Rat)) (h:o8 K f vs H Q E):Ka K F vs H Q E:=by
 obtain u|v|x|y|rfl|⟨p,rfl,hp⟩|⟨q,rfl,hq⟩|⟨s1,s2⟩|⟨s3,s4⟩|k:=h;refine #[p,q,_,_,_,_,rfl,hp,hq,iT x,iT y,s1,s2,s3,s4,λr H' s g=>k r H' s (bQ.mk g ?_)];exact mU (jr (iT x) (iT y)) (hf x y)
theorem vf (x:Rat):(((nm x).1:Int):Rat)=x*(((nm x).2:Int):Rat):=by
 show (x.num:Rat)=x*(((x.den:Nat):Int):Rat)
 rw[jU,aS]
theorem KZ (h:o8 K (λx y=>x+y) vs H Q E):Ka K Ri vs H Q E:=Jd (λx y=>by
 unfold Ri;rw[Cg,bc,bc,bc,vf,vf];grind) h
theorem zX (h:o8 K (λx y=>x - y) vs H Q E):Ka K Oi vs H Q E:=Jd (λx y=>by
 unfold Oi;rw[Rat.intCast_sub,bc,bc,bc,vf,vf];grind) h
theorem Kl (h:o8 K (λx y=>x*y) vs H Q E):Ka K Oh vs H Q E:=Jd (λx y=>by
 unfold Oh;rw[bc,bc,vf,vf];grind) h
end
def Ia (M:Int) (ns:List (Int×Int)):Prop:=0 < M/\Sz 4400000 M/\∀n∈ns,0 < n.2/\n.2∣M/\Sz 4400000 n.1
theorem Ia.bot (h:Ia M ns):0 < ft ns/\Sz 4400000 (ft ns):=by
 have hb:∀b∈ns.map (·.2),0 < b/\b∣M:=λb hb=>by
  obtain n|hn|rfl:=aE.mp hb;exact #[(h.2.2 n hn).1,(h.2.2 n hn).2.1]
 exact #[Bs () λb q=>(hb b q).1,E7 h.1 (Aa () (Int.one_dvd _) hb) h.2.1]
inductive MO (K:FG9) (vs:List V) (H:Hp) (Q:VK) (E9:XK):Prop
 | mk (p:Addr) (bs:List Int) (M:Int):vs=[.ref p]->bR K H p (bs.map V.int)->0 < M->Sz 4400000 M->((∀b∈bs,0 < b/\b∣M))->Q (.int (ye bs 1)) H->MO K vs H Q E9
inductive MP (K:FG9) (vs:List V) (H:Hp) (Q:VK) (E9:XK):Prop
 | mk (p:Addr) (ns:List (Int×Int)) (M:Int):vs=[.ref p]->Fj K H p ns->ns.9<=1000->Ia M ns->(∀H',aH H H'->Q (.int (ft ns)) H')->MP K vs H Q E9
inductive FR (K:FG9) (vs:List V) (H:Hp) (Q:VK) (E9:XK):Prop
 | mk (p:Addr) (ns:List (Int×Int)) (M:Int) (B:Int):vs=[.ref p,.int B]->Fj K H p ns->ns.9<=1000->Ia M ns->0 < B->Sz 4400000 B->(∀r H',H r=none->aH H H'->H' r=some (.lst ((dO ns B).map V.int))->Q (.ref r) H')->FR K vs H Q E9
theorem vv (h:Ia M ns) (hB:0 < B) (sB:Sz 4400000 B) (ht:t∈dO ns B):Sz 8800000 t:=by
 obtain n|hn|rfl:=aE.mp ht;have hp:=h.2.2 n hn
 have sq:Sz 4400000 (B / n.2):=sB.le (by
  rw[Tt ()];exact Nat.div_le_self ..)
 exact (hp.2.2.mul sq).mono ()
theorem rf (h:(nm x).2∣B):(((nm x).1*(B / (nm x).2):Int):Rat)=x*(B:Rat):=by
 obtain k|rfl:=h;have hp:=iT x;rw[Int.mul_ediv_cancel_left _ (),bc,bc,vf];grind
theorem GX {B C:Int}:∀{xs ys:List Rat},(∀x∈xs,(nm x).2∣B)->(∀y∈ys,(nm y).2∣C)->(((List.zipWith (λx y=>x*y) (dO (xs.map nm) B) (dO (ys.map nm) C)).sum:Int):Rat)=cm xs ys*((B:Rat)*(C:Rat))
 | [],ys,_,_=>by simp [dO,cm]
 | x :: xs,[],_,_=>by simp [dO,cm]
 | x :: xs,y :: ys,h1,h2=>by
  have ih:=GX (B:=B) (C:=C) (xs:=xs) (ys:=ys) (λz hz=>h1 z (.tail _ hz)) (λz hz=>h2 z (.tail _ hz));have e1:=rf (h1 x (.head _));have e2:=rf (h2 y (.head _));have e3:(List.zipWith (λx y=>x*y) (dO ((x :: xs).map nm) B) (dO ((y :: ys).map nm) C)).sum=((nm x).1*(B / (nm x).2))*((nm y).1*(C / (nm y).2))+(List.zipWith (λx y=>x*y) (dO (xs.map nm) B) (dO (ys.map nm) C)).sum:=rfl;have e4:cm (x :: xs) (y :: ys)=x*y+cm xs ys:=rfl;rw[e3,e4,Cg,bc,ih,e1,e2];grind
theorem KH (h1:0 < ft (xs.map nm)) (h2:0 < ft (ys.map nm)):(lo (JB (xs.map nm) (ys.map nm)) (ft (xs.map nm)*ft (ys.map nm)),hi (JB (xs.map nm) (ys.map nm)) (ft (xs.map nm)*ft (ys.map nm)))=nm (cm xs ys):=by
 refine mU (jr h1 h2) ?_;unfold JB;rw[GX (λx hx=>sX (aE.mpr #[x,hx,rfl])) (λx hx=>sX (aE.mpr #[x,hx,rfl])),bc]
inductive FQ (K:FG9) (vs:List V) (H:Hp) (Q:VK) (E9:XK):Prop
 | mk (p:Addr) (w:Nat) (H0:Hp) (rows:LR9):vs=[.ref p,.int w]->bL K H0 H p rows->rows.9<=1000->w<=1000->(∀xs∈rows,xs.9=w)->(∀r H',H r=none->aH H H'->bL K H H' r (cp rows w)->Q (.ref r) H')->FQ K vs H Q E9
inductive Av (K:FG9) (vs:List V) (H:Hp) (Q:VK) (E9:XK):Prop
 | mk (b:Addr) (w:Nat):vs=[.ref b,.int w]->gV H b->1<=w->w<=1000000->(∀r x H',Dr (max w 6) x->bQ K H' x (.ref r)->gV H' b->cP b H H'->Q (.ref r) H')->Av K vs H Q E9
inductive F6 (K:FG9) (vs:List V) (H:Hp) (Q:VK) (E9:XK):Prop
 | mk (b:Addr) (m w:Nat):vs=[.ref b,.int m,.int w]->gV H b->m<=1000->1<=w->w<=1000000->(∀r xs H',H r=none->bV K H' r xs->xs.9=m->(∀x∈xs,Dr (max w 6) x)->gV H' b->cP b H H'->Q (.ref r) H')->F6 K vs H Q E9
inductive FV (K:FG9) (vs:List V) (H:Hp) (Q:VK) (E9:XK):Prop
 | mk (p q:Addr) (xs ys:List Rat):vs=[.ref p,.ref q]->bV K H p xs->bV K H q ys->ys.9=xs.9->xs.9<=1000->(∀x∈xs,iI x)->(∀y∈ys,iI y)->(∀r H',H r=none->aH H H'->bV K H' r (List.zipWith (λx y=>x+y) xs ys)->Q (.ref r) H')->FV K vs H Q E9
inductive MQ (K:FG9) (vs:List V) (H:Hp) (Q:VK) (E9:XK):Prop
 | mk (u:V) (q:Addr) (c:Rat) (ys:List Rat):vs=[u,.ref q]->bQ K H c u->iI c->bV K H q ys->ys.9<=1000->(∀y∈ys,iI y)->(∀r H',H r=none->aH H H'->bV K H' r (ys.map λy=>c*y)->Q (.ref r) H')->MQ K vs H Q E9
inductive AB (K:FG9) (vs:List V) (H:Hp) (Q:VK) (E9:XK):Prop
 | mk (p:Addr) (H0:Hp) (rows:LR9):vs=[.ref p]->bL K H0 H p rows->rows.9<=1000->(∀xs∈rows,xs.9<=1000)->(∀r H',H r=none->aH H H'->bL K H H' r rows->Q (.ref r) H')->AB K vs H Q E9
section
variable {K:FG9} {a:Addr} {xs:List V} {g:TG} {tf:TT} {te:TE} {Q:VK} {σ₀:St} {H:Hp} {α β:Type}
theorem dy {F:Hp->α->V->Prop} (G:Hp->β->V->Prop) (f:α->β) (hx:H a=some (.lst xs)) (pf:Paired (F H) as xs) (hl:as.9<=1000)
  (hF:∀{H H' c x},F H c x->aH H H'->F H' c x) (hG:∀{H H' c x},G H c x->aH H H'->G H' c x)
  (hs:∀(i:Nat) c x H' NY NN,as[i]?=some c->aH H H'->F H' c x->(∀y H2,aH H' H2->G H2 (f c) y->NY y H2)->oF σ₀ g tf te x H' NY NN)
  (hd:∀ys H' p,H p=none->aH H H'->H' p=some (.lst ys)->Paired (G H') (as.map f) ys->(∃H2,H2 p=none/\Paired (G H2) (as.map f) ys)->Q (.ref p) H'):oW (OR K a) σ₀ g tf te Q H:=by
 have lx:=pf.9;refine fR (K:=K) (xs:=xs) (λi ys H'=>aH H H'/\Paired (G H') ((as.take i).map f) ys) (be (bC ())) #[aH.refl _,.nil] (λi ys H' _ #[s,_]=>bR.of (s _ _ hx)) ?_ ?_
 ·rintro i x ys H' hx' hlen ⟨s,pr⟩;obtain c|ec|hc:=b6 pf hx';refine hs i c x H' _ _ ec s (hF hc s) λy H2 s2 gy=>#[s.trans s2,?_]
  rw[take_snoc ec,cG];exact bX (Paired.imp' (λ_ _ z=>hG z s2) pr) (.cons gy .nil)
 ·rintro ys H' hy ⟨s,pr⟩ p hp;rw[aJ ()] at pr;exact hd ys _ p (s.none hp) (s.trans (aH.new hp)) aL (Paired.imp' (λ_ _ z=>hG z (aH.new hp)) pr) #[H',hp,pr]
theorem jc (G:Hp->β->V->Prop) (f:Nat->β) (hl:n<=1000) (hG:∀{H H' c x},G H c x->aH H H'->G H' c x)
  (hs:∀(i:Nat) H' NY NN,i < n->aH H H'->(∀y H2,aH H' H2->G H2 (f i) y->NY y H2)->oF σ₀ g tf te (.int i) H' NY NN)
  (hd:∀ys H' p,H p=none->aH H H'->H' p=some (.lst ys)->Paired (G H') ((List.range n).map f) ys->(∃H2,H2 p=none/\Paired (G H2) ((List.range n).map f) ys)->Q (.ref p) H'):oW (Iw 0 n) σ₀ g tf te Q H:=by
 refine qA (λi ys H'=>aH H H'/\Paired (G H') ((List.range i).map f) ys) (be (bC ())) #[aH.refl _,.nil] ?_ ?_
 ·rintro i ys H' hi hlen ⟨s,pr⟩;rw[Ai];refine hs i H' _ _ hi s λy H2 s2 gy=>#[s.trans s2,?_]
  rw[OX,cG];exact bX (Paired.imp' (λ_ _ z=>hG z s2) pr) (.cons gy .nil)
 ·rintro ys H' hy ⟨s,pr⟩ p hp;exact hd ys _ p (s.none hp) (s.trans (aH.new hp)) aL (Paired.imp' (λ_ _ z=>hG z (aH.new hp)) pr) #[H',hp,pr]
theorem yo (G:Hp->β->V->Prop) (C:β->Prop) (hB:gV H b) (hl:n<=1000) (hG:∀{H' H'' c x},G H' c x->cP b H' H''->gV H' b->G H'' c x)
  (hs:∀(i:Nat) H' NY NN,i < n->cP b H H'->gV H' b->(∀y c H2,cP b H' H2->gV H2 b->C c->G H2 c y->NY y H2)->oF σ₀ g tf te (.int i) H' NY NN)
  (hd:∀ys cs H' p,H p=none->cP b H H'->gV H' b->H' p=some (.lst ys)->cs.9=n->(∀c∈cs,C c)->Paired (G H') cs ys->(∃H2,H2 p=none/\Paired (G H2) cs ys)->Q (.ref p) H'):oW (Iw 0 n) σ₀ g tf te Q H:=by
 refine qA (λi ys H'=>cP b H H'/\gV H' b/\∃cs,cs.9=i/\(∀c∈cs,C c)/\Paired (G H') cs ys) (be (bC ())) #[(aH.refl _).upto,hB,[],rfl,(λ_ z=>nomatch z),.nil] ?_ ?_
 ·rintro i ys H' hi hlen ⟨u,B,cs,lc,hc,pr⟩;rw[Ai];refine hs i H' _ _ hi u B λy c H2 u2 B2 cc gy=>#[u.trans u2,B2,cs++[c],by simp [lc],Ac hc cc,bX (Paired.imp' (λ_ _ z=>hG z u2 B) pr) (.cons gy .nil)]
 ·rintro ys H' hy ⟨u,B,cs,lc,hc,pr⟩ p hp;have s:aH H' (upd H' p (.lst ys)):=aH.new hp;exact hd ys cs _ p (u.none B hp) (u.same s) (B.same s) aL lc hc (Paired.imp' (λ_ _ z=>hG z s.upto B) pr) #[H',hp,pr]
end
section
variable {X:Cx}
theorem d9 {g:TG} {tb:TS} {D:Ends} (Pv:Nat->St->Hp->Prop) (h0:Pv 0 σ H)
  (hs:∀(i:Nat) σ H,i < n->Pv i σ H->g (.int i) σ H λσ2 H2=>tb { D with nx:=Pv (i+1),ct:=Pv (i+1),bk:=D.nx } σ2 H2) (hd:∀σ H,Pv n σ H->D.nx σ H) :
  ∃W:Nat->Nat->St->Hp->Prop,(∃m,W 0 m σ H)/\∀i m σ H,W i m σ H →
   ((Iw 0 n).stop i H/\D.nx σ H)\/((Iw 0 n).go i H/\∃N:St->Hp->Prop,(∀σ' H',N σ' H'->∃m',m' < m/\W (i+1) m' σ' H')/\∀x H',(Iw 0 n).yld i H x H'->g x σ H' λσ2 H2=>tb { D with nx:=N,ct:=N,bk:=D.nx } σ2 H2) :=
 Dw (lo:=0) Pv h0 (λi σ H hi p=>by rw[Ai];exact hs i σ H hi p) hd
theorem lZ:nB X (.type "int") (λxs H Q=>∃b:Bool,xs=[.bl b]/\Q (.int (if b=true then 1 else 0)) H):=by
 intro pins s σ H xs us Q I r h;obtain b|rfl|q:=h;obtain u|rfl|ru:=vals1 r;cases ru;exact call_int_bool #[.int _,H,I.tok _,#[_,rfl],q]
theorem CK (K:FG9) (hK:X.K=K):nB X (.builtin "len") (λxs H Q=>∃p ys,xs=[.ref p]/\(bR K H p ys\/jB K H p ys)/\Q (.int ys.9) H):=by subst hK;exact bf
theorem Kg {st:Stmt}:PS X st (λ_ _ _=>False):=λ_ _ _ _ _ _ h=>h.elim
end
theorem Jp {t b:Int} (hb:0 < b) (h1:t.natAbs<=W) (h2:b.natAbs<=W):∃q:Rat,(lo t b,hi t b)=nm q/\Dr W q/\q*(b:Rat)=(t:Rat):=by
 have hb':(b:Rat)≠0:=λz=>by have:=zI.mp z;lia
 have e:(t:Rat) / (b:Rat)*(b:Rat)=t:=uI hb';have h:=mU hb e;refine #[_,h,#[?_,?_],e]
 ·have:=congrArg Prod.fst h;have z:=lo_le (t:=t) (b:=b) ();show ((nm ((t:Rat) / (b:Rat))).1).natAbs<=W
  rw[<- this];exact ag z h1
 ·have:=congrArg Prod.snd h;have z:=Rf (t:=t) (b:=b) ();have hd:(((t:Rat) / (b:Rat)).den:Int)=hi t b:=this.symm;have hp:=E3 (t:=t) hb
  lia
theorem LX {K:FG9} (h:Paired (bQ K H) qs xs) (hj:j < qs.9):∃v,Ir xs (j:Int)=some v/\bQ K H (qs.getD j 0) v:=by
 have hl:=h.9;refine #[xs[j]'(),iH (by simp),?_];have:=ky h (i:=j) hj ();rwa [ae,af hj]
theorem Dx {xs ys:List Rat} (h1:i < xs.9) (h2:i < ys.9):cm (xs.take (i+1)) (ys.take (i+1))=cm (xs.take i) (ys.take i)+xs.getD i 0*ys.getD i 0:=by
 have e1:xs[i]?=some (xs.getD i 0):=by rw[ae,af h1];rfl
 have e2:ys[i]?=some (ys.getD i 0):=by rw[ae,af h2];rfl
 unfold cm;rw[take_snoc e1,take_snoc e2,FF (by simp;lia),List.sum_append];simp [tO]
theorem getD_mem {xs:List Rat} (h:i < xs.9):xs.getD i 0∈xs:=by
 rw[ae,af h];exact aK h
theorem CV {xs ys:List Rat} (h:ys.9=xs.9):List.zipWith (λx y=>x+y) xs ys=(List.range xs.9).map λi=>xs.getD i 0+ys.getD i 0:=by
 apply iK;intro i;rw[bN,aF];by_cases hi:i < xs.9
 ·rw[cJ hi,af hi,af (show i < ys.9 by lia)];simp [ae,af hi,af (show i < ys.9 by lia)]
 ·rw[a8 (show (List.range xs.9).9<=i by simp;lia),a8 (show xs.9<=i by lia)];rfl
theorem dB.updL {K:FG9} (h:dB K H0 H qs x) (hl:H l=some (.lst ys)) (nl:H0 l≠none):dB K H0 (upd H l o) qs x:=by obtain q|a|b|c:=h;exact #[q,a,b,c.updL hl λz=>nl (by rw[<- z];exact b)]
theorem gV.at (B:gV H b):H b≠none:=by obtain _|_|_|_|_|e|_:=B;rw[e];simp
theorem Inner.at (B:gV H b) (i:Inner H b q):H q≠none:=by
 obtain q'|i'|xs|e:=B.inner;rw[<- Inner.inj i' i,e];simp
theorem kz {F:α->β->Prop} {l1:List α} {l2:List β} (h:Paired F l1 l2) (hi:i < l1.9):∃x y,l1[i]?=some x/\l2[i]?=some y/\x∈l1/\F x y:=by
 have hl:=h.9;exact #[l1[i],l2[i]'(),by simp,by simp,aK _,ky h hi ()]
section
variable {α β:Type} [DecidableEq α] [DecidableEq β] (k1:Kind α) (k2:Kind β)
theorem xv {X:Cx} {pins:List (Addr×Obj)} {σ:St} {H:Hp} {s:Shared} {A:Around} (I:Inv X pins σ H s) (h1:A.units+k1.d < cLine) (h2:A.units+k2.d < cLine) {x y z w:V} {us ws:List Value} {a b:α×β}
  (rx:cV [x,y] us) (ry:cV [z,w] ws) (a1:k1.R X.K H x a.1) (a2:k2.R X.K H y a.2) (b1:k1.R X.K H z b.1) (b2:k2.R X.K H w b.2) :
  ∀j (h1:j < us.5.7) (h2:j < ws.5.7),SeqAt.EqAt A s us.5[j] ws.5[j] (if j=0 then decide (a.1=b.1) else decide (a.2=b.2)):=λj l1 l2=>by
 obtain u1|u2|rfl|r1|r2:=vals2 rx;obtain w1|w2|rfl|q1|q2:=vals2 ry;have hj:j < 2:=by simpa using l1
 rcases cR j 1 with h | h
 ·have e:j=0:=()
  subst e;exact k1.eq (A:=A) I r1 q1 a1 b1 h1
 ·have e:j=1:=()
  subst e;exact k2.eq (A:=A) I r2 q2 a2 b2 h2
theorem D6 {a b:α×β}:(List.range 2).all (λj=>if j=0 then decide (a.1=b.1) else decide (a.2=b.2))=decide (a=b):=by
 have e:List.range 2=[0,1]:=rfl;rw[e];simp only[Iq,List.all_nil,Bool.and_true,if_true,Nat.one_ne_zero,if_false];rw[<- Ck];exact decide_eq_decide.mpr #[λ#[h1,h2]=>Prod.ext h1 h2,λh=>by rw[h];exact #[rfl,rfl]]
def Uu:Kind (α×β) where
 R:=λK H x a=>∃p u v,x=.ref p/\jB K H p [u,v]/\k1.R K H u a.1/\k2.R K H v a.2
 d:=max k1.d k2.d+1
 inj:=λ{X pins σ H s x a b} I h1 h2=>by
  obtain p|u|v|rfl|hp|a1|a2:=h1;obtain q|u'|v'|e|hq|b1|b2:=h2;cases e;have e:=I.tuple_inj hp hq;cases e;exact Prod.ext (k1.inj I a1 b1) (k2.inj I a2 b2)
 rc:=λ{X pins σ H s x y v u a b A} I rx ry h1 h2 hA=>by
  obtain p|x1|x2|rfl|hp|a1|a2:=h1;obtain q|y1|y2|rfl|hq|b1|b2:=h2;cases rx;cases ry;obtain us|r1|t1|_:=I.tuple hp;obtain ws|r2|t2|_:=I.tuple hq;have l1:=r1.9;have l2:=r2.9;have z:=SeqAt.RcAt.tuples (A:=A) (e:=λj=>if j=0 then decide (a.1=b.1) else decide (a.2=b.2)) (show s.heap.IsTuple p us.toArray from t1) (show s.heap.IsTuple q ws.toArray from t2) () (xv k1 k2 (A:=A.in1) I (by show A.units+1+k1.d < cLine;lia) (by show A.units+1+k2.d < cLine;lia) r1 r2 a1 a2 b1 b2);have e1:us.5.7=2:=by rw[aI,<- l1];rfl
  have e2:ws.5.7=2:=by rw[aI,<- l2];rfl
  rw[e1,e2,fN,D6] at z;simpa using z
 ne:=λ{X pins σ H s x y v u a b A} I rx ry h1 h2 hA=>by
  obtain p|x1|x2|rfl|hp|a1|a2:=h1;obtain q|y1|y2|rfl|hq|b1|b2:=h2;cases rx;cases ry;obtain us|r1|t1|_:=I.tuple hp;obtain ws|r2|t2|_:=I.tuple hq;have l1:=r1.9;have l2:=r2.9;have z:=SeqAt.RcNeAt.tuples (A:=A) (e:=λj=>if j=0 then decide (a.1=b.1) else decide (a.2=b.2)) (show s.heap.IsTuple p us.toArray from t1) (show s.heap.IsTuple q ws.toArray from t2) () (xv k1 k2 (A:=A.in1) I (by show A.units+1+k1.d < cLine;lia) (by show A.units+1+k2.d < cLine;lia) r1 r2 a1 a2 b1 b2);have e1:us.5.7=2:=by rw[aI,<- l1];rfl
  have e2:ws.5.7=2:=by rw[aI,<- l2];rfl
  rw[e1,e2,fN,D6] at z;simpa using z
 eq:=λ{X pins σ H s x y v u a b A} I rx ry h1 h2 hA=>by
  obtain p|x1|x2|rfl|hp|a1|a2:=h1;obtain q|y1|y2|rfl|hq|b1|b2:=h2;cases rx;cases ry;by_cases e:p=q
  ·subst e;have e:=I.tuple_inj hp hq;cases e;have e2:a=b:=Prod.ext (k1.inj I a1 b1) (k2.inj I a2 b2);rw[decide_eq_true e2];exact SeqAt.EqAt.same _
  ·obtain us|r1|t1|_:=I.tuple hp;obtain ws|r2|t2|_:=I.tuple hq;have l1:=r1.9;have l2:=r2.9;have z:=SeqAt.RcAt.tuples (A:=A) (e:=λj=>if j=0 then decide (a.1=b.1) else decide (a.2=b.2)) (show s.heap.IsTuple p us.toArray from t1) (show s.heap.IsTuple q ws.toArray from t2) () (xv k1 k2 (A:=A.in1) I (by show A.units+1+k1.d < cLine;lia) (by show A.units+1+k2.d < cLine;lia) r1 r2 a1 a2 b1 b2);have e1:us.5.7=2:=by rw[aI,<- l1];rfl
   have e2:ws.5.7=2:=by rw[aI,<- l2];rfl
   rw[e1,e2,fN,D6] at z;exact .of_refs e (by simpa using z)
end
theorem KU (h1:-(2^64) < i) (h2:i < 2^64):gJ i j:=.inl (.inl #[h1,h2])
theorem Qx (h1:-(2^64) < j) (h2:j < 2^64):gJ i j:=.inl (.inr #[h1,h2])
def Tw (K : FG9) (l : Addr) : It :=
  #[λi H => ∃ xs x, bR K H l xs /\ xs[i]? = some x,
   λi H v H' => ∃ p x, v = .ref p /\ H p = none /\ H' = upd H p (.tup [.int i, x]) /\ ∀ xs, bR K H l xs → xs[i]? = some x,
   λi H => ∃ xs, bR K H l xs /\ xs.9 ≤ i]
def tnE (e it l:Addr) (i:Nat) (h:Heap):Prop:=(∃old,IsEnum h e it i old)/\h.IsListIter it l i
theorem Lf {P:Program} {w:World} {K:FG9} {elts:List Expr} {kk:Nat} {tpos:Pos} (e it l:Addr) (hei:e≠it):Turn P w K (.Tuple elts kk tpos) (Tw K l) [e,it] e (tnE e it l) where
 mem:=by simp
 obj:=λi h st b hb=>by
  obtain ⟨old,he⟩|⟨o1,g1,c1,d1⟩:=st;simp only[aG,aP,or_false] at hb;rcases hb with rfl | rfl
  ·exact #[_,he,λv q=>nomatch q]
  ·exact #[o1,g1,λv q=>by rw[d1] at q;cases q]
 keep:=λi h h' st k=>by
  obtain ⟨old,he⟩|h1:=st;exact #[#[old,k e (by simp) _ he],h1.at λo q=>k it (by simp) o q]
 item:=by
  intro X hP hw hK hc i pins s σ H E I hf st hg;subst hP hw hK;obtain ⟨old,he⟩|h1:=st;obtain xs|x|qx|ex:=hg;obtain us|rx|px|_:=I.list qx;obtain u|eu|ru:=rx.get ex;refine wpAny_pyNext_enum_item he h1 px.isList (x:=u) (by simpa using eu) hei λh' a1 a2 a3 a4 hk=>?_
  refine #[_,rfl,wpAny_letOwnedTupleGo_enum a1 λh'' he'' hs=>?_];have hT0:H s.6=none:=I.hok.fresh (ao _);have ene:s.6≠e:=La (Heap.lt_size he)
  have up:∀b o,b∉[e,it]->s.heap.get? b=some o->h''.get? b=some o:=λb o hb q=>by
   simp only[aG,aP,or_false,not_or] at hb;exact (hs.2 b hb.1).trans (hk b o hb.1 hb.2 q)
  have tup:h''.get? s.6=some { cls:=.type "tuple",data:=.seq [.int i s.toks,u].toArray }:=(hs.2 _ ene).trans a3;have I1:Inv X pins σ H { s with heap:=h'',toks:=s.toks+1 }:=I.moved (g':=s.gens) (d':=s.drawn) (t':=s.toks+1) (ch:=[e,it]) hf up I.bare;have fT:kH X pins H s.6:=I.fpOk (ao _) hT0;have I2:=I1.track (o:=.tup [.int i,x]) fT #[jK rfl,[.int i s.toks,u],.cons #[_,rfl] (.cons ru .nil),#[_,tup,rfl,_,rfl]];refine #[.ref s.6,_,I2,rfl,#[_,x,rfl,hT0,rfl,λxs' q=>by rw[I.list_inj q qx];exact ex],?_,λb hb=>?_]
  ·exact #[#[_,by simpa using he''],a2.at λo q=>(hs.2 _ hei.symm).trans q]
  ·rw[bM]
   ·exact (hf b hb).1
   ·obtain o1|g1|_:=h1;simp only[aG,aP,or_false] at hb;rcases hb with rfl | rfl
    ·exact ene.symm
    ·exact cg (Heap.lt_size g1)
 done:=by
  intro X hP hw hK hc i pins s σ H E I hf st hg;subst hP hw hK;obtain ⟨old,he⟩|h1:=st;obtain xs|qx|hend:=hg;obtain us|rx|px|_:=I.list qx;have lx:=rx.9;refine wpAny_pyNext_enum_end (I.ok.hd hc) he h1 px.isList (by simp;lia) λh' hk=>#[rfl,?_]
  exact I.moved (g':=s.gens) (d':=s.drawn) (t':=s.toks) (ch:=[e,it]) hf (λb o hb q=>hk b o (λz=>hb (by simp [z])) q) I.bare
 self:=λ_ _ _ _ _ st h=>let ⟨⟨_,he⟩,_⟩:=st;wpAny_pyIter_enum he h
section
variable {X:Cx}
def Rb (K:FG9) (ta:TA):TI:=λσ H R=>ta σ H λvs H1=>∃l,vs=[.ref l]/\(∃xs,bR K H1 l xs)/\R (Tw K l) H1
theorem Qc {a:Expr} {ta:TA} {p pos tpos:Pos} {elts:List Expr} {kk:Nat} (hg:Gl X "enumerate") (hm:X.mg "enumerate"=none) (ha:PA X [a] ta) (hs:starEach [a] X.env=[(false,eval a X.env)]:=by rfl) :
  PI X (.Tuple elts kk tpos) (.Call (.Name "enumerate" p) [a] [] pos) (Rb X.K ta):=by
 intro pins s σ H R I h;refine Call_ (j7 I hg hm boot_enumerate (PyProof.Rows.callWith_type1 (gL (ha pos pins s σ H _ I h) λus s1 #[vs,H1,I1,r1,q1]=>?_) (by rw[hs];rfl) rfl));obtain l|e|⟨xs,qx⟩|q:=q1;subst e;obtain u|rfl|ru:=vals1 r1;cases ru;obtain us|rx|px|_:=I1.list qx;refine call_enumerate_list px.isList λh' a1 a2 a3 hk=>wpAny_pyIter_enum a1 ?_
 have I2:Inv X pins σ H1 { s1 with heap:=h' }:=I1.kept (t':=s1.toks) hk;refine #[_,[s1.6+1,s1.6],_,_,H1,rfl,I2,Lf (s1.6+1) s1.heap.objs.size l (Nat.succ_ne_self _),#[#[_,a1],a2],λb hb=>?_,q]
 have hb':s1.6<=b:=by
  simp only[aG,aP,or_false] at hb;rcases hb with rfl | rfl <;> first | exact qT _ | exact ao _
 exact I1.fpOk hb' (I1.hok.fresh hb')
end
theorem Ng {K:FG9} (h:ta σ H λvs H1=>∃l,vs=[.ref l]/\(∃xs,bR K H1 l xs)/\R (Tw K l) H1):Rb K ta σ H R:=h
theorem Oe {K:FG9} {g:TG} {tb:TS} {D:Ends} (Pv:Nat->St->Hp->Prop) (h0:Pv 0 σ H) (hl:∀i σ H,i<=xs.9->Pv i σ H->bR K H l xs)
  (hs:∀i x σ H p,xs[i]?=some x->Pv i σ H->H p=none->g (.ref p) σ (upd H p (.tup [.int i,x])) λσ2 H2=>tb { D with nx:=Pv (i+1),ct:=Pv (i+1),bk:=D.nx } σ2 H2) (hd:∀σ H,Pv xs.9 σ H->D.nx σ H) :
  ∃W:Nat->Nat->St->Hp->Prop,(∃m,W 0 m σ H)/\∀i m σ H,W i m σ H →
   ((Tw K l).stop i H/\D.nx σ H)\/((Tw K l).go i H/\∃N:St->Hp->Prop,(∀σ' H',N σ' H'->∃m',m' < m/\W (i+1) m' σ' H')/\∀x H',(Tw K l).yld i H x H'->g x σ H' λσ2 H2=>tb { D with nx:=N,ct:=N,bk:=D.nx } σ2 H2):=by
 refine #[λi m σ H=>m=xs.9 - i/\i<=xs.9/\Pv i σ H,#[xs.9,by simp,bg _,h0],?_];rintro i m σ H ⟨rfl,hi,p⟩;have q1:=hl i σ H hi p;by_cases hlt:i < xs.9
 ·refine .inr #[#[xs,xs[i],q1,by simp [hlt]],Pv (i+1),λσ' H' p'=>#[xs.9 - (i+1),(),rfl,hlt,p'],λx H' y=>?_];obtain r|x'|rfl|hr|rfl|e1:=y;exact hs i x' σ _ r (e1 xs q1) p hr
 ·have e:i=xs.9:=()
  subst e;exact .inl #[#[xs,q1,ao _],hd σ H p]
section
variable {X:Cx}
theorem Kj (K:FG9) {e:Expr} {f:Str} {pos:Pos} {ta:TE} (he:PE X e ta) (hb:attributeBase e f X.env (eval e X.env)=eval e X.env) (hK:X.K=K:=by rfl):PE X (.Attribute e f pos) (RM K ta f):=by subst hK;exact jk he hb
end
theorem So {K:FG9} (h:ta σ H λx H1=>∃a C dx fs v,x=.ref a/\H1 a=some (.ins C dx fs)/\Mp K C/\kd K C f/\fs.lookup f=some v/\Q v H1):RM K ta f σ H Q:=h
theorem Px {K:FG9} (h:tv σ H λy H1=>ta σ H1 λx H2=>∃a C dx fs,x=.ref a/\H2 a=some (.ins C dx fs)/\Mp K C/\kd K C f/\fs.9 < 1000 /\
 D.nx σ (upd H2 a (.ins C dx (cA f y fs)))):T8 K ta tv f D σ H:=h
theorem PC (h:ta σ H λx H1=>∃a dx fs,x=.ref a/\H1 a=some (.ins C dx fs)/\fs.lookup m=none /\
 t σ H1 λvs H2=>sp (x :: vs) H2 Q E):QT C m sp [] E ta t σ H Q:=by
 have e:(λ(x:V) H1=>∃a dx fs,x=.ref a/\H1 a=some (.ins C dx fs)/\fs.lookup m=none/\t σ H1 λvs H2=>sp (x :: (vs++[])) H2 Q E)=λx H1=>∃a dx fs,x=.ref a/\H1 a=some (.ins C dx fs)/\fs.lookup m=none/\t σ H1 λvs H2=>sp (x :: vs) H2 Q E:=by
  funext x H1;simp only[lU]
 show ta σ H (λ(x:V) H1=>∃a dx fs,x=.ref a/\H1 a=some (.ins C dx fs)/\fs.lookup m=none/\t σ H1 λvs H2=>sp (x :: (vs++[])) H2 Q E)
 rw[e];exact h
theorem PD (h:t σ H λvs H1=>∀x dx,H1 x=none->H1 dx=none->dx≠x →
 sp (.ref x :: vs) (upd (upd H1 dx (.own x)) x (.ins C dx [])) (λv H2=>v=.non/\Q (.ref x) H2) E):QU C sp [] E t σ H Q:=by
 have e:(λvs (H1:Hp)=>∀x dx,H1 x=none->H1 dx=none->dx≠x->sp (.ref x :: (vs++[])) (upd (upd H1 dx (.own x)) x (.ins C dx [])) (λv H2=>v=.non/\Q (.ref x) H2) E)=λvs H1=>∀x dx,H1 x=none->H1 dx=none->dx≠x->sp (.ref x :: vs) (upd (upd H1 dx (.own x)) x (.ins C dx [])) (λv H2=>v=.non/\Q (.ref x) H2) E:=by
  funext vs H1;simp only[lU]
 show t σ H (λvs (H1:Hp)=>∀x dx,H1 x=none->H1 dx=none->dx≠x->sp (.ref x :: (vs++[])) (upd (upd H1 dx (.own x)) x (.ins C dx [])) (λv H2=>v=.non/\Q (.ref x) H2) E)
 rw[e];exact h
def FD (x:Addr) (H H':Hp):Prop:=∀b o,H b=some o->b≠x->H' b=some o
theorem FD.upd:FD x H (L2.upd H x o):=λb u h n=>by rw[bM n];exact h
def uH (H:Hp) (x:Addr):Prop:=∃C dx fs,H x=some (.ins C dx fs)
section
variable {K:FG9} {H H' H0:Hp} {q:Rat} {v:V} {x p:Addr} {qs:List Rat} {rows:LR9}
theorem bQ.exc (h:bQ K H q v) (e:FD x H H') (hx:uH H x):bQ K H' q v:=by
 obtain C|dx|fs|hx:=hx;obtain r|er|s:=h;refine #[r,er,?_];rcases s with (h | ⟨o,h⟩) | h
 ·exact .inl (.inl (e _ _ h λz=>by rw[z,hx] at h;cases h))
 ·exact .inl (.inr #[o,e _ _ h λz=>by rw[z,hx] at h;cases h])
 ·exact .inr h
theorem bV.exc (h:bV K H p qs) (e:FD x H H') (hx:uH H x):bV K H' p qs:=by
 obtain xs|g|r:=h;have hx':=hx;obtain C|dx|fs|hx:=hx;exact #[xs,e _ _ g (λz=>by rw[z,hx] at g;cases g),Paired.imp' (λ_ _ z=>z.exc e hx') r]
theorem dB.exc (h:dB K H0 H qs v) (e:FD x H H') (hx:uH H x):dB K H0 H' qs v:=by obtain q|a|b|c:=h;exact #[q,a,b,c.exc e hx]
theorem bL.exc (h:bL K H0 H p rows) (e:FD x H H') (hx:uH H x):bL K H0 H' p rows:=by
 obtain xs|g|r|n:=h;have hx':=hx;obtain C|dx|fs|hx:=hx;exact #[xs,e _ _ g (λz=>by rw[z,hx] at g;cases g),Paired.imp' (λ_ _ z=>z.exc e hx') r,n]
end
def qL (a b c:Addr) (n i o:Nat):List (Str×V):=cA "outs" (.int o) (cA "look" (.ref c) (cA "ins" (.int i) (cA "put" (.ref b) (cA "states" (.int n) (cA "move" (.ref a) [])))))
section
variable {a b c:Addr} {n i o:Nat}
theorem O9:(qL a b c n i o).lookup ("ins":Str)=some (.int i):=by
 unfold qL;rw[bP,if_neg (by decide +kernel),bP,if_neg (by decide +kernel),bP,if_pos rfl]
theorem D9:(qL a b c n i o).lookup ("put":Str)=some (.ref b):=by
 unfold qL;rw[bP,if_neg (by decide +kernel),bP,if_neg (by decide +kernel),bP,if_neg (by decide +kernel),bP,if_pos rfl]
theorem ma:(qL a b c n i o).lookup ("states":Str)=some (.int n):=by
 unfold qL;rw[bP,if_neg (by decide +kernel),bP,if_neg (by decide +kernel),bP,if_neg (by decide +kernel),bP,if_neg (by decide +kernel),bP,if_pos rfl]
theorem FP:(qL a b c n i o).lookup ("move":Str)=some (.ref a):=by
 unfold qL;rw[bP,if_neg (by decide +kernel),bP,if_neg (by decide +kernel),bP,if_neg (by decide +kernel),bP,if_neg (by decide +kernel),bP,if_neg (by decide +kernel),bP,if_pos rfl]
theorem RN {m:Str} (h1:¬m="outs") (h2:¬m="look") (h3:¬m="ins") (h4:¬m="put") (h5:¬m="states") (h6:¬m="move"):(qL a b c n i o).lookup m=none:=by
 unfold qL;rw[bP,if_neg h1,bP,if_neg h2,bP,if_neg h3,bP,if_neg h4,bP,if_neg h5,bP,if_neg h6];rfl
theorem Lh:(qL a b c n i o).lookup ("moved":Str)=none:=RN (by decide +kernel) (by decide +kernel) (by decide +kernel) (by decide +kernel) (by decide +kernel) (by decide +kernel)
end
theorem ff {k:Str} {v:V}:∀{l:List (Str×V)},(cA k v l).9<=l.9+1
 | []=>ao _
 | (x,y) :: r=>by
  unfold cA
  split
  ·simp
  ·have:=ff (k:=k) (v:=v) (l:=r);simp only[bO]
   lia
structure eQ (mv pt lk:LR9):Prop where
 n8:mv.9<=8
 i4:pt.9<=4
 o4:lk.9<=4
 mw:∀xs∈mv,xs.9=mv.9
 pw:∀xs∈pt,xs.9=mv.9
 lw:∀xs∈lk,xs.9=mv.9
def DZ (mv pt lk:LR9):Prop:=∃M V:Nat,0 < M/\M<=2^800/\V<=2^400/\GF M V mv/\GF M V pt/\GF M V lk
def kg (K:FG9) (H0 H:Hp) (C p:Addr) (mv pt lk:LR9):Prop:=∃dx a b c,H p=some (.ins C dx (qL a b c mv.9 pt.9 lk.9))/\H0 a=none/\H0 b=none/\H0 c=none/\bL K H0 H a mv/\bL K H0 H b pt/\bL K H0 H c lk
section
variable {K:FG9} {H H' H0 H1:Hp} {C p b:Addr} {mv pt lk:LR9}
theorem kg.same (h:kg K H0 H C p mv pt lk) (e:aH H H'):kg K H0 H' C p mv pt lk:=by obtain dx|a|b|c|g|n1|n2|n3|g1|g2|g3:=h;exact #[dx,a,b,c,e _ _ g,n1,n2,n3,g1.same e,g2.same e,g3.same e]
theorem kg.upto (h:kg K H0 H C p mv pt lk) (u:cP b H H') (B:gV H b) (nb:H0 b≠none):kg K H0 H' C p mv pt lk:=by
 obtain dx|a|b'|c|g|n1|n2|n3|g1|g2|g3:=h;refine #[dx,a,b',c,u.other (λz=>by obtain _|_|_|_|_|e|_:=B;rw[z,e] at g;cases g) g,n1,n2,n3,g1.upto u B (λz=>nb (by rw[<- z];exact n1)) nb,g2.upto u B (λz=>nb (by rw[<- z];exact n2)) nb,g3.upto u B (λz=>nb (by rw[<- z];exact n3)) nb]
theorem kg.weak (h:kg K H0 H C p mv pt lk) (e:aH H1 H0):kg K H1 H C p mv pt lk:=by obtain dx|a|b|c|g|n1|n2|n3|g1|g2|g3:=h;exact #[dx,a,b,c,g,e.none n1,e.none n2,e.none n3,g1.weak e,g2.weak e,g3.weak e]
theorem DZ.fits (h:DZ mv pt lk) (hl:∀x∈l,(∃xs∈mv,x∈xs)\/(∃xs∈pt,x∈xs)\/(∃xs∈lk,x∈xs)\/x=0):Fits l:=by
 obtain M|V|h0|h1|h2|h3|h4|h5:=h;refine #[M,V,h0,ag h1 (au () ()),ag h2 (au () ()),λx hx=>?_];rcases hl x hx with ⟨xs,a,b⟩ | ⟨xs,a,b⟩ | ⟨xs,a,b⟩ | rfl
 ·exact h3 xs a x b
 ·exact h4 xs a x b
 ·exact h5 xs a x b
 ·exact Fr.zero
end
def Li:Sp:=λvs H Q _=>∃i:Int,vs=[.int i]/\Q (.bl true) H
def Ll (K:FG9):Sp:=λvs H Q _=>∃x n,vs=[x]/\xm K H x n/\zG n/\∀H',aH H H'->Q (.bl true) H'
inductive JY (vs:List V) (H:Hp) (Q:VK) (E9:XK):Prop
 | mk (p:Addr) (xs:List V) (a m:Int):vs=[.ref p,.int a,.int m]->H p=some (.lst xs)->(xs.9:Int)<=m->Q .non H->JY  vs H Q E9
inductive J9 (K:FG9) (vs:List V) (H:Hp) (Q:VK) (E9:XK):Prop
 | mk (p:Addr) (H0:Hp) (rows:LR9) (w:Nat):vs=[.ref p,.int w]->bL K H0 H p rows->rows.9<=1000->w<=1000->((∀xs∈rows,xs.9=w/\∀x∈xs,zG (nm x)))->(∀r H',H r=none->aH H H'->bL K H H' r rows->Q (.ref r) H')->J9 K vs H Q E9
def Tx (rows:LR9):Prop:=∀xs∈rows,∀x∈xs,zG (nm x)
inductive J5 (K:FG9) (C:Addr) (vs:List V) (H:Hp) (Q:VK) (E9:XK):Prop
 | mk (x dx p q r:Addr) (Hb H0 H1 H2:Hp) (mv pt lk:LR9):vs=[.ref x,.ref p,.ref q,.ref r]->Hb x=none->Hb dx=none->dx≠x->H=upd (upd Hb dx (.own x)) x (.ins C dx [])->bL K H0 Hb p mv->bL K H1 Hb q pt->bL K H2 Hb r lk->eQ mv pt lk->Tx mv->Tx pt->Tx lk->(∀H',aH Hb H'->kg K Hb H' C x mv pt lk->Q .non H')->J5 K C vs H Q E9
def iC (mv pt:LR9) (st pu:List Rat):List Rat:=List.zipWith (λline col=>cm (line++col) (st++pu)) mv (cp pt mv.9)
theorem DZ.ok (h:DZ mv pt lk):Tx mv/\Tx pt/\Tx lk :=
 #[λxs hx x hx'=>(h.fits (l:=xs) λy hy=>.inl #[xs,hx,hy]).ok hx',λxs hx x hx'=>(h.fits (l:=xs) λy hy=>.inr (.inl #[xs,hx,hy])).ok hx',λxs hx x hx'=>(h.fits (l:=xs) λy hy=>.inr (.inr (.inl #[xs,hx,hy]))).ok hx']
def gK (K:FG9) (A:Addr->Prop) (H:Hp) (n:Nat) (C:Rat->Prop) (x:V):Prop:=∃q qs,x=V.ref q/\A q/\bV K H q qs/\qs.9=n/\∀y∈qs,C y
section
variable {K:FG9} {A A':Addr->Prop} {H H' H0:Hp} {n:Nat} {C C':Rat->Prop} {x v:V} {q b l p:Addr} {xs zs:List V} {y:Rat} {o:HO}
theorem gK.same (h:gK K A H n C x) (e:aH H H'):gK K A H' n C x:=by obtain q|qs|a|c|r|z:=h;exact #[q,qs,a,c,r.same e,z]
theorem gK.upto (h:gK K A H n C x) (u:cP b H H') (B:gV H b) (nb:¬A b):gK K A H' n C x:=by obtain q|qs|a|c|r|z:=h;exact #[q,qs,a,c,r.upto u B (λe=>nb (by rw[<- e];exact c)),z]
theorem gK.other (h:gK K A H n C x) (hl:H l=some (.lst zs)) (nl:¬A l):gK K A (upd H l o) n C x:=by obtain q|qs|a|c|r|z:=h;exact #[q,qs,a,c,r.updL hl (λe=>nl (by rw[<- e];exact c)),z]
theorem gK.weak (h:gK K A H n C x) (w:∀q,A q->A' q) (wc:∀y,C y->C' y):gK K A' H n C' x:=by obtain q|qs|a|c|r|l|z:=h;exact #[q,qs,a,w q c,r,l,λy hy=>wc y (z y hy)]
theorem uZ {α β:Type} {F:α->β->Prop} {a:α} {b:β} (h:F a b):∀{l1:List α} {l2:List β} (j:Nat),Paired F l1 l2->Paired F (l1.set j a) (l2.set j b)
 | _,_,_,.nil=>.nil
 | _,_,0,.cons _ t=>.cons h t
 | _,_,j+1,.cons r t=>.cons r (uZ h j t)
theorem gK.put (h:gK K A H n C x) (hq:H q=some (.lst zs)) (hv:bQ K H y v) (hc:C y) (j:Nat):gK K A (upd H q (.lst (zs.set j v))) n C x:=by
 obtain q1|qs|rfl|a|⟨zs1,g1,pr⟩|l1|c1:=h;by_cases e:q1=q
 ·subst e;rw[hq] at g1;cases g1;refine #[q1,qs.set j y,rfl,a,#[_,aL,uZ (hv.updL hq) j (Paired.imp' (λ_ _ z=>z.updL hq) pr)],by rw[d6];exact l1,λz hz=>?_];rcases cv hz with hz | rfl
  ·exact c1 z hz
  ·exact hc
 ·exact #[q1,qs,rfl,a,#[zs1,by rw[bM e];exact g1,Paired.imp' (λ_ _ z=>z.updL hq) pr],l1,c1]
theorem gK.at (h:gK K A H n C x):∃q zs qs,x=V.ref q/\A q/\H q=some (.lst zs)/\zs.9=n/\Paired (bQ K H) qs zs/\qs.9=n/\∀y∈qs,C y:=by obtain q|qs|a|c|⟨zs,g,pr⟩|l|z:=h;exact #[q,zs,qs,a,c,g,by rw[<- pr.9];exact l,pr,l,z]
end
theorem sP {i:Int} (h:i.natAbs<=W) (hW:1<=W):Dr W (i:Rat):=#[h,hW]
def UR (K:FG9) (A:Addr->Prop) (H:Hp) (n:Nat) (C:Rat->Prop) (p:Addr) (m:Nat):Prop:=∃us,H p=some (.lst us)/\us.9=m/\¬A p/\∀x∈us,gK K A H n C x
structure Ib (A:Addr->Prop) (m p l b q0:Addr):Prop where
 am:¬A m
 ap:¬A p
 al:¬A l
 ab:¬A b
 aq:¬A q0
 mb:m≠b
 pb:p≠b
 lb:l≠b
 mp:m≠p
 ml:m≠l
 mq:m≠q0
theorem Kz {M:Nat} {z:Int} (h:z.natAbs<=2):Fr 1 2 (z:Rat):=Fr.int h
theorem E4 {z:Int} (hz:z.natAbs<=2) (ha:Fr M W a) (hc:Fr M W c):Fr M (3*W) (a+(z:Rat)*c):=by
 have h:=(Kz (M:=M) hz).mul hc;rw[qS] at h;exact (ha.add h).mono ()
theorem D8 {z:Int} (h:z.natAbs<=1000):iI (z:Rat):=Jx (M:=1) (V:=1000) () (dh) (ag (show 1000<=2^10 by decide) (au () ())) (Fr.int h)
theorem An {z:Int} (hz:z.natAbs<=2) (hc:Fr M W c) (h0:0 < M) (h1:M<=2^800) (hW:W<=2^140):iI ((z:Rat)*c):=by
 have h:=(Kz (M:=M) hz).mul hc;rw[qS] at h;refine Jx h0 (ag h1 (au () ())) (ag (ax 2 hW) ?_) h;rw[show 2*2^140=2^141 by rw[eP,bY]];exact au () ()
def jh (A:Addr->Prop) (b m:Addr) (H H':Hp):Prop:=∀c u,H c=some u->c≠b->¬A c->c≠m->H' c=some u
theorem jh.same (h:jh A b m H H1) (s:aH H1 H2):jh A b m H H2:=λc u e n1 n2 n3=>s _ _ (h c u e n1 n2 n3)
theorem jh.upto (h:jh A b m H H1) (s:cP b H1 H2):jh A b m H H2:=λc u e n1 n2 n3=>s.1 _ _ (h c u e n1 n2 n3) n1
theorem jh.upd (h:jh A b m H H1) (hq:A q\/q=m):jh A b m H (L2.upd H1 q o):=λc u e n1 n2 n3=>by
 rw[bM]
 ·exact h c u e n1 n2 n3
 ·rintro rfl;rcases hq with hq | hq
  ·exact n2 hq
  ·exact n3 hq
theorem jh.new (h:jh A b m H H1) (hA:∀q,H q=none->A q) (B:gV H1 b) (hm:H1 m≠none) (hr:H1 r=none):A r:=by
 by_cases z:A r
 ·exact z
 ·cases e:H r with
  | none=>exact hA r e
  | some u =>
   have:=h r u e (λy=>B.at (by rw[<- y];exact hr)) z (λy=>hm (by rw[<- y];exact hr));rw[hr] at this;cases this
structure K8 (K:FG9) (A:Addr->Prop) (n:Nat) (C:Rat->Prop) (r p b q0:Addr) (us:List V) (H0 H:Hp):Prop where
 gr:H r=some (.lst us)
 ru:∀x∈us,gK K A H n C x
 rp:gK K A H n C (.ref p)
 bag:gV H b
 inn:Inner H b q0
 up:cP b H0 H
section
variable {K:FG9} {A:Addr->Prop} {n:Nat} {C:Rat->Prop} {r p b q0:Addr} {us:List V} {H0 H H':Hp} {y:Rat} {v:V}
theorem K8.same (h:K8 K A n C r p b q0 us H0 H) (e:aH H H'):K8 K A n C r p b q0 us H0 H':=#[e _ _ h.gr,λx hx=>(h.ru x hx).same e,h.rp.same e,h.bag.same e,(e.upto (p:=b)).2 _ h.inn,h.up.same e]
theorem K8.upto (h:K8 K A n C r p b q0 us H0 H) (u:cP b H H') (B:gV H' b) (nb:¬A b) (rb:r≠b):K8 K A n C r p b q0 us H0 H':=#[u.other rb h.gr,λx hx=>(h.ru x hx).upto u h.bag nb,h.rp.upto u h.bag nb,B,u.2 _ h.inn,h.up.trans u]
theorem K8.put (h:K8 K A n C r p b q0 us H0 H) (ap:A p) (nr:¬A r) (nb:¬A b) (nq:¬A q0) (hp:H0 p=none) (hv:bQ K H y v) (hc:C y) (j:Nat):∃zs,H p=some (.lst zs)/\zs.9=n/\K8 K A n C r p b q0 us H0 (upd H p (.lst (zs.set j v))):=by
 obtain q|zs|qs|e|a|g|l|_:=h.rp.at;cases e;have ne:∀{z},¬A z->z≠p:=λh e=>h (by rw[e];exact ap)
 exact #[zs,g,l,by rw[bM (ne nr)];exact h.gr,λx hx=>(h.ru x hx).put g hv hc j,h.rp.put g hv hc j,h.bag.upd h.inn (ne nb).symm (ne nq).symm,h.inn.upd (ne nb).symm,h.up.after hp]
end
theorem AW {K:FG9} (h:∀x∈us,gK K A H n C x):∃rows:LR9,Paired (λqs x=>∃q,x=V.ref q/\A q/\bV K H q qs) rows us/\rows.9=us.9/\∀qs∈rows,qs.9=n/\∀y∈qs,C y:=by
 induction us with
 | nil=>exact #[[],.nil,rfl,λ_ z=>nomatch z]
 | cons u us ih =>
  obtain rows|pr|l|hr:=ih λx hx=>h x (.tail _ hx)
  obtain q|qs|e|a|r|l1|c:=h u (.head _);refine #[qs :: rows,.cons #[q,e,a,r] pr,by simp [l],λzs hz=>?_];rcases aG.mp hz with rfl | hz
  ·exact #[l1,c]
  ·exact hr zs hz
theorem IT {K:FG9} {rows:LR9} (pr:Paired (λqs x=>∃q,x=V.ref q/\A q/\bV K H q qs) rows us) (h:∀qs∈rows,qs.9=n/\∀y∈qs,C y):∀x∈us,gK K A H n C x:=λx hx=>by
 obtain qs|hq|q|e|a|r:=cX pr hx;exact #[q,qs,e,a,r,(h qs hq).1,(h qs hq).2]
theorem tK {n:Nat}:∀{rows:LR9},(∀xs∈rows,xs.9=n)->rows.flatten.9=rows.9*n
 | [],_=>by simp
 | xs :: rows,h=>by
  rw[dR,aw,h xs (.head _),tK λys hy=>h ys (.tail _ hy),bO,dw,nF]
theorem Pq {rows:LR9} (h:∀qs∈rows,qs.9=n/\∀y∈qs,Dr (2^c) y):∃M:Nat,0 < M/\M<=2^(c*(rows.9*n))/\∀qs∈rows,∀y∈qs,Fr M (2^c) y:=by
 have fl:rows.flatten.9=rows.9*n:=tK λys hy=>(h ys hy).1
 have hm:∀a∈rows.flatten.map (·.den),0 < a/\a<=2^c:=λa ha=>by
  obtain y|hy|rfl:=aE.mp ha;obtain qs|hq|hy:=eo.mp hy;exact #[y.den_pos,((h qs hq).2 y hy).2]
 refine #[vH (rows.flatten.map (·.den)),xW λa ha=>(hm a ha).1,?_,λqs hq y hy=>?_]
 ·have:=A0 (k:=c) (l:=rows.flatten.map (·.den)) λa ha=>(hm a ha).2
  rwa [aj,fl] at this
 ·exact (Fr.own y ((h qs hq).2 y hy).1).dvd (xX (aE.mpr #[y,eo.mpr #[qs,hq,hy],rfl]))
theorem kG {K:FG9} (h:UR K A H n C p m) (w:∀q,A q->H0 q=none):∃rows,bL K H0 H p rows/\rows.9=m/\∀qs∈rows,qs.9=n/\∀y∈qs,C y:=by
 obtain us|g|l|a|r:=h;obtain rows|pr|lr|hr:=AW r;refine #[rows,#[us,g,Paired.imp' (λ_ _ #[q,e,aq,rq]=>#[q,e,w q aq,rq]) pr,λhm=>?_],by rw[lr,l],hr];obtain q|_|e|aq|_:=r _ hm;cases e;exact a aq
theorem jh.trans (h:jh A b m H H1) (h':jh A b m H1 H2):jh A b m H H2:=λc u e n1 n2 n3=>h' c u (h c u e n1 n2 n3) n1 n2 n3
theorem M5 {K:FG9} {rows:LR9} (pr:Paired (dB K H0 H) rows us) (h:∀qs∈rows,qs.9=n/\∀y∈qs,C y) (w:∀q,V.ref q∈us->H0 q=none->H q≠none->A q):∀x∈us,gK K A H n C x:=λx hx=>by
 obtain qs|hq|q|e|a|r:=cX pr hx;subst e;exact #[q,qs,rfl,w q hx a (by obtain _|g|_:=r;rw[g];simp),r,(h qs hq).1,(h qs hq).2]
def Lj:Sp:=λvs H Q _=>∃b,vs=[.ref b]/\gV H b/\∀r (n i o w:Nat) H',H' r=some (.tup [.int n,.int i,.int o,.int w])->n<=5->i<=4->o<=4->(w=4\/w=9\/(w=1000000/\n<=2))->(n=5->i<=2/\o<=2)->gV H' b->cP b H H'->Q (.ref r) H'
def eT (K:FG9) (H0 H:Hp) (r:Addr) (mv pt lk:LR9):Prop:=∃m p l,H r=some (.tup [.ref m,.ref p,.ref l])/\H0 m=none/\H0 p=none/\H0 l=none/\bL K H0 H m mv/\bL K H0 H p pt/\bL K H0 H l lk
section
variable {K:FG9} {H H' H0 H1:Hp} {r b:Addr} {mv pt lk:LR9}
theorem eT.same (h:eT K H0 H r mv pt lk) (e:aH H H'):eT K H0 H' r mv pt lk:=by obtain m|p|l|g|n1|n2|n3|g1|g2|g3:=h;exact #[m,p,l,e _ _ g,n1,n2,n3,g1.same e,g2.same e,g3.same e]
theorem eT.upto (h:eT K H0 H r mv pt lk) (u:cP b H H') (B:gV H b) (nb:H0 b≠none):eT K H0 H' r mv pt lk:=by
 obtain m|p|l|g|n1|n2|n3|g1|g2|g3:=h;exact #[m,p,l,u.tup B g,n1,n2,n3,g1.upto u B (λz=>nb (by rw[<- z];exact n1)) nb,g2.upto u B (λz=>nb (by rw[<- z];exact n2)) nb,g3.upto u B (λz=>nb (by rw[<- z];exact n3)) nb]
theorem eT.weak (h:eT K H0 H r mv pt lk) (e:∀q,H0 q=none->H1 q=none):eT K H1 H r mv pt lk:=by
 obtain m|p|l|g|n1|n2|n3|⟨x1,y1,z1,w1⟩|⟨x2,y2,z2,w2⟩|⟨x3,y3,z3,w3⟩:=h;exact #[m,p,l,g,e _ n1,e _ n2,e _ n3,#[x1,y1,Paired.imp' (λ_ _ #[q,a,b,c]=>#[q,a,e _ b,c]) z1,w1],#[x2,y2,Paired.imp' (λ_ _ #[q,a,b,c]=>#[q,a,e _ b,c]) z2,w2],#[x3,y3,Paired.imp' (λ_ _ #[q,a,b,c]=>#[q,a,e _ b,c]) z3,w3]]
end
inductive Aq (K:FG9) (C:Addr) (vs:List V) (H:Hp) (Q:VK) (E9:XK):Prop
 | mk (r:Addr) (H0:Hp) (mv pt lk:LR9):vs=[.ref r]->eT K H0 H r mv pt lk->eQ mv pt lk->DZ mv pt lk->(∀x H',H x=none->aH H H'->kg K H H' C x mv pt lk->Q (.ref x) H')->Aq K C vs H Q E9
def nextK (mv pt:LR9) (st pu:List Rat) (k:Nat):List Rat:=List.zipWith (λline col=>cm (line++col.take k) (st++pu.take k)) mv (cp pt mv.9)
theorem jE {st pu:List Rat}:(nextK mv pt st pu k).9=mv.9:=by unfold nextK;rw[bD,cx];lia
theorem tH {st pu:List Rat} (h1:pt.9<=k) (h2:pu.9<=k):nextK mv pt st pu k=iC mv pt st pu:=by
 unfold nextK iC;apply iK;intro i;rw[bN,bN];cases e1:mv[i]? with
 | none=>rfl
 | some line =>
  cases e2:(cp pt mv.9)[i]? with
  | none=>rfl
  | some col =>
   have:=gO col (av e2);show some _=some _
   rw[aJ (),aJ h2]
theorem JQ (h:i < w):(cp rows w)[i]?=some (rows.map λxs=>xs.getD i 0):=by
 unfold cp;rw[aF,cJ h];rfl
theorem Ji {st pu:List Rat}:nextK mv pt st pu 0=mv.map λxs=>cm xs st:=by
 unfold nextK;apply iK;intro i;rw[bN,aF];by_cases hi:i < mv.9
 ·rw[JQ hi,af hi];simp
 ·rw[a8 ()];rfl
theorem Bj {st pu:List Rat} (hi:i < mv.9):(nextK mv pt st pu k).getD i 0=cm (mv[i]++(pt.map λxs=>xs.getD i 0).take k) (st++pu.take k):=by
 rw[ae];unfold nextK;rw[bN,af hi,JQ hi];rfl
theorem sS (h:as.9=xs.9):cm (as++bs) (xs++ys)=cm as xs+cm bs ys:=by
 unfold cm;rw[FF h,List.sum_append]
theorem Jj {st pu:List Rat} (hm:∀xs∈mv,xs.9=st.9) (h1:k < pt.9) (h2:k < pu.9) (hw:(pt[k]).9=mv.9) :
  List.zipWith (λx y=>x+y) (nextK mv pt st pu k) ((pt[k]).map λy=>pu[k]*y)=nextK mv pt st pu (k+1):=by
 have l1:((pt[k]).map λy=>pu[k]*y).9=mv.9:=by rw[aj,hw]
 rw[CV (by rw[l1,jE])];apply iK;intro i;rw[aF,jE];by_cases hi:i < mv.9
 ·have e0:(nextK mv pt st pu (k+1))[i]?=some ((nextK mv pt st pu (k+1)).getD i 0):=by
   rw[ae,af (by rw[jE];exact hi)];rfl
  rw[cJ hi,e0,Bj hi];have ll:=hm mv[i] (aK hi);have ec:(pt.map λxs=>xs.getD i 0)[k]?=some ((pt[k]).getD i 0):=by rw[aF,af h1];rfl
  have ep:pu[k]?=some pu[k]:=af h2
  have e3:((pt[k]).map λy=>pu[k]*y).getD i 0=pu[k]*(pt[k]).getD i 0:=by
   rw[getD_map (by rw[hw];exact hi),ae,af (by rw[hw];exact hi)];rfl
  show some ((nextK mv pt st pu k).getD i 0+((pt[k]).map λy=>pu[k]*y).getD i 0)=some _
  rw[Bj hi,e3,take_snoc ec,take_snoc ep,sS ll,sS ll,sS (by rw[cN,cN,aj];lia)];have:cm [(pt[k]).getD i 0] [pu[k]]=(pt[k]).getD i 0*pu[k]:=by simp [cm,tO]
  rw[this];congr 1;grind
 ·rw[a8 (by simpa using hi),a8 (by rw[jE];lia)];rfl
theorem kg.weakN {K:FG9} (h:kg K H0 H C p mv pt lk) (e:∀q,H0 q=none->H1 q=none):kg K H1 H C p mv pt lk:=by
 obtain dx|a|b|c|g|n1|n2|n3|⟨x1,y1,z1,w1⟩|⟨x2,y2,z2,w2⟩|⟨x3,y3,z3,w3⟩:=h;exact #[dx,a,b,c,g,e _ n1,e _ n2,e _ n3,#[x1,y1,Paired.imp' (λ_ _ #[q,a,b,c]=>#[q,a,e _ b,c]) z1,w1],#[x2,y2,Paired.imp' (λ_ _ #[q,a,b,c]=>#[q,a,e _ b,c]) z2,w2],#[x3,y3,Paired.imp' (λ_ _ #[q,a,b,c]=>#[q,a,e _ b,c]) z3,w3]]
theorem LQ {st pu:List Rat}:(iC mv pt st pu).9=mv.9:=by unfold iC;rw[bD,cx];lia
def oV (k j:Nat) (l:List Rat):Prop:=∃M V:Nat,0 < M/\M<=2^k/\V<=2^j/\∀x∈l,Fr M V x
theorem Ky {M V:Nat} (h0:0 < M) (h1:M<=2^2000) (h2:V<=2^1950) (h:Fr M V x):iI x:=by
 obtain a|b:=h.sz h0 h1 h2;exact #[a.mono (),b.mono ()]
section
variable {k j k' j':Nat} {l xs ys:List Rat} {x y:Rat}
theorem oV.szn (h:oV k j l) (hx:x∈l) (hk:k+j<=3950000:=by decide):iI x:=by
 obtain M|V|h0|h1|h2|h3:=h;obtain a|b:=(h3 x hx).sz h0 h1 h2;exact #[a.mono (),b.mono ()]
theorem oV.rowM (h:oV k j l) (hk:k+j<=4200000:=by decide):∃M,Ia M (l.map nm):=by
 obtain M|V|h0|h1|h2|h3:=h;refine #[M,(),?_,λn hn=>?_]
 ·show ((M:Nat):Int).natAbs < 2^4400000
  rw[bW];exact bx h1 (dc () ())
 ·obtain x|hx|rfl:=aE.mp hn;obtain a|_:=(h3 x hx).sz h0 h1 h2;exact #[iT x,(h3 x hx).den,a.mono ()]
theorem oV.one (h:oV k j l) (hx:x∈l):oV k j [x]:=by
 obtain M|V|h0|h1|h2|h3:=h;exact #[M,V,h0,h1,h2,λy hy=>by rw[bA.mp hy];exact h3 x hx]
theorem Oq (h:oV k j xs) (h':oV k' j' ys) (hl:xs.9<=1000) (i:Nat) (hk:(k+k')+(j+j')<=3930000:=by decide):iI (cm (xs.take i) (ys.take i)):=by
 obtain M|V|h0|h1|h2|h3:=h;obtain N|W|k0|k1|k2|k3:=h'
 have e:1000*(V*W)<=2^(10+(j+j')):=by
  rw[aB 2 10];exact ay () (ag (ay h2 k2) (by rw[<- aB];exact ao _))
 obtain a|b:=((Fr.dot (λx hx=>h3 x (cK hx)) (λy hy=>k3 y (cK hy))).mono (aD _ (show (xs.take i).9<=1000 by rw[cN];lia))).sz (a7 h0 k0) (ag (ay h1 k1) (by rw[<- aB];exact ao _)) e;exact #[a.mono (),b.mono ()]
theorem ND (hx:oV k j [x]) (hy:oV k' j' [y]) (hk:(k+k')+(j+j')<=3930000:=by decide):iI (x*y):=by
 obtain M|V|h0|h1|h2|h3:=hx;obtain N|W|k0|k1|k2|k3:=hy;obtain a|b:=((h3 x (.head _)).mul (k3 y (.head _))).sz (a7 h0 k0) (ag (ay h1 k1) (by rw[<- aB];exact ao _)) (ag (ay h2 k2) (by rw[<- aB];exact ao _));exact #[a.mono (),b.mono ()]
def zS (xs ys:List Rat):Prop:=∃k j k' j':Nat,oV k j xs/\oV k' j' ys/\(k+k')+(j+j')<=3930000
theorem zS.sys (h:oV 400 120 xs) (h':oV 1800000 1800000 ys):zS xs ys:=#[_,_,_,_,h,h',()]
end
def Iu (mv pt lk:LR9):Prop:=∃M V:Nat,0 < M/\M<=2^400/\V<=2^120/\GF M V mv/\GF M V pt/\GF M V lk
section
variable {mv pt lk:LR9}
theorem Iu.fits (h:Iu mv pt lk) (hl:∀x∈l,(∃xs∈mv,x∈xs)\/(∃xs∈pt,x∈xs)\/(∃xs∈lk,x∈xs)\/x=0):oV 400 120 l:=by
 obtain M|V|h0|h1|h2|g1|g2|g3:=h;refine #[M,V,h0,h1,h2,λx hx=>?_];rcases hl x hx with ⟨xs,a,b⟩ | ⟨xs,a,b⟩ | ⟨xs,a,b⟩ | rfl
 ·exact g1 xs a x b
 ·exact g2 xs a x b
 ·exact g3 xs a x b
 ·exact Fr.zero
theorem Iu.sf (h:Iu mv pt lk):DZ mv pt lk:=by obtain M|V|a|b|c|d:=h;exact #[M,V,a,ag b (au () ()),ag c (au () ()),d]
end
inductive Ef (K:FG9) (vs:List V) (H:Hp) (Q:VK) (E9:XK):Prop
 | mk (p q:Addr) (xs ys:List Rat):vs=[.ref p,.ref q]->bV K H p xs->bV K H q ys->ys.9=xs.9->xs.9<=1000->zS xs ys->(∀r H',aH H H'->bQ K H' (cm xs ys) (.ref r)->Q (.ref r) H')->Ef K vs H Q E9
inductive Ee (K:FG9) (vs:List V) (H:Hp) (Q:VK) (E9:XK):Prop
 | mk (p q:Addr) (H0:Hp) (rows:LR9) (ys:List Rat):vs=[.ref p,.ref q]->bL K H0 H p rows->bV K H q ys->rows.9<=1000->ys.9<=1000->((∀xs∈rows,xs.9=ys.9/\zS xs ys))->(∀r H',H r=none->aH H H'->bV K H' r (rows.map λxs=>cm xs ys)->Q (.ref r) H')->Ee K vs H Q E9
inductive C9 (K:FG9) (C:Addr) (vs:List V) (H:Hp) (Q:VK) (E9:XK):Prop
 | mk (x p q:Addr) (H0:Hp) (mv pt lk:LR9) (st pu:List Rat):vs=[.ref x,.ref p,.ref q]->kg K H0 H C x mv pt lk->eQ mv pt lk->Iu mv pt lk->bV K H p st->bV K H q pu->st.9=mv.9->pu.9=pt.9->oV 1800000 1800000 (st++pu)->(∀r H',H r=none->aH H H'->bV K H' r (iC mv pt st pu)->Q (.ref r) H')->C9 K C vs H Q E9
def qU (mv pt:LR9) (st:List Rat) (pus:LR9) (k:Nat):List Rat:=(pus.take k).foldl (iC mv pt) st
def mW (mv pt:LR9) (st:List Rat) (pus:LR9):LR9:=(List.range (pus.9+1)).map (qU mv pt st pus)
section
variable {mv pt lk pus:LR9} {st:List Rat} {k:Nat}
theorem rj (h:pus[k]?=some pu):qU mv pt st pus (k+1)=iC mv pt (qU mv pt st pus k) pu:=by
 unfold qU;rw[take_snoc h,List.foldl_append];rfl
theorem o7 (h:st.9=mv.9):∀{k:Nat},k<=pus.9->(qU mv pt st pus k).9=mv.9
 | 0,_=>h
 | k+1,hk=>by rw[rj (af (show k < pus.9 by lia)),LQ]
theorem vo:(mW mv pt st pus).9=pus.9+1:=by unfold mW;rw[aj,bZ]
theorem tL (h:k<=pus.9):(mW mv pt st pus)[k]?=some (qU mv pt st pus k):=by
 unfold mW;rw[aF,cJ ()];rfl
def CU (mv pt:LR9) (st:List Rat) (pus:LR9):Prop:=∀k,k<=pus.9->∃N W:Nat,0 < N/\N<=2^1800000/\W<=2^1800000/\(∀x∈qU mv pt st pus k,Fr N W x)/\∀xs∈pus,∀x∈xs,Fr N W x
theorem CU.both (h:CU mv pt st pus) (hk:k<=pus.9) (hp:pu∈pus):oV 1800000 1800000 (qU mv pt st pus k++pu):=by
 obtain N|W|a|b|c|d|e:=h k hk;exact #[N,W,a,b,c,λx hx=>(aA.mp hx).elim (d x) (e pu hp x)]
theorem CU.state (h:CU mv pt st pus) (hk:k<=pus.9):oV 1800000 1800000 (qU mv pt st pus k):=by
 obtain N|W|a|b|c|d|e:=h k hk;exact #[N,W,a,b,c,d]
end
def yu (K:FG9) (H:Hp) (l:Addr) (H':Hp) (xs:List Rat) (x:V):Prop:=∃q,x=.ref q/\H q=none/\q≠l/\bV K H' q xs
section
variable {K:FG9} {H H' H2:Hp} {l:Addr} {xs:List Rat} {x:V}
theorem yu.same (h:yu K H l H' xs x) (e:aH H' H2):yu K H l H2 xs x:=by obtain q|a|b|c|d:=h;exact #[q,a,b,c,d.same e]
theorem yu.upd {ys:List V} {o:HO} (h:yu K H l H' xs x) (hl:H' l=some (.lst ys)):yu K H l (upd H' l o) xs x:=by obtain q|a|b|c|d:=h;exact #[q,a,b,c,d.updL hl c]
theorem yu.rowF (h:yu K H l H' xs x):dB K H H' xs x:=by obtain q|a|b|_|d:=h;exact #[q,a,b,d]
theorem Lq (e:aH H H') (n:H l=none):aH H (upd H' l o):=λb u h=>by
 rw[bM (λz=>by rw[z,n] at h;cases h)];exact e b u h
theorem AX:∀{rows:LR9} {ys:List V},Paired (yu K H l H') rows ys->V.ref l∉ys
 | _,_,.nil=>by simp
 | _,_,.cons ⟨q,a,_,c,_⟩ r=>by
  intro hm;rcases aG.mp hm with e | hm
  ·rw[a] at e;cases e;exact c rfl
  ·exact AX r hm
end
inductive AA (K:FG9) (C:Addr) (vs:List V) (H:Hp) (Q:VK) (E9:XK):Prop
 | mk (x s p:Addr) (H0 H1:Hp) (mv pt lk pus:LR9) (st:List Rat):vs=[.ref x,.ref s,.ref p]->kg K H0 H C x mv pt lk->eQ mv pt lk->Iu mv pt lk->bV K H s st->st.9=mv.9->bL K H1 H p pus->pus.9<=100->(∀xs∈pus,xs.9=pt.9)->CU mv pt st pus->(∀r H',H r=none->aH H H'->bL K H H' r (mW mv pt st pus)->Q (.ref r) H')->AA K C vs H Q E9
theorem yk {l:List Rat} (h:∀x∈l,Dr (2^c) x) (hc:c<=20):∃B:Nat,0 < B/\B<=2^(c*l.9+2)/\∀x∈l,Fr B (2^22) x:=by
 obtain M|h0|h1|h2:=Qr (c:=c) (n:=l.9) (i:=0) (rows:=[]) S5 rfl h hc;refine #[M,h0,?_,h2 l (by simp)];rw[Nat.zero_add,qS] at h1;exact h1
theorem GU {i:Nat}:∀{pus:LR9},(∀xs∈pus,xs.9=i)->pus.flatten.9=pus.9*i
 | [],_=>by simp
 | x :: r,h=>by
  rw[dR,aw,h x (.head _),GU (λxs hx=>h xs (.tail _ hx)),bO,dw]
  lia
theorem T6 {i:Int} (h:i=0\/i=1):Fr 1 1 (i:Rat):=Fr.int (by rcases h with rfl | rfl <;> decide)
end L2
namespace L2
abbrev iW:=Nat->Rat
def Cn (F:List iW->Rat) (r:Nat):List iW->List iW->Rat->Rat
 | _,[],_=>0
 | pre,v :: post,s=>s*v r*F (pre++post)+Cn F r (pre++[v]) post (-s)
def jl:List Nat->List iW->Rat
 | [],[]=>1
 | [],_ :: _=>0
 | r :: rs,vs=>Cn (λws=>jl rs ws) r [] vs 1
theorem E8:jl [] (a++x :: b)=0:=by
 cases a <;> rfl
theorem EU {F:List iW->Rat} {r:Nat} {f g h:iW} {x y:Rat} (hF:∀a b,F (a++h :: b)=x*F (a++f :: b)+y*F (a++g :: b)):∀(b p q:List iW) (s:Rat),Cn F r (p++h :: q) b s=x*Cn F r (p++f :: q) b s+y*Cn F r (p++g :: q) b s
 | [],p,q,s=>by simp only[Cn,gM,tO]
 | v :: b,p,q,s=>by
  have i1:=hF p (q++b);have i2:=EU (r:=r) hF b p (q++[v]) (-s);simp only[Cn,cF,fE] at i1 i2 ⊢;rw[i1,i2];grind
theorem Ko {F:List iW->Rat} {r:Nat} {f g h:iW} {x y:Rat} (hF:∀a b,F (a++h :: b)=x*F (a++f :: b)+y*F (a++g :: b)) (hr:h r=x*f r+y*g r):∀(a pre b:List iW) (s:Rat),Cn F r pre (a++h :: b) s=x*Cn F r pre (a++f :: b) s+y*Cn F r pre (a++g :: b) s
 | [],pre,b,s=>by
  have i2:=EU (r:=r) hF b pre [] (-s);simp only[Cn,cY] at i2 ⊢;rw[i2,hr];grind
 | v :: a,pre,b,s=>by
  have i1:=hF (pre++a) b;have i2:=Ko hF hr a (pre++[v]) b (-s);simp only[Cn,cF,fE] at i1 i2 ⊢;rw[i1,i2];grind
theorem sO {f g h:iW} {x y:Rat}:∀{rs:List Nat},(∀r∈rs,h r=x*f r+y*g r)->∀a b,jl rs (a++h :: b)=x*jl rs (a++f :: b)+y*jl rs (a++g :: b)
 | [],_,a,b=>by rw[E8,E8,E8];grind
 | r :: rs,hr,a,b=>Ko (λa b=>sO (λr' h'=>hr r' (.tail _ h')) a b) (hr r (.head _)) a [] b 1
theorem Om (hr:∀r∈rs,h r=f r) (a b:List iW):jl rs (a++h :: b)=jl rs (a++f :: b):=by
 rw[sO (f:=f) (g:=f) (x:=1) (y:=0) (λr h'=>by rw[hr r h'];grind) a b];grind
theorem KG (hr:∀r∈rs,h r=0) (a b:List iW):jl rs (a++h :: b)=0:=by
 rw[sO (f:=h) (g:=h) (x:=0) (y:=0) (λr h'=>by rw[hr r h'];grind) a b];grind
theorem Kq {F:List iW->Rat} {r:Nat} {x:iW} (hF:∀a b,F (a++x :: x :: b)=0):∀(b p q:List iW) (s:Rat),Cn F r (p++x :: x :: q) b s=0
 | [],p,q,s=>rfl
 | v :: b,p,q,s=>by
  have i1:=hF p (q++b);have i2:=Kq (r:=r) hF b p (q++[v]) (-s);simp only[Cn,cF,fE] at i1 i2 ⊢;rw[i1,i2];grind
theorem Kr {F:List iW->Rat} {r:Nat} {x:iW} (hF:∀a b,F (a++x :: x :: b)=0):∀(a pre b:List iW) (s:Rat),Cn F r pre (a++x :: x :: b) s=0
 | [],pre,b,s=>by
  have i2:=Kq (r:=r) hF b pre [] (- -s);simp only[Cn,cY,cF,fE] at i2 ⊢;rw[i2];grind
 | v :: a,pre,b,s=>by
  have i1:=hF (pre++a) b;have i2:=Kr (r:=r) hF a (pre++[v]) b (-s);simp only[Cn,cF,fE] at i1 i2 ⊢;rw[i1,i2];grind
theorem BE {x:iW}:∀{rs:List Nat} (a b:List iW),jl rs (a++x :: x :: b)=0
 | [],a,b=>E8
 | r :: rs,a,b=>Kr (λa b=>BE a b) a [] b 1
theorem Qv (a b:List iW):jl rs (a++x :: y :: b)=- jl rs (a++y :: x :: b):=by
 have hr:∀r∈rs,(λr=>1*x r+1*y r) r=1*x r+1*y r:=λ_ _=>rfl
 have h0:=BE (x:=λr=>1*x r+1*y r) (rs:=rs) a b;have h1:=sO hr a ((λr=>1*x r+1*y r) :: b);have h2:=sO hr (a++[x]) b;have h3:=sO hr (a++[y]) b;have h4:=BE (x:=x) (rs:=rs) a b;have h5:=BE (x:=y) (rs:=rs) a b;simp only[cF,fE,cY] at h0 h1 h2 h3 h4 h5;rw[h1,h2,h3,h4,h5] at h0;grind
theorem Fc {x:iW} {rs:List Nat}:∀(b a c:List iW),jl rs (a++x :: (b++x :: c))=0
 | [],a,c=>BE a c
 | y :: b,a,c=>by
  have:=Fc (x:=x) (rs:=rs) b (a++[y]) c;simp only[cF,fE,cY] at this;rw[fE,Qv,this];rfl
def bS:Nat->(Nat->Rat)->Rat
 | 0,_=>0
 | k+1,f=>bS k f+f k
theorem aY {f g:Nat->Rat}:∀{k:Nat},(∀j,j < k->f j=g j)->bS k f=bS k g
 | 0,_=>rfl
 | k+1,h=>by
  show bS k f+f k=bS k g+g k
  rw[aY λj hj=>h j (),h k ()]
theorem rh {f g:Nat->Rat}:∀{k:Nat},bS k (λj=>f j+g j)=bS k f+bS k g
 | 0=>by show (0:Rat)=0+0;grind
 | k+1=>by
  show bS k (λj=>f j+g j)+_=(bS k f+f k)+(bS k g+g k)
  rw[rh];grind
theorem cW {f:Nat->Rat} {c:Rat}:∀{k:Nat},bS k (λj=>c*f j)=c*bS k f
 | 0=>by show (0:Rat)=c*0;grind
 | k+1=>by
  show bS k (λj=>c*f j)+_=c*(bS k f+f k)
  rw[cW];grind
theorem dm {f:Nat->Rat}:∀{k:Nat},(∀j,j < k->f j=0)->bS k f=0
 | 0,_=>rfl
 | k+1,h=>by
  show bS k f+f k=0
  rw[dm λj hj=>h j (),h k ()];grind
theorem il {f:Nat->Rat} {i:Nat}:∀{k:Nat},i < k->(∀j,j < k->j≠i->f j=0)->bS k f=f i
 | k+1,hi,h=>by
  show bS k f+f k=f i
  by_cases e:i=k
  ·subst e;rw[dm λj hj=>h j () ()];grind
  ·rw[il () λj hj=>h j (),h k () (λz=>e z.symm)];grind
theorem gP {f:Nat->Nat->Rat} {m:Nat}:∀{k:Nat},bS k (λi=>bS m (f i))=bS m (λj=>bS k λi=>f i j)
 | 0=>(dm λ_ _=>rfl).symm
 | k+1=>by
  show bS k (λi=>bS m (f i))+bS m (f k)=bS m (λj=>bS k (λi=>f i j)+f k j)
  rw[gP,rh]
theorem BC {rs:List Nat} {W:iW} {v:Nat->iW} {c:Nat->Rat} (a b:List iW):∀{k:Nat} {W:iW},(∀r∈rs,W r=bS k λj=>c j*v j r)->jl rs (a++W :: b)=bS k λj=>c j*jl rs (a++v j :: b)
 | 0,W,h=>KG h a b
 | k+1,W,h=>by
  rw[sO (f:=λr=>bS k λj=>c j*v j r) (g:=v k) (x:=1) (y:=c k) (λr hr=>by rw[h r hr];show bS k _+_=_;grind) a b,BC a b (k:=k) (W:=λr=>bS k λj=>c j*v j r) λr _=>rfl];show _=bS k _+_
  grind
end L2
namespace L2
open Nm
def k9 (f:Nat->Nat):Nat->List Nat
 | 0=>[]
 | k+1=>f k :: k9 f k
def iZ (v:Nat->iW):Nat->List iW
 | 0=>[]
 | k+1=>v k :: iZ v k
def DF (v:Nat->iW) (i:Nat):Nat->List iW
 | 0=>[]
 | k+1=>if k<=i then [] else v k :: DF v i k
theorem uY {f:Nat->Nat}:∀{k:Nat},(k9 f k).9=k
 | 0=>rfl
 | k+1=>by show (k9 f k).9+1=_;rw[uY]
theorem cw_len {v:Nat->iW}:∀{k:Nat},(iZ v k).9=k
 | 0=>rfl
 | k+1=>by show (iZ v k).9+1=_;rw[cw_len]
theorem mB {f:Nat->Nat} {r:Nat}:∀{k:Nat},r∈k9 f k->∃t,t < k/\r=f t
 | k+1,h=>by
  rcases aG.mp h with h | h
  ·exact #[k,(),h]
  ·obtain t|a|b:=mB h;exact #[t,(),b]
theorem Gj {f g:Nat->Nat}:∀{k:Nat},(∀j,j < k->f j=g j)->k9 f k=k9 g k
 | 0,_=>rfl
 | k+1,h=>by
  show f k :: k9 f k=g k :: k9 g k
  rw[h k (),Gj λj hj=>h j ()]
theorem cw_congr {f g:Nat->iW}:∀{k:Nat},(∀j,j < k->f j=g j)->iZ f k=iZ g k
 | 0,_=>rfl
 | k+1,h=>by
  show f k :: iZ f k=g k :: iZ g k
  rw[h k (),cw_congr λj hj=>h j ()]
theorem cw_mem {v:Nat->iW} {j:Nat}:∀{k:Nat},j < k->v j∈iZ v k
 | k+1,h=>by
  by_cases e:j=k
  ·subst e;exact .head _
  ·exact .tail _ (cw_mem ())
theorem cw_in {v:Nat->iW} {x:iW}:∀{k:Nat},x∈iZ v k->∃t,t < k/\x=v t
 | k+1,h=>by
  rcases aG.mp h with h | h
  ·exact #[k,(),h]
  ·obtain t|a|b:=cw_in h;exact #[t,(),b]
theorem Ow {v:Nat->iW} {i j:Nat} (h1:i < j):∀{k:Nat},j < k->v j∈DF v i k
 | k+1,h=>by
  show v j∈if k<=i then [] else v k :: DF v i k
  rw[if_neg ()];by_cases e:j=k
  ·subst e;exact .head _
  ·exact .tail _ (Ow h1 ())
theorem Hu {v:Nat->iW} {i:Nat} {x:iW}:∀{k:Nat},x∈DF v i k->∃t,t < k/\x=v t
 | k+1,h=>by
  have h:x∈if k<=i then [] else v k :: DF v i k:=h
  split at h
  ·cases h
  ·rcases aG.mp h with h | h
   ·exact #[k,(),h]
   ·obtain t|a|b:=Hu h;exact #[t,(),b]
theorem cw_split {v:Nat->iW} {i:Nat}:∀{k:Nat},i < k->iZ v k=DF v i k++v i :: iZ v i
 | k+1,h=>by
  show v k :: iZ v k=(if k<=i then [] else v k :: DF v i k)++_
  by_cases e:i=k
  ·subst e;rw[if_pos (ao _)];rfl
  ·rw[if_neg (),cw_split (k:=k) (i:=i) ()];rfl
theorem yj {c:Nat->Rat} (hi:i < k) (hW:∀r∈rs,W r=bS k λj=>c j*v j r):jl rs (DF v i k++W :: iZ v i)=c i*jl rs (iZ v k):=by
 rw[BC (v:=v) (c:=c) (W:=W) _ _ hW,il hi λj hj ne=>?_,cw_split hi];rcases cR j i with h | h
 ·obtain s|t|e:=IB (cw_mem (v:=v) h);rw[e,Fc];grind
 ·obtain s|t|e:=IB (Ow (v:=v) (show i < j by lia) hj);have:=Fc (x:=v j) (rs:=rs) t s (iZ v i);rw[e,cF,fE,this];grind
theorem Tb {c:Nat->Rat} (hW:∀r∈rs,W r=bS k λj=>c j*v j r):jl rs (W :: iZ v k)=0:=by
 have:=BC (v:=v) (c:=c) (W:=W) [] (iZ v k) hW;rw[cY] at this;rw[this];refine dm λj hj=>?_
 obtain s|t|e:=IB (cw_mem (v:=v) hj);have:=Fc (x:=v j) (rs:=rs) s [] t;rw[cY] at this;rw[e,cY,this];grind
theorem L6 {c:Nat->Rat} (hi:i∉rs) (h1:W i=bS k (λj=>c j*v j i)+s) (hW:∀r∈rs,W r=bS k λj=>c j*v j r):jl (i :: rs) (W :: iZ v k)=s*jl rs (iZ v k):=by
 have e:=sO (rs:=i :: rs) (h:=W) (f:=λr=>bS k λj=>c j*v j r) (g:=λr=>if r=i then 1 else 0) (x:=1) (y:=s) (λr hr=>by
  rcases aG.mp hr with rfl | hr
  ·rw[h1,if_pos rfl];grind
  ·rw[hW r hr,if_neg (λz=>hi (by rw[<- z];exact hr))];grind) [] (iZ v k)
 rw[cY,cY,cY,Tb (c:=c) λr _=>rfl] at e
 have e2:jl (i :: rs) ((λr=>if r=i then (1:Rat) else 0) :: iZ v k)=jl rs (iZ v k):=by
  show 1*(if i=i then (1:Rat) else 0)*jl rs ([]++iZ v k)+Cn (λws=>jl rs ws) i ([]++[λr=>if r=i then (1:Rat) else 0]) (iZ v k) (-1)=_
  have hF:∀a b,(λws=>jl rs ws) (a++(λr=>if r=i then (1:Rat) else 0) :: b)=0*(λws=>jl rs ws) (a++(λr=>if r=i then (1:Rat) else 0) :: b)+0*(λws=>jl rs ws) (a++(λr=>if r=i then (1:Rat) else 0) :: b):=λa b=>by
   have:=KG (h:=λr=>if r=i then (1:Rat) else 0) (rs:=rs) (λr hr=>if_neg λz=>hi (by rw[<- z];exact hr)) a b
   dsimp only
   rw[this];grind
  have:=EU (r:=i) hF (iZ v k) [] [] (-1);rw[this,if_pos rfl,cY];grind
 rw[e2] at e;rw[e];grind
theorem NM {F:List iW->Rat} {r B W:Nat}:∀{post pre:List iW} {s:Rat},(∀ws,(∀w∈ws,w∈pre++post)->ws.9+1=(pre++post).9->Fr 1 B (F ws))->(∀w∈post,Fr 1 W (w r))->Fr 1 1 s->Fr 1 (post.9*(W*B)) (Cn F r pre post s)
 | [],pre,s,_,_,_=>by show Fr 1 _ 0;exact Fr.zero
 | v :: post,pre,s,hF,hw,hs=>by
  have t1:Fr 1 (W*B) (s*v r*F (pre++post)):=by
   have:=(hs.mul (hw v (.head _))).mul (hF (pre++post) (λw h=>by
    rcases aA.mp h with h | h
    ·exact dG _ h
    ·exact bH _ (.tail _ h)) (by simp only[aw,bO];lia))
   simpa using this
  have t2:=NM (F:=F) (r:=r) (B:=B) (W:=W) (post:=post) (pre:=pre++[v]) (s:=-s) (λws h h'=>hF ws (λw hw=>by simpa using h w hw) (by simpa using h')) (λw h=>hw w (.tail _ h)) (by simpa using hs.neg);exact (t1.add t2).mono (by rw[bO,dw];lia)
theorem BD {W N:Nat}:∀{rs:List Nat} {vs:List iW},vs.9<=N->(∀v∈vs,∀r∈rs,Fr 1 W (v r))->Fr 1 ((N*W)^rs.9) (jl rs vs)
 | [],[],_,_=>by show Fr 1 1 1;exact (Fr.int (i:=1) ())
 | [],_ :: _,_,_=>by show Fr 1 _ 0;exact Fr.zero
 | r :: rs,vs,hl,h=>by
  have:=NM (F:=λws=>jl rs ws) (r:=r) (B:=(N*W)^rs.9) (W:=W) (post:=vs) (pre:=[]) (s:=1) (λws h1 h2=>BD (by rw[cY] at h2;lia) λv hv r' hr'=>h v (by simpa using h1 v hv) r' (.tail _ hr')) (λw hw=>h w hw r (.head _)) (Fr.int (i:=1) ());refine this.mono ?_;rw[bO,eP,bY ((N*W)^rs.9),cu N];exact aD _ hl
structure Cf (a:Nat->Nat->Rat) (m k:Nat) (pm p:Nat->Nat) (l:Nat->Nat->Rat) (d:Rat):Prop where
 inj:∀i j,i < m->j < m->pm i=pm j->i=j
 rng:∀i,i < m->pm i < m
 km:k<=m
 d0:d≠0
 det:d=jl (k9 pm k) (iZ (λj r=>a r (p j)) k)
 eqs:∀i,i < m->∀c,d*a (pm i) c=bS k (λj=>a (pm i) (p j)*l j c)+if i < k then 0 else l i c
 unit:∀i,i < m->∀j,j < k->l i (p j)=if i=j then d else 0
section
variable {a l:Nat->Nat->Rat} {m k:Nat} {pm p:Nat->Nat} {d:Rat}
theorem Cf.start (h:∀i,i < m->pm i=i):Cf a m 0 pm p a 1 where
 inj i j hi hj e:=by rw[h i hi,h j hj] at e;exact e
 rng i hi:=by rw[h i hi];exact hi
 km:=bg _
 d0:=()
 det:=rfl
 eqs i hi c:=by
  rw[h i hi,if_neg ()];show 1*a i c=0+a i c
  grind
 unit i _ j hj:=absurd hj ()
theorem Cf.coef (B:Cf a m k pm p l d) (hi:i < m):a (pm i) c=bS k (λj=>(l j c / d)*a (pm i) (p j))+if i < k then 0 else l i c / d:=by
 have h:=B.eqs i hi c;have d0:=B.d0
 have e:bS k (λj=>(l j c / d)*a (pm i) (p j))=(1 / d)*bS k (λj=>a (pm i) (p j)*l j c):=by
  rw[<- cW];exact aY λj _=>by grind
 rw[e]
 split at h
 ·rw[if_pos (by assumption)];grind
 ·rw[if_neg (by assumption)];grind
theorem Cf.old (B:Cf a m k pm p l d) (hi:i < k):l i c=jl (k9 pm k) (DF (λj r=>a r (p j)) i k++(λr=>a r c) :: iZ (λj r=>a r (p j)) i):=by
 have km:=B.km;have d0:=B.d0;rw[yj (v:=λj r=>a r (p j)) (c:=λj=>l j c / d) hi λr hr=>?_,<- B.det]
 ·grind
 ·obtain t|ht|rfl:=mB hr;have:=B.coef (i:=t) (c:=c) ();rw[if_pos ht] at this;rw[this];grind
theorem Cf.new (B:Cf a m k pm p l d) (h1:k<=i) (hi:i < m):l i c=jl (pm i :: k9 pm k) ((λr=>a r c) :: iZ (λj r=>a r (p j)) k):=by
 have km:=B.km;have d0:=B.d0
 have hn:pm i∉k9 pm k:=λhm=>by
  obtain t|ht|e:=mB hm;have:=B.inj i t hi () e
  lia
 have e1:a (pm i) c=bS k (λj=>(l j c / d)*a (pm i) (p j))+l i c / d:=by
  have:=B.coef (i:=i) (c:=c) hi;rwa [if_neg ()] at this
 have e2:∀r∈k9 pm k,a r c=bS k (λj=>(l j c / d)*a r (p j)):=λr hr=>by
  obtain t|ht|rfl:=mB hr;have:=B.coef (i:=t) (c:=c) ();rw[if_pos ht] at this;rw[this];grind
 rw[L6 (v:=λj r=>a r (p j)) (c:=λj=>l j c / d) (W:=λr=>a r c) (s:=l i c / d) hn e1 e2,<- B.det];grind
theorem Cf.fr (B:Cf a m k pm p l d) (hN:k < N) (hW:1<=W) (ha:∀i,i < m->∀c,Fr 1 W (a i c)) (hi:i < m):Fr 1 ((N*W)^(k+1)) (l i c):=by
 have km:=B.km;have mono:∀t,t<=k+1->(N*W)^t<=(N*W)^(k+1):=λt ht=>au (a7 () hW) ht
 have ha':∀r∈k9 pm k,∀c,Fr 1 W (a r c):=λr hr c=>by
  obtain t|ht|rfl:=mB hr;exact ha _ (B.rng t ()) c
 by_cases h:i < k
 ·rw[B.old h];refine (BD (W:=W) (N:=N) ?_ ?_).mono (mono _ (by rw[uY];lia))
  ·have:=congrArg List.length (cw_split (v:=λj r=>a r (p j)) h);rw[aw,bO,cw_len] at this;rw[aw,bO]
   lia
  ·intro v hv r hr;rcases aA.mp hv with hv | hv
   ·obtain t|_|rfl:=Hu hv;exact ha' r hr _
   ·rcases aG.mp hv with rfl | hv
    ·exact ha' r hr _
    ·obtain t|_|rfl:=cw_in hv;exact ha' r hr _
 ·rw[B.new () hi];refine (BD (W:=W) (N:=N) ?_ ?_).mono (mono _ (by rw[bO,uY];lia))
  ·rw[bO,cw_len]
   lia
  ·intro v hv r hr
   have hr':∀c,Fr 1 W (a r c):=λc=>by
    rcases aG.mp hr with rfl | hr
    ·exact ha _ (B.rng i hi) c
    ·exact ha' r hr c
   rcases aG.mp hv with rfl | hv
   ·exact hr' _
   ·obtain t|_|rfl:=cw_in hv;exact hr' _
theorem Cf.dfr (B:Cf a m k pm p l d) (hN:k<=N) (ha:∀i,i < m->∀c,Fr 1 W (a i c)):Fr 1 ((N*W)^k) d:=by
 have km:=B.km;rw[B.det]
 have:=BD (W:=W) (N:=N) (rs:=k9 pm k) (vs:=iZ (λj r=>a r (p j)) k) (by rw[cw_len];exact hN) λv hv r hr=>by
  obtain t|ht|rfl:=mB hr;obtain t'|_|rfl:=cw_in hv;exact ha _ (B.rng t ()) _
 rwa [uY] at this
def xC (k t i:Nat):Nat:=if i=k then t else if i=t then k else i
theorem vz (hk:k < m) (ht:t < m) (hi:i < m):xC k t i < m:=by
 unfold xC
 split
 ·exact ht
 ·split
  ·exact hk
  ·exact hi
theorem RO (h:xC k t i=xC k t j):i=j:=by
 unfold xC at h
 split at h <;> split at h <;> (try split at h) <;> (try split at h) <;> lia
theorem xA (h:k<=t) (hi:i < k):xC k t i=i:=by
 unfold xC;rw[if_neg (),if_neg ()]
theorem zW (h:k<=t) (hi:k<=i):k<=xC k t i:=by
 unfold xC
 split
 ·exact h
 ·split <;> lia
theorem Cf.swap (B:Cf a m k pm p l d) {t:Nat} (h:k<=t) (ht:t < m):Cf a m k (λi=>pm (xC k t i)) p (λi=>l (xC k t i)) d where
 inj i j hi hj e:=RO (B.inj _ _ (vz () ht hi) (vz () ht hj) e)
 rng i hi:=B.rng _ (vz () ht hi)
 km:=B.km
 d0:=B.d0
 det:=by rw[B.det,Gj (f:=pm) (g:=λi=>pm (xC k t i)) λj hj=>by rw[xA h hj]]
 eqs i hi c:=by
  have e:=B.eqs (xC k t i) (vz () ht hi) c;have e1:bS k (λj=>a (pm (xC k t i)) (p j)*l (xC k t j) c)=bS k (λj=>a (pm (xC k t i)) (p j)*l j c):=aY λj hj=>by rw[xA h hj]
  rw[e1];by_cases hk:i < k
  ·rw[xA h hk] at e ⊢;exact e
  ·rw[if_neg hk];rw[if_neg (by have:=zW h (show k<=i by lia);lia)] at e;exact e
 unit i hi j hj:=by
  rw[B.unit _ (vz () ht hi) j hj];by_cases hk:i < k
  ·rw[xA h hk]
  ·have:=zW h (show k<=i by lia);rw[if_neg (),if_neg ()]
theorem Cf.step (B:Cf a m k pm p l d) {c0:Nat} (hk:k < m) (h0:l k c0≠0):Cf a m (k+1) pm (λj=>if j=k then c0 else p j) (λi c=>if i=k then l k c else (l k c0*l i c - l i c0*l k c) / d) (l k c0) where
 inj:=B.inj
 rng:=B.rng
 km:=hk
 d0:=h0
 det:=by
  rw[B.new (ao _) hk];show _=jl (pm k :: k9 pm k) ((λr=>a r (if k=k then c0 else p k)) :: iZ _ k)
  rw[if_pos rfl];congr 2;exact cw_congr λj hj=>by rw[if_neg (show j≠k by lia)]
 eqs i hi c:=by
  have d0:=B.d0;have e1:=B.eqs i hi c;have e2:=B.eqs i hi c0;show l k c0*a (pm i) c=(bS k _+_)+_
  have s1:bS k (λj=>a (pm i) (if j=k then c0 else p j)*(if j=k then l k c else (l k c0*l j c - l j c0*l k c) / d))=(l k c0 / d)*bS k (λj=>a (pm i) (p j)*l j c)+(- l k c / d)*bS k (λj=>a (pm i) (p j)*l j c0):=by
   rw[<- cW,<- cW,<- rh];refine aY λj hj=>?_
   rw[if_neg (show j≠k by lia),if_neg (show j≠k by lia)];grind
  rw[s1];simp only[if_true];generalize bS k (λj=>a (pm i) (p j)*l j c)=S1 at e1 ⊢;generalize bS k (λj=>a (pm i) (p j)*l j c0)=S2 at e2 ⊢;rcases nE i k with h | h | h
  ·rw[if_pos h] at e1 e2;rw[if_pos ()];grind
  ·subst h;rw[if_neg ()] at e1 e2;rw[if_pos ()];grind
  ·rw[if_neg ()] at e1 e2;rw[if_neg (),if_neg ()];grind
 unit i hi j hj:=by
  have d0:=B.d0;by_cases e:j=k
  ·subst e;simp only[if_true];by_cases ei:i=j
   ·rw[if_pos ei,if_pos ei]
   ·rw[if_neg ei,if_neg ei];grind
  ·have hj':j < k:=()
   rw[if_neg e];by_cases ei:i=k
   ·rw[if_pos ei,B.unit k hk j hj',if_neg (),if_neg ()]
   ·rw[if_neg ei,B.unit i hi j hj',B.unit k hk j hj',if_neg (show k≠j by lia)]
    split
    ·grind
    ·grind
end
def fK (m:Nat) (a:Nat->Nat->Rat) (x:Nat->Rat):Prop:=∃w:Nat->Rat,∀c,x c=bS m λt=>w t*a t c
section
variable {m m' k n:Nat} {a b:Nat->Nat->Rat} {x y:Nat->Rat}
theorem fK.row (hi:i < m):fK m a (a i):=#[λt=>if t=i then 1 else 0,λc=>by
 rw[il hi λj _ ne=>by dsimp only;rw[if_neg ne];grind]
 dsimp only
 rw[if_pos rfl];grind]
theorem fK.lin (α β:Rat) (hx:fK m a x) (hy:fK m a y):fK m a λc=>α*x c+β*y c:=by
 obtain w|hw:=hx;obtain v|hv:=hy;refine #[λt=>α*w t+β*v t,λc=>?_]
 dsimp only
 rw[hw c,hv c,<- cW,<- cW,<- rh];exact aY λj _=>by grind
theorem fK.congr (h:∀c,x c=y c) (hx:fK m a x):fK m a y:=by obtain w|hw:=hx;exact #[w,λc=>by rw[<- h c];exact hw c]
theorem fK.trans (h:∀t,t < m'->fK m a (b t)) (hx:fK m' b x):fK m a x:=by
 obtain v|hv:=hx
 have h2:∀t,∃w:Nat->Rat,t < m'->∀c,b t c=bS m λs=>w s*a s c:=λt=>by
  by_cases ht:t < m'
  ·obtain w|hw:=h t ht;exact #[w,λ_=>hw]
  ·exact #[λ_=>0,λz=>absurd z ht]
 have hc:=Classical.axiomOfChoice h2;obtain w|hw:=hc;refine #[λs=>bS m' λt=>v t*w t s,λc=>?_];rw[hv c];have e1:bS m' (λt=>v t*b t c)=bS m' (λt=>bS m λs=>v t*(w t s*a s c)):=aY λt ht=>by rw[hw t ht c,<- cW]
 rw[e1,gP];refine aY λs _=>?_
 have:bS m' (λt=>v t*w t s)*a s c=a s c*bS m' (λt=>v t*w t s):=eO ..;rw[this,<- cW];exact aY λt _=>by grind
theorem fK.zero (h:∀c,x c=0):fK m a x:=#[λ_=>0,λc=>by rw[h c,dm λ_ _=>by grind]]
end
structure HZ (m n:Nat) (a:Nat->Nat->Rat) (k:Nat) (p:Nat->Nat) (R:Nat->Nat->Rat):Prop where
 inc:∀i j,i < j->j < k->p i < p j
 low:∀j,j < k->p j < n
 unit:∀i,i < k->∀j,j < k->R i (p j)=if i=j then 1 else 0
 lead:∀i,i < k->∀c,c < p i->R i c=0
 span:∀i,i < m->fK k R (a i)
 back:∀i,i < k->fK m a (R i)
section
variable {m m' k k' n:Nat} {a a' R R':Nat->Nat->Rat} {p p':Nat->Nat} {x:Nat->Rat}
theorem HZ.coef (h:HZ m n a k p R) (hx:fK k R x) (c:Nat):x c=bS k λj=>x (p j)*R j c:=by
 obtain w|hw:=hx;rw[hw c];refine aY λj hj=>?_
 rw[hw (p j),il hj λt ht ne=>by rw[h.unit t ht j hj,if_neg ne];grind,h.unit j hj j hj,if_pos rfl];grind
theorem HZ.lead_in (h:HZ m n a k p R) (hx:fK k R x) (h1:x c≠0) (h0:∀c',c' < c->x c'=0):∃j,j < k/\p j=c:=by
 refine Classical.byContradiction λhn=>h1 ?_
 rw[h.coef hx c];refine dm λj hj=>?_
 rcases nE (p j) c with z | z | z
 ·rw[h0 _ z];grind
 ·exact absurd #[j,hj,z] hn
 ·rw[h.lead j hj c z];grind
theorem inc_le (h1:∀i j,i < j->j < k->p i < p j) (h2:∀i j,i < j->j < k'->p' i < p' j) (hs:∀j,j < k'->∃i,i < k/\p i=p' j):∀{j:Nat},j < k'->∀{i:Nat},i < k->p i=p' j->j<=i
 | 0,_,_,_,_=>bg _
 | j+1,hj,i,hi,e=>by
  obtain i0|hi0|e0:=hs j ();have:=inc_le h1 h2 hs (j:=j) () hi0 e0;have lt:=h2 j (j+1) () hj;rcases nE i0 i with z | z | z
  ·lia
  ·subst z;lia
  ·have:=h1 i i0 z hi0;lia
theorem NU (h1:∀i j,i < j->j < k->p i < p j) (h:i<=j) (hj:j < k):p i<=p j:=by
 rcases cR i j with z | z
 ·exact be (h1 i j z hj)
 ·have:i=j:=()
  rw[this];exact ao _
theorem Kv (h1:∀i j,i < j->j < k->p i < p j) (h2:∀i j,i < j->j < k'->p' i < p' j) (hs:∀j,j < k'->∃i,i < k/\p i=p' j):k'<=k/\∀j,j < k'->p j<=p' j:=by
 refine #[?_,λj hj=>?_]
 ·rcases hZ k' with z | z
  ·lia
  ·obtain i|hi|e:=hs (k' - 1) ();have:=inc_le h1 h2 hs (j:=k' - 1) () hi e
   lia
 ·obtain i|hi|e:=hs j hj;rw[<- e];exact NU h1 (inc_le h1 h2 hs hj hi e) hi
theorem HZ.uniq (h:HZ m n a k p R) (h':HZ m' n a' k' p' R') (s1:∀i,i < m->fK m' a' (a i)) (s2:∀i,i < m'->fK m a (a' i)):k=k'/\(∀j,j < k->p j=p' j)/\∀i,i < k->∀c,R i c=R' i c:=by
 have x1:∀i,i < k->fK k' R' (R i):=λi hi=>fK.trans (λt ht=>h'.span t ht) (fK.trans s1 (h.back i hi))
 have x2:∀i,i < k'->fK k R (R' i):=λi hi=>fK.trans (λt ht=>h.span t ht) (fK.trans s2 (h'.back i hi))
 have y1:∀j,j < k->∃i,i < k'/\p' i=p j:=λj hj=>h'.lead_in (x1 j hj) (by rw[h.unit j hj j hj,if_pos rfl];decide) (h.lead j hj)
 have y2:∀j,j < k'->∃i,i < k/\p i=p' j:=λj hj=>h.lead_in (x2 j hj) (by rw[h'.unit j hj j hj,if_pos rfl];decide) (h'.lead j hj)
 obtain z1|w1:=Kv h'.inc h.inc y1;obtain z2|w2:=Kv h.inc h'.inc y2;have ek:k=k':=Nat.le_antisymm z1 z2;subst ek;have ep:∀j,j < k->p j=p' j:=λj hj=>Nat.le_antisymm (w2 j hj) (w1 j hj)
 refine #[rfl,ep,λi hi c=>?_];rw[h.coef (x2 i hi) c,il hi λj hj ne=>by rw[ep j hj,h'.unit i hi j hj,if_neg (λz=>ne z.symm)];grind,ep i hi,h'.unit i hi i hi,if_pos rfl];grind
end
structure oE (a:Nat->Nat->Rat) (m k P:Nat) (p:Nat->Nat) (l:Nat->Nat->Rat) (d:Rat):Prop where
 km:k<=m
 d0:d≠0
 unit:∀i,i < m->∀j,j < k->l i (p j)=if i=j then d else 0
 inc:∀i j,i < j->j < k->p i < p j
 low:∀j,j < k->p j < P
 zero:∀i,k<=i->i < m->∀c,c < P->l i c=0
 lead:∀j,j < k->∀c,c < p j->l j c=0
 there:∀i,i < m->fK m l (a i)
 back:∀i,i < m->fK m a (l i)
section
variable {m k n P:Nat} {a l l':Nat->Nat->Rat} {p:Nat->Nat} {d d':Rat}
theorem oE.start:oE a m 0 0 p a 1 where
 km:=bg _
 d0:=()
 unit _ _ j hj:=absurd hj ()
 inc _ j _ hj:=absurd hj ()
 low j hj:=absurd hj ()
 zero _ _ _ c hc:=absurd hc ()
 lead j hj:=absurd hj ()
 there i hi:=fK.row hi
 back i hi:=fK.row hi
theorem oE.skip (E:oE a m k P p l d) (h:∀i,k<=i->i < m->l i P=0):oE a m k (P+1) p l d :=
 #[E.km,E.d0,E.unit,E.inc,λj hj=>Nat.lt_succ_of_lt (E.low j hj),λi h1 h2 c hc=>by
  by_cases e:c=P
  ·rw[e];exact h i h1 h2
  ·exact E.zero i h1 h2 c (),E.lead,E.there,E.back]
theorem T2:xC k t (xC k t i)=i:=by
 unfold xC
 split
 ·split <;> (try split) <;> lia
 ·split
  ·rw[if_pos rfl];lia
  ·rfl
theorem oE.swap (E:oE a m k P p l d) {t:Nat} (h:k<=t) (ht:t < m):oE a m k P p (λi=>l (xC k t i)) d where
 km:=E.km
 d0:=E.d0
 unit i hi j hj:=by
  rw[E.unit _ (vz () ht hi) j hj];by_cases hk:i < k
  ·rw[xA h hk]
  ·have:=zW h (show k<=i by lia);rw[if_neg (),if_neg ()]
 inc:=E.inc
 low:=E.low
 zero i h1 h2 c hc:=E.zero _ (zW h h1) (vz () ht h2) c hc
 lead j hj c hc:=by rw[xA h hj];exact E.lead j hj c hc
 there i hi:=fK.trans (λs hs=>fK.congr (λc=>by rw[T2]) (fK.row (a:=λi=>l (xC k t i)) (i:=xC k t s) (vz () ht hs))) (E.there i hi)
 back i hi:=E.back _ (vz () ht hi)
theorem oE.step (E:oE a m k P p l d) (hk:k < m) (h0:d'≠0) (unit':∀i,i < m->∀j,j < k+1->l' i (if j=k then P else p j)=if i=j then d' else 0)
  (hl:∀i,i < m->∃β γ:Rat,β≠0/\(i=k->γ=0)/\∀c,l' i c=β*l i c+γ*l k c):oE a m (k+1) (P+1) (λj=>if j=k then P else p j) l' d' where
 km:=hk
 d0:=h0
 unit:=unit'
 inc i j hij hj:=by
  by_cases e:j=k
  ·rw[if_pos e,if_neg ()];exact E.low i ()
  ·rw[if_neg e,if_neg ()];exact E.inc i j hij ()
 low j hj:=by
  by_cases e:j=k
  ·rw[if_pos e];lia
  ·rw[if_neg e];exact Nat.lt_succ_of_lt (E.low j ())
 zero i h1 h2 c hc:=by
  by_cases e:c=P
  ·have:=unit' i h2 k ();rw[if_pos rfl,if_neg ()] at this;rw[e];exact this
  ·obtain β|γ|_|_|q:=hl i h2;rw[q c,E.zero i () h2 c (),E.zero k (ao _) hk c ()];grind
 lead j hj c hc:=by
  have km:=E.km;obtain β|γ|_|_|q:=hl j ();by_cases e:j=k
  ·rw[if_pos e] at hc;rw[q c,e,E.zero k (ao _) hk c hc];grind
  ·rw[if_neg e] at hc;have:=E.low j ();rw[q c,E.lead j () c hc,E.zero k (ao _) hk c ()];grind
 there i hi:=by
  refine fK.trans (λs hs=>?_) (E.there i hi);obtain β|γ|b0|_|q:=hl s hs;obtain βk|γk|bk0|gk|qk:=hl k hk;have g0:=gk rfl;refine fK.congr (λc=>?_) (fK.lin (1 / β) (-(γ / β) / βk) (fK.row (a:=l') hs) (fK.row (a:=l') hk));rw[q c,qk c,g0];grind
 back i hi:=by
  obtain β|γ|_|_|q:=hl i hi;exact fK.congr (λc=>(q c).symm) (fK.lin β γ (E.back i hi) (E.back k hk))
theorem oE.done (E:oE a m k n p l d) (ha:∀i,i < m->∀c,n<=c->a i c=0):HZ m n a k p (λi c=>l i c / d) where
 inc:=E.inc
 low:=E.low
 unit i hi j hj:=by
  have d0:=E.d0;have km:=E.km;rw[E.unit i () j hj]
  split
  ·grind
  ·grind
 lead i hi c hc:=by
  rw[E.lead i hi c hc];grind
 span i hi:=by
  have d0:=E.d0;refine fK.trans (λs hs=>?_) (E.there i hi);by_cases z:s < k
  ·refine fK.congr (λc=>?_) (fK.lin d 0 (fK.row (a:=λi c=>l i c / d) z) (fK.row (a:=λi c=>l i c / d) z));grind
  ·refine fK.zero λc=>?_
   by_cases hc:c < n
   ·exact E.zero s () hs c hc
   ·obtain w|hw:=E.back s hs;rw[hw c,dm λt ht=>by rw[ha t ht c ()];grind]
 back i hi:=by
  have km:=E.km;have d0:=E.d0;refine fK.congr (λc=>?_) (fK.lin (1 / d) 0 (E.back i ()) (E.back i ()));grind
end
def fJ (ls:List (List Int)) (i c:Nat):Rat:=(((ls.getD i []).getD c 0:Int):Rat)
def cL (rows:LR9) (i c:Nat):Rat:=(rows.getD i []).getD c 0
def o6 (ls:List (List Int)) (k t:Nat):List (List Int):=(ls.set k (ls.getD t [])).set t (ls.getD k [])
def Hw (ls:List (List Int)) (k c:Nat) (b:Int):List (List Int):=(ls.map λzs=>List.zipWith (λx y=>((ls.getD k []).getD c 0*x - zs.getD c 0*y).fdiv b) zs (ls.getD k [])).set k (ls.getD k [])
section
variable {ls ls0:List (List Int)} {k t n P c:Nat} {b d:Int} {ps:List Nat}
theorem sN {α:Type} {l:List α} {x e:α} (hi:i < l.9):(l.set i x).getD j e=if j=i then x else l.getD j e:=by
 rw[ae,ae,List.getElem?_set];by_cases h:j=i
 ·subst h;rw[if_pos rfl,if_pos hi,if_pos rfl];rfl
 ·rw[if_neg (λz=>h z.symm),if_neg h]
theorem xB:(o6 ls k t).9=ls.9:=by unfold o6;rw[d6,d6]
theorem OB:(Hw ls k c b).9=ls.9:=by unfold Hw;rw[d6,aj]
theorem getD_in {α:Type} {l:List α} {e:α} (h:i < l.9):l.getD i e∈l:=by
 rw[ae,af h];exact aK h
theorem JT (w:∀zs∈ls,zs.9=n) (hk:k < ls.9) (ht:t < ls.9):∀zs∈o6 ls k t,zs.9=n:=λzs hz=>by
 unfold o6 at hz;rcases cv hz with h | h
 ·rcases cv h with h | h
  ·exact w zs h
  ·rw[h];exact w _ (getD_in ht)
 ·rw[h];exact w _ (getD_in hk)
theorem KW (w:∀zs∈ls,zs.9=n) (hk:k < ls.9):∀zs∈Hw ls k c b,zs.9=n:=λzs hz=>by
 unfold Hw at hz;rcases cv hz with h | h
 ·obtain y|hy|rfl:=aE.mp h;rw[bD,w y hy,w _ (getD_in hk)]
  lia
 ·rw[h];exact w _ (getD_in hk)
theorem v8 (hk:k < ls.9) (ht:t < ls.9) (i c:Nat):fJ (o6 ls k t) i c=fJ ls (xC k t i) c:=by
 unfold fJ o6 xC;rw[sN (by rw[d6];exact ht),sN hk];by_cases h1:i=t
 ·rw[if_pos h1];by_cases h2:i=k
  ·rw[if_pos h2,<- h1,<- h2]
  ·rw[if_neg h2,if_pos h1]
 ·rw[if_neg h1];by_cases h2:i=k
  ·rw[if_pos h2,if_pos h2]
  ·rw[if_neg h2,if_neg h2,if_neg h1]
theorem BB (w:∀zs∈ls,zs.9=n) (hc:n<=c):fJ ls i c=0:=by
 unfold fJ;by_cases h:i < ls.9
 ·have:=w _ (getD_in (e:=[]) h);rw[ae (l:=ls.getD i []),a8 ()];rfl
 ·rw[ae (l:=ls),a8 ()];rfl
theorem sW {x:Int} (h:(x:Rat)=0):x=0:=by
 have:(x:Rat)=((0:Int):Rat):=h;exact dI.mp this
theorem Jy {x b:Int} (hb:b≠0) (hq:∃z:Int,q=(z:Rat)) (e:(x:Rat)=(b:Rat)*q):((x.fdiv b:Int):Rat)=q:=by
 obtain z|rfl:=hq;rw[<- bc] at e;have:=dI.mp e;rw[this,Int.mul_fdiv_cancel_left _ hb]
theorem vZ (h:Fr 1 W q):∃z:Int,q=(z:Rat):=by
 obtain z|e|_:=h;exact #[z,by rw[<- e];simp]
theorem vn {z:Int} (h:Fr 1 W (z:Rat)):z.natAbs<=W:=by
 obtain y|e|b:=h;have:(z:Rat)=(y:Rat):=by rw[<- e];simp
 rw[dI.mp this];simpa using b
theorem Of (w:∀zs∈ls,zs.9=n) (hk:k < ls.9) (hb:b≠0) (hi:i < ls.9) (hz:∀c,∃z:Int,(fJ ls k P*fJ ls i c - fJ ls i P*fJ ls k c) / (b:Rat)=(z:Rat)) (c:Nat) :
  fJ (Hw ls k P b) i c=if i=k then fJ ls k c else (fJ ls k P*fJ ls i c - fJ ls i P*fJ ls k c) / (b:Rat):=by
 by_cases e:i=k
 ·rw[if_pos e];unfold fJ Hw;rw[sN (by rw[aj];exact hk),if_pos e]
 ·rw[if_neg e];by_cases hc:c < n
  ·have hb':(b:Rat)≠0:=λz=>hb (sW z)
   have lk:=w _ (getD_in (e:=[]) hk);have li:=w _ (getD_in (e:=[]) hi)
   have e1:fJ (Hw ls k P b) i c=(((((ls.getD k []).getD P 0*(ls.getD i []).getD c 0 - (ls.getD i []).getD P 0*(ls.getD k []).getD c 0).fdiv b:Int)):Rat):=by
    unfold Hw;rw[fJ,sN (by rw[aj];exact hk),if_neg e];rw[ae (l:=List.map _ ls),aF,af hi];show ((((List.zipWith _ ls[i] (ls.getD k [])).getD c 0:Int)):Rat)=_
    have ei:ls.getD i []=ls[i]:=by rw[ae,af hi];rfl
    rw[<- ei];rw[ae (l:=List.zipWith _ _ _),bN,ae (l:=ls.getD i []) (i:=c),ae (l:=ls.getD k []) (i:=c),af (show c < (ls.getD i []).9 by lia),af (show c < (ls.getD k []).9 by lia)];rfl
   rw[e1];refine Jy hb (hz c) ?_;rw[Rat.intCast_sub,bc,bc];show _=(b:Rat)*((fJ ls k P*fJ ls i c - fJ ls i P*fJ ls k c) / (b:Rat))
   show fJ ls k P*fJ ls i c - fJ ls i P*fJ ls k c=_
   grind
  ·rw[BB (KW w hk) (show n<=c by lia),BB w (i:=i) (show n<=c by lia),BB w (i:=k) (show n<=c by lia)];grind
end
section
variable {m k n P:Nat} {a l l2:Nat->Nat->Rat} {pm p p2:Nat->Nat} {d:Rat}
theorem Cf.congr (B:Cf a m k pm p l d) (hp:∀j,j < k->p2 j=p j) (hl:∀i,i < m->∀c,l2 i c=l i c):Cf a m k pm p2 l2 d where
 inj:=B.inj
 rng:=B.rng
 km:=B.km
 d0:=B.d0
 det:=by rw[B.det,cw_congr (f:=λj r=>a r (p j)) (g:=λj r=>a r (p2 j)) λj hj=>by rw[hp j hj]]
 eqs i hi c:=by
  have km:=B.km;rw[B.eqs i hi c,hl i hi c];congr 1;exact aY λj hj=>by rw[hp j hj,hl j () c]
 unit i hi j hj:=by rw[hp j hj,hl i hi];exact B.unit i hi j hj
theorem fK.rows (h:∀i,i < m->∀c,l2 i c=l i c) (hx:fK m l x):fK m l2 x:=by obtain w|hw:=hx;exact #[w,λc=>by rw[hw c];exact aY λt ht=>by rw[h t ht c]]
theorem oE.congr (E:oE a m k P p l d) (hp:∀j,j < k->p2 j=p j) (hl:∀i,i < m->∀c,l2 i c=l i c):oE a m k P p2 l2 d where
 km:=E.km
 d0:=E.d0
 unit i hi j hj:=by rw[hp j hj,hl i hi];exact E.unit i hi j hj
 inc i j hij hj:=by rw[hp i (),hp j hj];exact E.inc i j hij hj
 low j hj:=by rw[hp j hj];exact E.low j hj
 zero i h1 h2 c hc:=by rw[hl i h2];exact E.zero i h1 h2 c hc
 lead j hj c hc:=by
  have km:=E.km;rw[hp j hj] at hc;rw[hl j ()];exact E.lead j hj c hc
 there i hi:=(E.there i hi).rows hl
 back i hi:=(E.back i hi).congr λc=>(hl i hi c).symm
theorem oE.kP (E:oE a m k P p l d):k<=P:=by
 have:∀j,j < k->j<=p j:=by
  intro j
  induction j with
  | zero=>intro _;exact bg _
  | succ j ih =>
   intro hj;have:=ih ();have:=E.inc j (j+1) () hj
   lia
 rcases hZ k with z | z
 ·lia
 ·have h1:=this (k - 1) ();have h2:=E.low (k - 1) ()
  lia
end
structure DX (ls0:List (List Int)) (n P:Nat) (ls:List (List Int)) (ps:List Nat) (d:Int):Prop where
 len:ls.9=ls0.9
 wide:∀zs∈ls,zs.9=n
 bar:∃pm,Cf (fJ ls0) ls0.9 ps.9 pm (λj=>ps.getD j 0) (fJ ls) d
 el:oE (fJ ls0) ls0.9 ps.9 P (λj=>ps.getD j 0) (fJ ls) d
section
variable {ls0 ls:List (List Int)} {n P:Nat} {ps:List Nat} {d:Int}
theorem DX.start (w:∀zs∈ls0,zs.9=n):DX ls0 n 0 ls0 [] 1:=#[rfl,w,#[λi=>i,Cf.start λ_ _=>rfl],oE.start]
theorem DX.d0 (h:DX ls0 n P ls ps d):d≠0:=λz=>h.el.d0 (by rw[z];rfl)
theorem DX.skip (h:DX ls0 n P ls ps d) (hz:∀i,ps.9<=i->i < ls.9->fJ ls i P=0):DX ls0 n (P+1) ls ps d:=#[h.len,h.wide,h.bar,h.el.skip λi h1 h2=>hz i h1 (by rw[h.len];exact h2)]
theorem getD_snoc (hj:j < l.9+1):(l++[x]).getD j 0=if j=l.9 then x else l.getD j 0:=by
 rw[ae,ae];by_cases e:j=l.9
 ·rw[if_pos e,e,bp (ao _),fM];rfl
 ·rw[if_neg e,bG ()]
theorem DX.int (h:DX ls0 n P ls ps d) (hW:1<=W) (h0:∀i,i < ls0.9->∀c,Fr 1 W (fJ ls0 i c)) (ht:ps.9<=t) (ht2:t < ls.9) (hne:fJ ls t P≠0) :
  ∀i,i < ls.9->i≠ps.9->∀c,∃z:Int,(fJ (o6 ls ps.9 t) ps.9 P*fJ (o6 ls ps.9 t) i c - fJ (o6 ls ps.9 t) i P*fJ (o6 ls ps.9 t) ps.9 c) / (d:Rat)=(z:Rat):=λi hi ne c=>by
 obtain pm|B:=h.bar;have hl:=h.len;have hk:ps.9 < ls.9:=()
 have B1:=(B.swap ht ()).congr (p2:=λj=>ps.getD j 0) (l2:=fJ (o6 ls ps.9 t)) (λ_ _=>rfl) (λi _ c=>v8 hk ht2 i c)
 have h1:fJ (o6 ls ps.9 t) ps.9 P≠0:=by
  rw[v8 hk ht2];unfold xC;rw[if_pos rfl];exact hne
 have B2:=B1.step (c0:=P) () h1;have:=B2.fr (W:=W) (N:=ps.9+2) () hW h0 (i:=i) (c:=c) ();rw[if_neg ne] at this;exact vZ this
theorem DX.step (h:DX ls0 n P ls ps d) (hW:1<=W) (h0:∀i,i < ls0.9->∀c,Fr 1 W (fJ ls0 i c)) (ht:ps.9<=t) (ht2:t < ls.9) (hne:fJ ls t P≠0) :
  DX ls0 n (P+1) (Hw (o6 ls ps.9 t) ps.9 P d) (ps++[P]) (((Hw (o6 ls ps.9 t) ps.9 P d).getD ps.9 []).getD P 0):=by
 obtain pm|B:=h.bar;have hl:=h.len;have hk:ps.9 < ls.9:=()
 have hz:=h.int hW h0 ht ht2 hne;have w1:=JT h.wide hk ht2;have k1:ps.9 < (o6 ls ps.9 t).9:=by rw[xB];exact hk
 have B1:=(B.swap ht ()).congr (p2:=λj=>ps.getD j 0) (l2:=fJ (o6 ls ps.9 t)) (λ_ _=>rfl) (λi _ c=>v8 hk ht2 i c);have E1:=(h.el.swap ht ()).congr (p2:=λj=>ps.getD j 0) (l2:=fJ (o6 ls ps.9 t)) (λ_ _=>rfl) (λi _ c=>v8 hk ht2 i c)
 have h1:fJ (o6 ls ps.9 t) ps.9 P≠0:=by
  rw[v8 hk ht2];unfold xC;rw[if_pos rfl];exact hne
 have B2:=B1.step (c0:=P) () h1
 have fc:∀i,i < ls0.9->∀c,fJ (Hw (o6 ls ps.9 t) ps.9 P d) i c=if i=ps.9 then fJ (o6 ls ps.9 t) ps.9 c else (fJ (o6 ls ps.9 t) ps.9 P*fJ (o6 ls ps.9 t) i c - fJ (o6 ls ps.9 t) i P*fJ (o6 ls ps.9 t) ps.9 c) / (d:Rat):=λi hi c=>by
  by_cases e:i=ps.9
  ·rw[if_pos e];unfold fJ Hw;rw[sN (by rw[aj];exact k1),if_pos e]
  ·have:=Of w1 k1 h.d0 (i:=i) (by rw[xB];lia) (hz i () e) c;rw[this]
 have ed:(((((Hw (o6 ls ps.9 t) ps.9 P d).getD ps.9 []).getD P 0:Int)):Rat)=fJ (o6 ls ps.9 t) ps.9 P:=by
  have:=fc ps.9 () P;rw[if_pos rfl] at this;exact this
 have lp:(ps++[P]).9=ps.9+1:=by rw[aw];rfl
 have hp:∀j,j < ps.9+1->(ps++[P]).getD j 0=if j=ps.9 then P else ps.getD j 0:=λj hj=>getD_snoc hj
 refine #[by rw[OB,xB];exact hl,KW w1 k1,#[λi=>pm (xC ps.9 t i),?_],?_]
 ·rw[ed,lp];exact B2.congr hp fc
 ·rw[ed,lp];refine oE.congr (E1.step (d':=fJ (o6 ls ps.9 t) ps.9 P) (l':=λi c=>if i=ps.9 then fJ (o6 ls ps.9 t) ps.9 c else (fJ (o6 ls ps.9 t) ps.9 P*fJ (o6 ls ps.9 t) i c - fJ (o6 ls ps.9 t) i P*fJ (o6 ls ps.9 t) ps.9 c) / (d:Rat)) () h1 B2.unit λi hi=>?_) hp fc;have d0:=h.el.d0;by_cases e:i=ps.9
  ·refine #[1,0,(),λ_=>rfl,λc=>?_];rw[if_pos e,e];grind
  ·refine #[fJ (o6 ls ps.9 t) ps.9 P / (d:Rat),-(fJ (o6 ls ps.9 t) i P) / (d:Rat),?_,λz=>absurd z e,λc=>?_]
   ·intro z;apply h1;grind
   ·rw[if_neg e];grind
theorem DX.sz (h:DX ls0 n P ls ps d) (hW:1<=W) (h0:∀i,i < ls0.9->∀c,Fr 1 W (fJ ls0 i c)) (hP:P<=n) (hr:min ls0.9 n<=r) (r15:r<=15):(d.natAbs<=(16*W)^r)/\∀zs∈ls,∀z∈zs,z.natAbs<=(16*W)^r:=by
 obtain pm|B:=h.bar;have kP:=h.el.kP;have km:=B.km;have hl:=h.len;have mono:∀{s t:Nat},s<=t->(16*W)^s<=(16*W)^t:=λhs=>au (a7 () hW) hs
 refine #[ag (vn (B.dfr (W:=W) (N:=16) () h0)) (mono ()),λzs hz z hz'=>?_];obtain i|hi|rfl:=bE hz;obtain c|hc|rfl:=bE hz';have hw:=h.wide _ (aK hi)
 have ez:fJ ls i c=(((ls[i])[c]:Int):Rat):=by
  unfold fJ;rw[ae (l:=ls),af hi];show ((ls[i].getD c 0:Int):Rat)=_
  rw[ae,af hc];rfl
 by_cases hk:i < ps.9
 ·have:Fr 1 ((16*W)^ps.9) (fJ ls i c):=by
   have hd:=B.d0;rw[B.old hk]
   have:=BD (W:=W) (N:=16) (rs:=k9 pm ps.9) (vs:=DF (λj r=>fJ ls0 r (ps.getD j 0)) i ps.9++(λr=>fJ ls0 r c) :: iZ (λj r=>fJ ls0 r (ps.getD j 0)) i) (by
    have:=congrArg List.length (cw_split (v:=λj r=>fJ ls0 r (ps.getD j 0)) hk);rw[aw,bO,cw_len] at this;rw[aw,bO]
    lia) (by
    intro v hv r hr
    have hr':∀c,Fr 1 W (fJ ls0 r c):=λc=>by
     obtain t|ht|rfl:=mB hr;exact h0 _ (B.rng t ()) c
    rcases aA.mp hv with hv | hv
    ·obtain t|_|rfl:=Hu hv;exact hr' _
    ·rcases aG.mp hv with rfl | hv
     ·exact hr' _
     ·obtain t|_|rfl:=cw_in hv;exact hr' _)
   rwa [uY] at this
  rw[ez] at this;exact ag (vn this) (mono ())
 ·by_cases hn:ps.9 < n
  ·have:=B.fr (W:=W) (N:=16) () hW h0 (i:=i) (c:=c) ();rw[ez] at this;exact ag (vn this) (mono ())
  ·have:=h.el.zero i () () c ();rw[ez] at this;rw[sW this];exact bg _
end
def Tp (M W:Nat) (q:Rat):Prop:=∃z:Int,q*(M:Rat)=(z:Rat)/\z.natAbs<=W
theorem Tp.of {M V W:Nat} (h:Fr M V q) (hW:V*M<=W):Tp M W q:=by obtain z|a|b:=h;exact #[z,a,ag b hW]
theorem Tp.mono (h:Tp M W q) (hW:W<=W'):Tp M W' q:=by obtain z|a|b:=h;exact #[z,a,ag b hW]
theorem Tp.fr (h:Tp M W q) (h0:0 < M):Fr M W q:=by obtain z|a|b:=h;exact #[z,a,ag b (c7 _ h0)]
def DY (rows:LR9) (n w:Nat):Prop:=∃M W:Nat,0 < M/\M<=2^4300000/\1<=W/\W<=2^w/\(∀xs∈rows,∀x∈xs,Tp M W x)/\w<=4300000/\min rows.9 n<=15/\min rows.9 n*(w+4)<=8900000
def kS (xs:List Rat):List Int:=dO (xs.map nm) (ft (xs.map nm))
theorem vw:(kS xs).9=xs.9:=by unfold kS dO;rw[aj,aj]
theorem BO {xs:List Rat}:0 < ft (xs.map nm):=Bs () λb hb=>by
 obtain n|hn|rfl:=aE.mp hb;obtain x|_|rfl:=aE.mp hn;exact iT x
theorem O7:(((kS xs).getD c 0:Int):Rat)=xs.getD c 0*((ft (xs.map nm):Int):Rat):=by
 unfold kS dO;rw[ae,ae,aF,aF];cases e:xs[c]? with
 | none=>show ((0:Int):Rat)=0*_;rw[js];rfl
 | some x=>exact rf (sX (aE.mpr #[x,av e,rfl]))
section
variable {rows:LR9} {n w i c:Nat} {xs:List Rat}
theorem FI (hi:i < rows.9):fJ (rows.map kS) i c=((ft ((rows.getD i []).map nm):Int):Rat)*cL rows i c:=by
 unfold fJ cL
 have e:(rows.map kS).getD i []=kS (rows.getD i []):=by
  rw[ae,ae,aF,af hi];rfl
 rw[e,O7,eO]
theorem E5 (hw:∀xs∈rows,xs.9=n) (hc:n<=c):cL rows i c=0:=by
 unfold cL;by_cases h:i < rows.9
 ·have:=hw _ (getD_in (e:=[]) h);rw[ae (l:=rows.getD i []),a8 ()];rfl
 ·rw[ae (l:=rows),a8 ()];rfl
theorem JM (i:Nat) (hi:i < rows.9):fK rows.9 (fJ (rows.map kS)) (cL rows i):=by
 have h0:((ft ((rows.getD i []).map nm):Int):Rat)≠0:=λz=>by
  have:=BO (xs:=rows.getD i []);have:=sW z
  lia
 refine fK.congr (λc=>?_) (fK.lin (1 / ((ft ((rows.getD i []).map nm):Int):Rat)) 0 (fK.row (a:=fJ (rows.map kS)) hi) (fK.row (a:=fJ (rows.map kS)) hi));rw[FI hi];grind
theorem JL (i:Nat) (hi:i < rows.9):fK rows.9 (cL rows) (fJ (rows.map kS) i):=by
 refine fK.congr (λc=>?_) (fK.lin ((ft ((rows.getD i []).map nm):Int):Rat) 0 (fK.row (a:=cL rows) hi) (fK.row (a:=cL rows) hi));rw[FI hi];grind
theorem uN (h:Tp M W x):(nm x).2∣(M:Int):=by
 obtain z|e|b:=h
 exact Fr.den (V:=z.natAbs) (M:=M) #[z,e,by
  rcases hZ M with h | h
  ·subst h;have:(z:Rat)=0:=by rw[<- e];simp
   rw[sW this];simp
  ·exact c7 _ h]
theorem Am (h:Tp M W x) (h0:0 < M) (hB:0 < B) (d1:(nm x).2∣B) (d2:B∣(M:Int)):∃t:Int,x*(B:Rat)=(t:Rat)/\t.natAbs<=W:=by
 obtain z|e|b:=h;obtain s|es:=d2;refine #[(nm x).1*(B / (nm x).2),(rf d1).symm,?_]
 have s0:0 < s:=by
  rcases Int.lt_trichotomy s 0 with h | h | h
  ·have:=Int.mul_neg_of_pos_of_neg hB h
   lia
  ·rw[h] at es;lia
  ·exact h
 have e2:(((nm x).1*(B / (nm x).2)*s:Int):Rat)=(z:Rat):=by
  rw[bc,rf d1,<- e,<- aS,es,bc];grind
 have e3:=dI.mp e2;have:((nm x).1*(B / (nm x).2)).natAbs*s.natAbs=z.natAbs:=by rw[<- dk,e3]
 have h1:1<=s.natAbs:=()
 have:=c7 ((nm x).1*(B / (nm x).2)).natAbs h1
 lia
theorem KY (h0:0 < M) (h:∀x∈xs,Tp M W x):ft (xs.map nm)∣(M:Int):=Aa () (Int.one_dvd _) λb hb=>by
 obtain n|hn|rfl:=aE.mp hb;obtain x|hx|rfl:=aE.mp hn;exact #[iT x,uN (h x hx)]
theorem DY.rowM (F:DY rows n w) (hx:xs∈rows):∃M,Ia M (xs.map nm):=by
 obtain M|W|h0|h1|hW|h2|h3|h4|_:=F;refine #[M,(),?_,λy hy=>?_]
 ·show ((M:Nat):Int).natAbs < 2^4400000
  rw[bW];exact bx h1 (dc () ())
 ·obtain x|hx'|rfl:=aE.mp hy;have t:=h3 xs hx x hx';refine #[iT x,uN t,?_];obtain s|e|b:=Am t h0 (iT x) (Lc _) (uN t);have e2:(((nm x).1:Int):Rat)=(s:Rat):=by rw[<- e];exact jU x
  rw[dI.mp e2];exact bx (ag b h2) (dc () ())
theorem DY.ent (F:DY rows n w):∃W:Nat,1<=W/\W<=2^w/\∀i,i < (rows.map kS).9->∀c,Fr 1 W (fJ (rows.map kS) i c):=by
 obtain M|W|h0|h1|hW|h2|h3|h4|_:=F;refine #[W,hW,h2,λi hi c=>?_];rw[aj] at hi;have hx:=getD_in (e:=[]) hi;rw[FI hi];unfold cL;generalize rows.getD i []=xs at hx ⊢;by_cases hc:c < xs.9
 ·have t:=h3 xs hx _ (getD_in (e:=0) hc);obtain s|e|b:=Am t h0 (BO (xs:=xs)) (sX (aE.mpr #[_,getD_in (e:=0) hc,rfl])) (KY h0 (h3 xs hx));rw[eO,e];exact Fr.int b
 ·rw[ae,a8 ()];show Fr 1 W (_*0)
  rw[gM];exact Fr.zero
end
def cC (rows:LR9) (n:Nat) (R:LR9) (ps:List Nat):Prop:=R.9=ps.9/\(∀xs∈R,xs.9=n)/\HZ rows.9 n (cL rows) ps.9 (λj=>ps.getD j 0) (cL R)
structure Vn (rows:LR9) (n w:Nat) (R:LR9) (ps:List Nat) (d:Int) (ls:List (List Int)):Prop where
 rr:cC rows n R ps
 d0:d≠0
 len:ls.9=ps.9
 wide:∀zs∈ls,zs.9=n
 val:∀i c,fJ ls i c=(d:Rat)*cL R i c
 dsz:d.natAbs<=2^(min rows.9 n*(w+4))
 zsz:∀zs∈ls,∀z∈zs,z.natAbs<=2^(min rows.9 n*(w+4))
 tp:∀xs∈R,∀x∈xs,Tp d.natAbs (2^(min rows.9 n*(w+4))) x
 km:ps.9<=rows.9
theorem HZ.congrR {a R R2:Nat->Nat->Rat} (h:HZ m n a k p R) (hr:∀i,i < k->∀c,R2 i c=R i c):HZ m n a k p R2 :=
 #[h.inc,h.low,λi hi j hj=>by rw[hr i hi];exact h.unit i hi j hj,λi hi c hc=>by rw[hr i hi];exact h.lead i hi c hc,λi hi=>(h.span i hi).rows hr,λi hi=>(h.back i hi).congr λc=>(hr i hi c).symm]
theorem HZ.other (h:HZ m n a k p R) (s1:∀i,i < m->fK m' a' (a i)) (s2:∀i,i < m'->fK m a (a' i)):HZ m' n a' k p R :=
 #[h.inc,h.low,h.unit,h.lead,λi hi=>fK.trans h.span (s2 i hi),λi hi=>fK.trans s1 (h.back i hi)]
theorem IY (h:W<=2^w):(16*W)^r<=2^(r*(w+4)):=by
 calc (16*W)^r<=(2^(w+4))^r:=lA (by rw[aB];lia) _
  _=2^(r*(w+4)):=by rw[<- qR,bY]
theorem DX.done (h:DX (rows.map kS) n n ls ps d) (hw:∀xs∈rows,xs.9=n) (F:DY rows n w) :
  ∃R,Vn rows n w R ps d (ls.take ps.9):=by
 obtain W|hW|W2|ent:=F.ent;obtain _|_|_|_|_|_|_|_|r15|_:=F;have hl:=h.len;have d0:=h.d0;have d0':(d:Rat)≠0:=λz=>d0 (sW z)
 have km:=h.el.km;have hm:(rows.map kS).9=rows.9:=aj ..;obtain s1|s2:=h.sz (r:=min rows.9 n) hW ent (ao _) (by rw[hm];exact ao _) r15;have s2':∀zs∈ls,∀z∈zs,z.natAbs<=2^(min rows.9 n*(w+4)):=λzs hz z hz'=>ag (s2 zs hz z hz') (IY W2)
 have er:∀i c,cL ((ls.take ps.9).map λzs=>zs.map λ(z:Int)=>(z:Rat) / (d:Rat)) i c=fJ (ls.take ps.9) i c / (d:Rat):=λi c=>by
  unfold cL fJ;rw[ae (l:=List.map _ _),aF,ae (l:=List.take _ _)];cases e:(ls.take ps.9)[i]? with
  | none=>show (0:Rat)=((0:Int):Rat) / _;grind
  | some zs =>
   show (zs.map λ(z:Int)=>(z:Rat) / (d:Rat)).getD c 0=((zs.getD c 0:Int):Rat) / (d:Rat)
   rw[ae,ae,aF];cases e2:zs[c]? with
   | none=>show (0:Rat)=((0:Int):Rat) / _;grind
   | some z=>rfl
 have et:∀i,i < ps.9->∀c,fJ (ls.take ps.9) i c=fJ ls i c:=λi hi c=>by
  unfold fJ;rw[ae (l:=List.take _ _),lH hi,<- ae]
 have RR:=(h.el.done λi hi c hc=>BB (n:=n) (λzs hz=>by
  obtain xs|hx|rfl:=aE.mp hz;rw[vw];exact hw xs hx) hc).congrR (R2:=cL ((ls.take ps.9).map λzs=>zs.map λ(z:Int)=>(z:Rat) / (d:Rat))) λi hi c=>by rw[er,et i hi]
 rw[hm] at RR;refine #[(ls.take ps.9).map λzs=>zs.map λ(z:Int)=>(z:Rat) / (d:Rat),#[by rw[aj,cN];lia,λxs hx=>?_,RR.other JL JM],d0,by rw[cN];lia,λzs hz=>h.wide zs (cK hz),λi c=>?_,ag s1 (IY W2),λzs hz=>s2' zs (cK hz),λxs hx x hx'=>?_,()]
 ·obtain zs|hz|rfl:=aE.mp hx;rw[aj];exact h.wide zs (cK hz)
 ·rw[er];grind
 ·obtain zs|hz|rfl:=aE.mp hx;obtain z|hz'|rfl:=aE.mp hx';have b:=s2' zs (cK hz) z hz';rcases TC d with e | e
  ·refine #[z,?_,b];have:((d.natAbs:Nat):Rat)=(d:Rat):=by rw[<- aS,<- e]
   rw[this];grind
  ·refine #[-z,?_,by rw[uL];exact b];have:((d.natAbs:Nat):Rat)=-(d:Rat):=by rw[<- aS,<- dZ];congr 1;lia
   rw[this,dZ];grind
theorem Od (hl:R.9=R'.9) (w1:∀xs∈R,xs.9=n) (w2:∀xs∈R',xs.9=n) (h:∀i,i < R.9->∀c,cL R i c=cL R' i c):R=R':=by
 apply fD hl;intro i h1 h2;apply fD (by rw[w1 _ (aK h1),w2 _ (aK h2)]);intro c h3 h4;have:=h i h1 c;unfold cL at this;rw[ae (l:=R),ae (l:=R'),af h1,af h2] at this;have this:(R[i]).getD c 0=(R'[i]).getD c 0:=this;rw[ae,ae,af h3,af h4] at this;exact this
theorem cC.uniq (h:cC rows n R ps) (h':cC rows' n R' ps') (s1:∀i,i < rows.9->fK rows'.9 (cL rows') (cL rows i)) (s2:∀i,i < rows'.9->fK rows.9 (cL rows) (cL rows' i)):R=R'/\ps=ps':=by
 obtain l1|w1|r1:=h;obtain l2|w2|r2:=h';obtain ek|ep|eR:=r1.uniq r2 s1 s2;refine #[Od () w1 w2 λi hi c=>eR i () c,?_];apply fD ek;intro j h1 h2;have:=ep j h1;rw[ae,ae,af h1,af h2] at this;exact this
theorem cC.same (h:cC rows n R ps) (h':cC rows n R' ps'):R=R'/\ps=ps':=h.uniq h' (λ_ hi=>fK.row hi) (λ_ hi=>fK.row hi)
open PySem PySem.Spec PyProof.Rows
def K7 (l:Addr) (H:Hp) (zs:List Int) (v:V):Prop:=∃q,v=V.ref q/\q≠l/\H q=some (.lst (zs.map V.int))
def tq (l:Addr) (H:Hp) (p:Addr) (ls:List (List Int)):Prop:=p≠l/\∃xs,H p=some (.lst xs)/\Paired (K7 l H) ls xs
theorem K7.same (h:K7 l H zs v) (e:aH H H'):K7 l H' zs v:=by obtain q|a|n|b:=h;exact #[q,a,n,e _ _ b]
theorem K7.upd {l:Addr} {H:Hp} {zs:List Int} {v:V} {o:HO} (h:K7 l H zs v):K7 l (upd H l o) zs v:=by obtain q|a|n|b:=h;exact #[q,a,n,by rw[bM n];exact b]
theorem tq.upd {l:Addr} {H:Hp} {p:Addr} {ls:List (List Int)} {o:HO} (h:tq l H p ls):tq l (upd H l o) p ls:=by obtain n|xs|a|b:=h;exact #[n,xs,by rw[bM n];exact a,Paired.imp' (λ_ _ z=>z.upd) b]
theorem ne_old {H:Hp} (h:H l≠none) (n:H r=none):r≠l:=λz=>h (by rw[<- z];exact n)
theorem kx {α β:Type} {F:α->β->Prop}:∀{l1:List α} {l2:List β} (_:Paired F l1 l2) (i:Nat) {x:α} {y:β},F x y->Paired F (l1.set i x) (l2.set i y)
 | _,_,.nil,_,_,_,_=>.nil
 | _,_,.cons _ r,0,_,_,h=>.cons h r
 | _,_,.cons a r,i+1,_,_,h=>.cons a (kx r i h)
theorem My (h:ls[i]?=some zs):fJ ls i c=((zs.getD c 0:Int):Rat):=by
 unfold fJ;rw[ae (l:=ls),h];rfl
theorem U5:((z:Int):Rat)≠0↔z≠0:=#[λh e=>h (by rw[e];rfl),λh e=>h (sW e)]
theorem Aj {zs:List Int} (h:c < zs.9):Ir (zs.map V.int) (c:Int)=some (V.int (zs.getD c 0)):=iH (by rw[aF,ae,af h];rfl)
inductive Di (vs:List V) (H:Hp) (Q:VK) (E9:XK):Prop
 | mk (l p:Addr) (ls:List (List Int)) (b c:Nat):vs=[.ref p,.int b,.int c]->tq l H p ls->ls.9<=1000->b<=1000->(∀zs∈ls,c < zs.9)->(∀t:Nat,b<=t->t < ls.9->fJ ls t c≠0->Q (.int t) H)->((∀t,b<=t->t < ls.9->fJ ls t c=0)->Q .non H)->Di  vs H Q E9
inductive yC (vs:List V) (H:Hp) (Q:VK) (E9:XK):Prop
 | mk (l p:Addr) (ls:List (List Int)) (t k:Nat):vs=[.ref p,.int t,.int k]->H l≠none->tq l H p ls->ls.9<=1000->t < ls.9->k < ls.9->(∀r H',H r=none->aH H H'->tq l H' r (o6 ls k t)->Q (.ref r) H')->yC  vs H Q E9
inductive Dj (vs:List V) (H:Hp) (Q:VK) (E9:XK):Prop
 | mk (l p:Addr) (ls:List (List Int)) (k c n:Nat) (b:Int):vs=[.ref p,.int k,.int c,.int b]->H l≠none->tq l H p ls->ls.9<=1000->k < ls.9->(∀zs∈ls,zs.9=n)->n<=1000->c < n->b≠0->Sz 8999000 b->(∀zs∈ls,∀z∈zs,Sz 8999000 z)->(∀r H',H r=none->aH H H'->tq l H' r (Hw ls k c b)->Q (.ref r) H')->Dj  vs H Q E9
theorem Nq (K:FG9) {X:Cx} {a b:Expr} {ta:TA} {p pos tpos:Pos} {elts:List Expr} {kk:Nat} (hg:Gl X "zip") (hm:X.mg "zip"=none) (ha:PA X [a,b] ta) (hK:X.K=K:=by rfl) (hs:starEach [a,b] X.env=[(false,eval a X.env),(false,eval b X.env)]:=by rfl) (hs2:starEach [b] X.env=[(false,eval b X.env)]:=by rfl) :
  PI X (.Tuple elts kk tpos) (.Call (.Name "zip" p) [a,b] [] pos) (S4 K ta):=by subst hK;exact pO hg hm ha hs hs2
def kW (ps:List Nat):List V:=ps.map λ(j:Nat)=>V.int (j:Int)
inductive C3 (K:FG9) (vs:List V) (H:Hp) (Q:VK) (E9:XK):Prop
 | mk (p:Addr) (n w:Nat) (H0:Hp) (rows:LR9):vs=[.ref p,.int n]->bL K H0 H p rows->rows.9<=100->n<=100->(∀xs∈rows,xs.9=n)->DY rows n w->(∀t lp qp R ps d ls H',H' t=some (.tup [.ref lp,.ref qp])->H' qp=some (.lst (kW ps))->tq qp H' lp ls->aH H H'->Vn rows n w R ps d ls->Q (.ref t) H')->C3 K vs H Q E9
inductive yB (K:FG9) (vs:List V) (H:Hp) (Q:VK) (E9:XK):Prop
 | mk (p:Addr) (n w:Nat) (H0:Hp) (rows:LR9):vs=[.ref p,.int n]->bL K H0 H p rows->rows.9<=100->n<=100->(∀xs∈rows,xs.9=n)->DY rows n w->(∀r R ps M H',H r=none->aH H H'->bL K H H' r R->cC rows n R ps->ps.9<=rows.9->0 < M->M<=2^(min rows.9 n*(w+4))->(∀xs∈R,∀x∈xs,Tp M (2^(min rows.9 n*(w+4))) x)->Q (.ref r) H')->yB K vs H Q E9
def OC (rows:LR9) (i:Nat):Rat:=((ft ((rows.getD i []).map nm):Int):Rat)
section
variable {rows rs rs':LR9} {n P w a:Nat} {ps:List Nat}
end
theorem xy (h:Tp M W x) (h0:0 < M) (h1:M<=2^3995000) (h2:W<=2^3995000):iI x:=by
 refine #[?_,?_]
 ·obtain s|e|b:=Am h h0 (iT x) (Lc _) (uN h);have e2:(((nm x).1:Int):Rat)=(s:Rat):=by rw[<- e];exact jU x
  rw[dI.mp e2];exact bx (ag b h2) (dc () ())
 ·have:=jJ h0 (zK.mp (uN h));show ((x.den:Nat):Int).natAbs < _
  rw[bW];exact bx (ag this h1) (dc () ())
theorem Tp.mul (h:Tp M W x) (h':Tp M' W' y):Tp (M*M') (W*W') (x*y):=by
 obtain z|e|b:=h;obtain z'|e'|b':=h';refine #[z*z',?_,by rw[dk];exact ay b b'];rw[bc,<- e,<- e',iD];grind
inductive xG (K:FG9) (vs:List V) (H:Hp) (Q:VK) (E9:XK):Prop
 | mk (p q:Addr) (xs ys:List Rat):vs=[.ref p,.ref q]->bV K H p xs->bV K H q ys->ys.9=xs.9->xs.9<=1000->(∀x∈xs,iI x)->(∀y∈ys,iI y)->(∀r H',H r=none->aH H H'->bV K H' r (List.zipWith (λx y=>x - y) xs ys)->Q (.ref r) H')->xG K vs H Q E9
theorem IC {xs ys:List Rat} (h:ys.9=xs.9):List.zipWith (λx y=>x - y) xs ys=(List.range xs.9).map λi=>xs.getD i 0 - ys.getD i 0:=by
 apply iK;intro i;rw[bN,aF];by_cases hi:i < xs.9
 ·rw[cJ hi,af hi,af (show i < ys.9 by lia)];simp [ae,af hi,af (show i < ys.9 by lia)]
 ·rw[a8 (show (List.range xs.9).9<=i by simp;lia),a8 (show xs.9<=i by lia)];rfl
theorem yi {K:FG9} {rows:LR9} (pr:Paired (dB K H0 H) rows vs) (s:aH H H') (n:H q=none) (g:H' q=some (.lst vs)):bL K H0 H' q rows :=
 #[vs,g,Paired.imp' (λ_ _ z=>z.same s) pr,λz=>by
  obtain _|_|q'|e|_|_|g'|_:=cX pr z;cases e;rw[n] at g';cases g']
theorem cC.le (h:cC rows n R ps):ps.9<=n:=by
 obtain _|_|rr:=h;rcases cR n ps.9 with z | z
 ·have inc:∀j,j < ps.9->j<=ps.getD j 0:=by
   intro j
   induction j with
   | zero=>intro _;exact bg _
   | succ j ih =>
    intro hj;have:=ih ();have:=rr.inc j (j+1) () hj
    lia
  have h1:=inc (ps.9 - 1) ();have h2:=rr.low (ps.9 - 1) ()
  lia
 ·exact z
theorem Tp.zero:Tp M W 0:=#[0,by simp,by simp]
theorem Tp.add (h:Tp M W x) (h':Tp M W' y):Tp M (W+W') (x+y):=by
 obtain z|e|b:=h;obtain z'|e'|b':=h';refine #[z+z',?_,ag (Int.natAbs_add_le _ _) (Nat.add_le_add b b')];rw[Cg,<- e,<- e'];grind
theorem Tp.sum {M W:Nat} {f:Nat->Rat}:∀{k:Nat},(∀j,j < k->Tp M W (f j))->Tp M (k*W) (bS k f)
 | 0,_=>Tp.zero
 | k+1,h=>by
  have:=(Tp.sum (k:=k) λj hj=>h j ()).add (h k ());exact this.mono (by rw[dw];exact ao _)
theorem iE {xs:List Rat} (h:∀x∈xs,Tp M W x) (c:Nat):Tp M W (xs.getD c 0):=by
 by_cases hc:c < xs.9
 ·exact h _ (getD_in hc)
 ·rw[ae,a8 ()];exact Tp.zero
theorem TJ (h:∀xs∈R,∀x∈xs,Tp M W x) (i c:Nat):Tp M W (cL R i c):=by
 unfold cL;by_cases hi:i < R.9
 ·exact iE (h _ (getD_in hi)) c
 ·rw[ae (l:=R),a8 ()];exact Tp.zero
theorem NV {j:Nat}:U0 (.int (j:Int)) (kW ps)=decide (j∈ps):=by
 unfold U0 kW;rw[List.any_map,lW,List.any_eq_true,decide_eq_true_iff];constructor
 ·rintro ⟨x,hx,e⟩;have e:((x:Int) == (j:Int))=true:=e;have:(x:Int)=j:=by simpa using e
  have:x=j:=()
  rw[<- this];exact hx
 ·intro h;exact #[j,h,by show ((j:Int) == (j:Int))=true;simp]
theorem LO:(kW ps).all oK=true:=by
 unfold kW;rw[List.all_map];exact o5.mpr λ_ _=>rfl
theorem NC:(kW ps).9=ps.9:=aj ..
theorem Qo {i:Nat} (h:(kW ps)[i]?=some v):∃j,ps[i]?=some j/\v=V.int (j:Int):=by
 unfold kW at h;rw[aF] at h;cases e:ps[i]? with
 | none=>rw[e] at h;cases h
 | some x=>rw[e] at h;exact #[x,rfl,(cn h).symm]
section
variable {R rows:LR9} {ps:List Nat} {n a j:Nat}
theorem c8:∀{xs ys:List Rat},xs.9=ys.9->cm xs ys=bS xs.9 λc=>xs.getD c 0*ys.getD c 0:=by
 intro xs ys h
 have key:∀k,k<=xs.9->cm (xs.take k) (ys.take k)=bS k λc=>xs.getD c 0*ys.getD c 0:=by
  intro k
  induction k with
  | zero=>intro _;rfl
  | succ k ih =>
   intro hk;rw[Dx () (),ih ()];rfl
 have:=key xs.9 (ao _);rwa [aJ (ao _),aJ ()] at this
end
def Ut:Kind Str where
 R:=λ_ _ x i=>x=.str i
 d:=0
 inj:=λ_ h1 h2=>by rw[h1] at h2;cases h2;rfl
 rc:=λ{X pins σ H s x y v u a b A} I rx ry h1 h2 _=>by
  subst h1 h2;obtain t|rfl:=rx;obtain t'|rfl:=ry;have q:=SeqAt.RcAt.str_str (A:=A) (s:=s) a t b t';rwa [ik] at q
 ne:=λ{X pins σ H s x y v u a b A} I rx ry h1 h2 _=>by
  subst h1 h2;obtain t|rfl:=rx;obtain t'|rfl:=ry;have q:=SeqAt.RcNeAt.str_str (A:=A) (s:=s) a t b t';rwa [ik] at q
 eq:=λ{X pins σ H s x y v u a b A} I rx ry h1 h2 _=>by
  subst h1 h2;obtain t|rfl:=rx;obtain t'|rfl:=ry;have q:=SeqAt.EqAt.str_str (A:=A) (s:=s) a t b t';rwa [ik] at q
theorem KI {q:Rat} (h:q.den<=9):q.den∣2520:=by
 have:=q.den_pos;generalize q.den=d at h this;have:d=1\/d=2\/d=3\/d=4\/d=5\/d=6\/d=7\/d=8\/d=9:=()
 rcases this with rfl | rfl | rfl | rfl | rfl | rfl | rfl | rfl | rfl <;> decide
theorem Jz (h:Dr 9 q) (hM:2520∣M):Fr M 9 q:=(Fr.own q h.1).dvd (gX (KI h.2) hM)
def c6 (rows:LR9) (due:List Rat):LR9:=List.zipWith (λrow d=>row++[d]) rows due
def vB (R:LR9) (ps:List Nat) (n j:Nat):List Rat:=(List.range n).map λc=>bS j λi=>if ps.getD i 0=c then cL R i n else 0
def ia (R:LR9) (ps:List Nat) (n:Nat):List Rat:=vB R ps n ps.9
section
variable {rows R:LR9} {due xs:List Rat} {ps:List Nat} {n j:Nat}
theorem kF (h:due.9=rows.9):(c6 rows due).9=rows.9:=by unfold c6;rw[bD];lia
theorem EY (h:∀xs∈rows,xs.9=n):∀xs∈c6 rows due,xs.9=n+1:=λxs hx=>by
 unfold c6 at hx;obtain i|hi|rfl:=bE hx;rw[dg,aw,h _ (aK _)];rfl
theorem Q7 {i:Nat} (h1:rows[i]?=some row) (h2:due[i]?=some d):(c6 rows due)[i]?=some (row++[d]):=by
 unfold c6;rw[bN,h1,h2]
theorem yI (hd:due.9=rows.9) (hw:∀xs∈rows,xs.9=n) (hi:i < rows.9):(∀c,c < n->cL (c6 rows due) i c=cL rows i c)/\cL (c6 rows due) i n=due.getD i 0:=by
 have e1:=af hi;have e2:=af (show i < due.9 by lia);have ej:=Q7 e1 e2;have wi:=hw _ (aK hi);refine #[λc hc=>?_,?_]
 ·unfold cL;rw[ae (l:=c6 rows due),ej,ae (l:=rows),e1];show (rows[i]++[due[i]]).getD c 0=(rows[i]).getD c 0
  rw[ae,ae,bG ()]
 ·unfold cL;rw[ae (l:=c6 rows due),ej,ae (l:=due),e2];show (rows[i]++[due[i]]).getD n 0=due[i]
  rw[ae,bp (),wi,fM];rfl
theorem ib:(vB R ps n j).9=n:=by unfold vB;rw[aj,bZ]
theorem MS (h:c < n):(vB R ps n j).getD c 0=bS j λi=>if ps.getD i 0=c then cL R i n else 0:=by
 unfold vB;rw[ae,aF,cJ h];rfl
theorem Pf:vB R ps n 0=List.replicate n 0:=by
 unfold vB;show (List.range n).map (λ_=>(0:Rat))=_
 rw[Cj,bZ]
theorem Pg (RR:cC J (n+1) R ps) (hj:j < ps.9):(vB R ps n j).set (ps.getD j 0) (cL R j n)=vB R ps n (j+1):=by
 obtain _|_|rr:=RR;apply fD (by rw[d6,ib,ib]);intro c h1 h2;rw[ib] at h2;have e1:(vB R ps n j)[c]'(by rw[ib];exact h2)=bS j λi=>if ps.getD i 0=c then cL R i n else 0:=by simp only[vB,oZ,List.getElem_range]
 have e2:(vB R ps n (j+1))[c]'(by rw[ib];exact h2)=bS j (λi=>if ps.getD i 0=c then cL R i n else 0)+if ps.getD j 0=c then cL R j n else 0:=by simp only[vB,oZ,List.getElem_range];rfl
 rw[List.getElem_set,e2];by_cases q:ps.getD j 0=c
 ·rw[if_pos q,if_pos q,dm λi hi=>?_,Rat.zero_add];rw[if_neg];intro z;have:=rr.inc i j hi hj
  lia
 ·rw[if_neg q,if_neg q,e1,tO]
theorem Ph (hp:c∉ps):(ia R ps n).getD c 0=0:=by
 by_cases hc:c < n
 ·unfold ia;rw[MS hc,dm λi hi=>?_];rw[if_neg (λz=>hp (by rw[<- z];exact getD_in hi))]
 ·rw[ae,a8 (by unfold ia;rw[ib];lia)];rfl
theorem Eg (hd:due.9=rows.9) (hw:∀xs∈rows,xs.9=n) (RR:cC (c6 rows due) (n+1) R ps) (hn:n∉ps) (hr:rows[i]?=some row):cm row (ia R ps n)=due.getD i 0:=by
 obtain _|_|rr:=RR;have hi:=(aM.mp hr).1;have wr:=hw row (av hr);have ef:∀c,cL rows i c=row.getD c 0:=λc=>by unfold cL;rw[ae (l:=rows),hr];rfl
 obtain f1|f2:=yI hd hw hi
 have low:∀j,j < ps.9->ps.getD j 0 < n:=λj hj=>by
  have:=rr.low j hj;have:ps.getD j 0≠n:=λz=>hn (by rw[<- z];exact getD_in hj)
  lia
 have co:=rr.coef (rr.span i (by rw[kF hd];exact hi)) n;rw[f2] at co;rw[co,c8 (by unfold ia;rw[ib,wr]),wr]
 have e1:bS n (λc=>row.getD c 0*(ia R ps n).getD c 0)=bS n (λc=>bS ps.9 λj=>if ps.getD j 0=c then row.getD (ps.getD j 0) 0*cL R j n else 0):=by
  refine aY λc hc=>?_
  unfold ia;rw[MS hc,<- cW];refine aY λj _=>?_
  split
  ·rename_i q;rw[q]
  ·grind
 rw[e1,<- gP];refine aY λj hj=>?_
 rw[il (i:=ps.getD j 0) (low j hj) λc _ ne=>if_neg λz=>ne z.symm,if_pos rfl,f1 _ (low j hj),ef]
theorem AD (hd:due.9=rows.9) (hw:∀xs∈rows,xs.9=n) (RR:cC (c6 rows due) (n+1) R ps) (hn:n∈ps):∃w:Nat->Rat,(∀c,c < n->bS rows.9 (λi=>w i*cL rows i c)=0)/\bS rows.9 (λi=>w i*due.getD i 0)=1:=by
 obtain _|_|rr:=RR;obtain j|hj|ej:=bE hn;have ejD:ps.getD j 0=n:=by rw[ae,af hj];exact ej
 obtain w|hw':=rr.back j hj;rw[kF hd] at hw';refine #[w,λc hc=>?_,?_]
 ·have z:=rr.lead j hj c (by rw[ejD];exact hc);rw[hw' c] at z;rw[<- z];exact aY λi hi=>by rw[(yI hd hw hi).1 c hc]
 ·have u:=rr.unit j hj j hj;rw[if_pos rfl,ejD,hw' n] at u;rw[<- u];exact aY λi hi=>by rw[(yI hd hw hi).2]
theorem RT (hd:due.9=rows.9) (hw:∀xs∈rows,xs.9=n) (RR:cC (c6 rows due) (n+1) R ps) {x:Nat->Rat} (hx:∀i,i < rows.9->bS n (λc=>cL rows i c*x c)=due.getD i 0):n∉ps:=λhn=>by
 obtain w|h1|h2:=AD hd hw RR hn
 have e1:bS rows.9 (λi=>w i*due.getD i 0)=bS rows.9 (λi=>bS n λc=>x c*(w i*cL rows i c)):=aY λi hi=>by
  rw[<- hx i hi,<- cW];exact aY λc _=>by grind
 have e2:bS n (λc=>bS rows.9 λi=>x c*(w i*cL rows i c))=0:=dm λc hc=>by
  rw[cW,h1 c hc];grind
 rw[e1,gP,e2] at h2;exact absurd h2 ()
theorem T5 (h0:0 < M) (tp:∀xs∈R,∀x∈xs,Tp M W x) (RR:cC J (n+1) R ps):∀x∈ia R ps n,Tp M W x:=λx hx=>by
 obtain _|_|rr:=RR;obtain c|hc|rfl:=aE.mp hx;by_cases hp:∃j,j < ps.9/\ps.getD j 0=c
 ·obtain j|hj|e:=hp;rw[il hj λi hi ne=>if_neg λz=>?_,if_pos e]
  ·exact TJ tp j n
  ·rcases nE i j with q | q | q
   ·have:=rr.inc i j q hj;lia
   ·exact ne q
   ·have:=rr.inc j i q hi;lia
 ·rw[dm λj hj=>if_neg λz=>hp #[j,hj,z]];exact Tp.zero
end
inductive Ar (K:FG9) (vs:List V) (H:Hp) (Q:VK) (E9:XK):Prop
 | mk (p q:Addr) (n w:Nat) (H0:Hp) (rows:LR9) (due:List Rat):vs=[.ref p,.int n,.ref q]->bL K H0 H p rows->bV K H q due->due.9=rows.9->rows.9<=99->n<=99->(∀xs∈rows,xs.9=n)->DY (c6 rows due) (n+1) w->((∀x R ps M H',cC (c6 rows due) (n+1) R ps->n∉ps->H x=none->aH H H'->bV K H' x (ia R ps n)->0 < M->M<=2^(min rows.9 (n+1)*(w+4))->(∀y∈ia R ps n,Tp M (2^(min rows.9 (n+1)*(w+4))) y)->Q (.ref x) H')/\(∀R ps H',cC (c6 rows due) (n+1) R ps->n∈ps->aH H H'->Q .non H'))->Ar K vs H Q E9
def Ea (rows:LR9) (n:Nat) (due:List Rat):LR9:=c6 (cp rows n++[due]) (List.replicate n 0++[1])
inductive C5 (K:FG9) (vs:List V) (H:Hp) (Q:VK) (E9:XK):Prop
 | mk (p q:Addr) (n w w':Nat) (H0:Hp) (rows:LR9) (due:List Rat):vs=[.ref p,.int n,.ref q]->bL K H0 H p rows->bV K H q due->due.9=rows.9->rows.9<=90->n<=90->(∀xs∈rows,xs.9=n)->DY (c6 rows due) (n+1) w->DY (Ea rows n due) (rows.9+1) w'->((∀t x R ps M H',cC (c6 rows due) (n+1) R ps->n∉ps->H' t=some (.tup [.str (Str.ofString "yes"),.ref x])->H x=none->aH H H'->bV K H' x (ia R ps n)->0 < M->M<=2^(min rows.9 (n+1)*(w+4))->(∀y∈ia R ps n,Tp M (2^(min rows.9 (n+1)*(w+4))) y)->Q (.ref t) H')/\(∀t x R ps R' ps' M H',cC (c6 rows due) (n+1) R ps->n∈ps->cC (Ea rows n due) (rows.9+1) R' ps'->rows.9∉ps'->H' t=some (.tup [.str (Str.ofString "no"),.ref x])->H x=none->aH H H'->bV K H' x (ia R' ps' rows.9)->0 < M->M<=2^(min (n+1) (rows.9+1)*(w'+4))->(∀y∈ia R' ps' rows.9,Tp M (2^(min (n+1) (rows.9+1)*(w'+4))) y)->Q (.ref t) H'))->C5 K vs H Q E9
theorem Ly (hd:due.9=rows.9) (hw:∀xs∈rows,xs.9=n) (RR:cC (c6 rows due) (n+1) R ps) (hn:n∈ps) (RR':cC (Ea rows n due) (rows.9+1) R' ps'):rows.9∉ps':=by
 obtain w|h1|h2:=AD hd hw RR hn;have l1:(cp rows n++[due]).9=n+1:=by rw[aw,cx];rfl
 have w1:∀xs∈cp rows n++[due],xs.9=rows.9:=λxs hx=>by
  rcases aA.mp hx with hx | hx
  ·exact gO xs hx
  ·rw[bA.mp hx];exact hd
 refine RT (x:=w) (by rw[l1,aw,aQ];rfl) w1 RR' λi hi=>?_
 rw[l1] at hi;by_cases e:i < n
 ·have e1:∀c,cL (cp rows n++[due]) i c=cL rows c i:=λc=>by
   unfold cL;rw[ae (l:=cp rows n++[due]),bG (by rw[cx];exact e)];unfold cp;rw[aF,cJ e];show (rows.map λxs=>xs.getD i 0).getD c 0=_
   rw[ae,aF,ae (l:=rows)];cases rows[c]? with
   | none=>rfl
   | some y=>rfl
  have e2:(List.replicate n (0:Rat)++[1]).getD i 0=0:=by
   rw[ae,bG (by rw[aQ];exact e),gh,if_pos e];rfl
  rw[e2,<- h1 i e];exact aY λc _=>by rw[e1];grind
 ·have ei:i=n:=()
  subst ei
  have e1:∀c,cL (cp rows i++[due]) i c=due.getD c 0:=λc=>by
   unfold cL;rw[ae (l:=cp rows i++[due]),bp (by rw[cx];exact ao _),cx,fM];rfl
  have e2:(List.replicate i (0:Rat)++[1]).getD i 0=1:=by
   rw[ae,bp (by rw[aQ];exact ao _),aQ,fM];rfl
  rw[e2,<- h2];exact aY λc _=>by rw[e1];grind
theorem NJ:((List.range n).map λ_=>(0:Rat))=List.replicate n 0:=by rw[Cj,bZ]
def RQ (K:FG9):Sp:=λvs H Q _=>∃m:Nat,vs=[.int m]/\m<=100/\∀r H',H r=none->aH H H'->bV K H' r (List.replicate m 0)->Q (.ref r) H'
def UX (rows:LR9) (ws:List Rat) (n j:Nat):List Rat:=(List.range n).map λc=>bS j λi=>ws.getD i 0*cL rows i c
def O3 (rows:LR9) (ws:List Rat) (n:Nat):List Rat:=UX rows ws n ws.9
section
variable {rows:LR9} {ws xs row:List Rat} {n j:Nat}
theorem Mz:(UX rows ws n j).9=n:=by unfold UX;rw[aj,bZ]
theorem zU (hc:c < n):(O3 rows ws n).getD c 0=bS ws.9 λi=>ws.getD i 0*cL rows i c:=by
 unfold O3 UX;rw[ae,aF,cJ hc];rfl
theorem GW (h:xs.9=ws.9):cm xs ws=cm ws xs:=by
 rw[c8 h,c8 h.symm,h];exact aY λc _=>eO ..
theorem qZ (hc:c < n):(cp rows n)[c]?=some (rows.map λxs=>xs.getD c 0):=by
 unfold cp;rw[aF,cJ hc];rfl
theorem SN:(rows.map λxs=>xs.getD c 0).getD i 0=cL rows i c:=by
 unfold cL;rw[ae,aF,ae (l:=rows)];cases rows[i]? with
 | none=>rfl
 | some y=>rfl
theorem Le (hl:row.9=n) (RR:cC (c6 (cp rows n) row) (rows.9+1) R ps) (hn:rows.9∉ps):O3 rows (ia R ps rows.9) n=row:=by
 have ls:(ia R ps rows.9).9=rows.9:=ib;apply fD (by unfold O3;rw[Mz,hl]);intro c h1 h2;have hc:c < n:=()
 have d:=Eg (rows:=cp rows n) (by rw[cx,hl]) (λxs hx=>gO xs hx) RR hn (qZ hc);have e:=zU (rows:=rows) (ws:=ia R ps rows.9) hc;have e1:(O3 rows (ia R ps rows.9) n).getD c 0=(O3 rows (ia R ps rows.9) n)[c]:=by rw[ae,af h1];rfl
 have e2:row.getD c 0=row[c]:=by rw[ae,af h2];rfl
 rw[<- e1,<- e2,e,<- d,c8 (by rw[aj,ls]),aj,ls];exact aY λi _=>by rw[SN];grind
theorem Lx (hw:∀xs∈rows,xs.9=n) (hl:row.9=n) (RR:cC (c6 (rows++[row]) (List.replicate rows.9 0++[1])) (n+1) R ps) (hn:n∉ps):cm (ia R ps n) row=1/\∀xs∈rows,cm xs (ia R ps n)=0:=by
 have l1:(List.replicate rows.9 (0:Rat)++[1]).9=(rows++[row]).9:=by rw[aw,aw,aQ];rfl
 have w1:∀xs∈rows++[row],xs.9=n:=λxs hx=>by
  rcases aA.mp hx with hx | hx
  ·exact hw xs hx
  ·rw[bA.mp hx];exact hl
 have ls:(ia R ps n).9=n:=ib;refine #[?_,λxs hx=>?_]
 ·have:=Eg l1 w1 RR hn (i:=rows.9) (row:=row) (by rw[bp (ao _),fM];rfl);rw[GW (by rw[ls,hl]),this,ae,bp (by rw[aQ];exact ao _),aQ,fM];rfl
 ·obtain i|hi|rfl:=bE hx;have:=Eg l1 w1 RR hn (i:=i) (row:=rows[i]) (by rw[bG hi,af hi]);rw[this,ae,bG (by rw[aQ];exact hi),gh,if_pos hi];rfl
end
theorem Fr.up {M V M' V':Nat} (h:Fr M V x) (hd:M∣M') (hv:V<=V'):Fr M' V' x:=(h.dvd hd).mono hv
section
variable {rows R:LR9} {due:List Rat} {ps:List Nat} {n:Nat}
theorem Oy (hd:due.9=rows.9) (hw:∀xs∈rows,xs.9=n) (RR:cC (c6 rows due) (n+1) R ps) (hn:n∉ps):cC rows n (R.map λxs=>xs.take n) ps:=by
 obtain l1|w1|rr:=RR
 have low:∀j,j < ps.9->ps.getD j 0 < n:=λj hj=>by
  have:=rr.low j hj;have:ps.getD j 0≠n:=λz=>hn (by rw[<- z];exact getD_in hj)
  lia
 have ef:∀i c,c < n->cL (R.map λxs=>xs.take n) i c=cL R i c:=λi c hc=>by
  unfold cL;rw[ae (l:=List.map _ R),aF,ae (l:=R)];cases R[i]? with
  | none=>rfl
  | some xs =>
   show (xs.take n).getD c 0=xs.getD c 0
   rw[ae,ae,lH hc]
 have wT:∀xs∈R.map (λxs=>xs.take n),xs.9=n:=λxs hx=>by
  obtain y|hy|rfl:=aE.mp hx;rw[cN,w1 y hy]
  lia
 have far:∀i c,n<=c->cL (R.map λxs=>xs.take n) i c=0:=λi c hc=>E5 wT hc
 refine #[by rw[aj];exact l1,wT,rr.inc,low,λi hi j hj=>?_,λi hi c hc=>?_,λi hi=>?_,λi hi=>?_]
 ·rw[ef i _ (low j hj)];exact rr.unit i hi j hj
 ·have:=low i hi;rw[ef i c ()];exact rr.lead i hi c hc
 ·obtain w|hw':=rr.span i (by rw[kF hd];exact hi);refine #[w,λc=>?_];by_cases hc:c < n
  ·rw[<- (yI hd hw hi).1 c hc,hw' c];exact aY λj _=>by rw[ef j c hc]
  ·rw[E5 hw (),dm λj _=>by rw[far j c ()];grind]
 ·obtain w|hw':=rr.back i hi;rw[kF hd] at hw';refine #[w,λc=>?_];by_cases hc:c < n
  ·rw[ef i c hc,hw' c];exact aY λj hj=>by rw[(yI hd hw hj).1 c hc]
  ·rw[far i c (),dm λj _=>by rw[E5 hw ()];grind]
theorem Qw {M V D B:Nat} (h:ys.9=xs.9) (hx:∀x∈xs,Fr M V x) (hy:∀y∈ys,Fr D B y):Fr (M*D) (xs.9*(V*B)) (cm xs ys):=by
 rw[c8 h.symm]
 have key:∀j,j<=xs.9->Fr (M*D) (j*(V*B)) (bS j λc=>xs.getD c 0*ys.getD c 0):=by
  intro j
  induction j with
  | zero=>intro _;exact Fr.zero
  | succ j ih =>
   intro hj;exact ((ih ()).add ((hx _ (getD_in ())).mul (hy _ (getD_in ())))).mono (Nat.le_of_eq (dw j (V*B)).symm)
 exact key _ (ao _)
end
def Mc (K:FG9) (P:Addr->Prop) (H:Hp) (xs:List Rat) (v:V):Prop:=∃q,v=.ref q/\P q/\bV K H q xs
section
variable {K:FG9} {P:Addr->Prop} {H H':Hp} {xs:List Rat} {v:V} {b l:Addr}
theorem Mc.updL (h:Mc K P H xs v) (hl:H l=some (.lst ys)) (nb:∀q,P q->q≠l):Mc K P (upd H l o) xs v:=by obtain q|a|c|d:=h;exact #[q,a,c,d.updL hl (nb q c)]
theorem bL.ofE {rows:LR9} (g:H l=some (.lst us)) (h:Paired (Mc K P H) rows us) (h0:∀q,P q->H0 q=none) (hn:∀q,P q->q≠l):bL K H0 H l rows :=
 #[us,g,Paired.imp' (λ_ _ #[q,a,c,d]=>#[q,a,h0 q c,d]) h,λz=>by
  obtain _|_|q|e|c|_:=cX h z;cases e;exact hn _ c rfl]
end
theorem yE {α β:Type} {F G:α->β->Prop}:∀{l1:List α} {l2:List β},(∀a b,b∈l2->F a b->G a b)->Paired F l1 l2->Paired G l1 l2
 | _,_,_,.nil=>.nil
 | _,_,h,.cons a r=>.cons (h _ _ (by simp) a) (yE (λx y hy=>h x y (by simp [hy])) r)
section
variable {rows rows' R R':LR9} {n w W:Nat} {ps ps':List Nat}
theorem C1 (hw:∀xs∈rows,xs.9=n) (hW:1<=W) (ent:∀i,i < (rows.map kS).9->∀c,Fr 1 W (fJ (rows.map kS) i c)):∀P,P<=n->∃ls ps d,DX (rows.map kS) n P ls ps d:=by
 intro P
 induction P with
 | zero=>intro _;exact #[_,_,_,DX.start λzs hz=>by obtain x|hx|rfl:=aE.mp hz;rw[vw];exact hw x hx]
 | succ P ih =>
  intro hP;obtain ls|ps|d|I:=ih ();by_cases e:∃t,ps.9<=t/\t < ls.9/\fJ ls t P≠0
  ·obtain t|h1|h2|h3:=e;exact #[_,_,_,I.step hW ent h1 h2 h3]
  ·exact #[_,_,_,I.skip λi h1 h2=>by
    by_cases z:fJ ls i P=0
    ·exact z
    ·exact absurd #[i,h1,h2,z] e]
theorem Dn (hw:∀xs∈rows,xs.9=n) (F:DY rows n w):∃R ps d ls,Vn rows n w R ps d ls:=by
 obtain W|hW|W2|ent:=F.ent;obtain ls|ps|d|I:=C1 hw hW ent n (ao _);obtain R|S:=I.done hw F;exact #[R,ps,d,_,S]
theorem T9 (hw:∀xs∈rows,xs.9=n) (F:DY rows n w) (RR:cC rows n R ps):ps.9<=rows.9/\∃M,0 < M/\M<=2^(min rows.9 n*(w+4))/\∀xs∈R,∀x∈xs,Tp M (2^(min rows.9 n*(w+4))) x:=by
 obtain R2|ps2|d|ls|S:=Dn hw F;obtain rfl|rfl:=S.rr.same RR;exact #[S.km,d.natAbs,Int.natAbs_pos.mpr S.d0,S.dsz,S.tp]
theorem LZ {p q:Nat->Nat} (hp:∀i j,i < j->j < k->p i < p j) (hq:∀i j,i < j->j < k->q i < q j) (hs:∀i,i < k->∃j,j < k/\q j=p i):∀i,i < k->p i=q i:=by
 have hqm:∀i j,i<=j->j < k->q i<=q j:=λi j h hj=>by
  rcases cR i j with z | z
  ·exact be (hq i j z hj)
  ·have:i=j:=()
   rw[this];exact ao _
 have hqi:∀i j,i < k->j < k->q i < q j->i < j:=λi j hi hj h=>by
  rcases cR i j with z | z
  ·exact z
  ·have:=hqm j i z hi
   lia
 have key:∀i,i < k->∀j,j < k->q j=p i->i<=j:=by
  intro i
  induction i with
  | zero=>intro _ j _ _;exact bg _
  | succ i ih =>
   intro hi j hj e;obtain j'|hj'|e':=hs i ();have h1:=ih () j' hj' e';have h2:=hp i (i+1) () hi;have:=hqi j' j hj' hj ()
   lia
 have key2:∀t i,i+t+1=k->∀j,j < k->q j=p i->j<=i:=by
  intro t
  induction t with
  | zero=>intro i e j hj _;lia
  | succ t ih =>
   intro i e j hj ej;obtain j'|hj'|e':=hs (i+1) ();have h1:=ih (i+1) () j' hj' e';have h2:=hp i (i+1) () ();have:=hqi j j' hj hj' ()
   lia
 intro i hi;obtain j|hj|e:=hs i hi;have h1:=key i hi j hj e;have h2:=key2 (k - 1 - i) i () j hj e;have:j=i:=()
 rw[<- e,this]
theorem Lr (h:cC rows n R ps) (h':cC rows' n R' ps') (hl:ps.9=ps'.9) (hs:∀i,i < ps.9->fK ps'.9 (cL R') (cL R i)):R=R'/\ps=ps':=by
 obtain l1|w1|r1:=h;obtain l2|w2|r2:=h'
 have ep:∀i,i < ps.9->ps.getD i 0=ps'.getD i 0:=LZ r1.inc (by rw[hl];exact r2.inc) λi hi=>by
  have u:=r1.unit i hi i hi;rw[if_pos rfl] at u;obtain j|hj|e:=r2.lead_in (hs i hi) (c:=ps.getD i 0) (by rw[u];decide) (λc hc=>r1.lead i hi c hc);exact #[j,(),e]
 have eps:ps=ps':=by
  apply fD hl;intro i a b;have:=ep i a;rw[ae,ae,af a,af b] at this;exact this
 refine #[Od (n:=n) () w1 w2 λi hi c=>?_,eps];rw[l1] at hi;rw[r2.coef (hs i hi) c,<- hl,il hi λj hj hj'=>?_]
 ·rw[<- ep i hi];have u:=r1.unit i hi i hi;rw[if_pos rfl] at u;rw[u];grind
 ·rw[<- ep j hj];have u:=r1.unit i hi j hj;rw[if_neg (Ne.symm hj')] at u;rw[u];grind
end
def qW (mv:LR9) (x:List Rat):List Rat:=mv.map λxs=>cm xs x
def kry (mv pt:LR9):Nat->LR9
 | 0=>[]
 | t+1=>pt++(kry mv pt t).map (qW mv)
section
variable {mv pt R R' S X Y:LR9} {n t m i c:Nat} {ps ps':List Nat} {a:Nat->Nat->Rat}
theorem ED:(qW mv x).9=mv.9:=aj ..
theorem Nx (lm:mv.9=n) (wm:∀xs∈mv,xs.9=n) (wR:∀xs∈R,xs.9=n) (hi:i < R.9) (c:Nat):cL (R.map (qW mv)) i c=bS n λj=>cL mv c j*cL R i j:=by
 have wi:=wR _ (aK hi);have e1:(R.map (qW mv)).getD i []=qW mv R[i]:=by rw[ae,aF,af hi];rfl
 have e2:R.getD i []=R[i]:=by rw[ae,af hi];rfl
 by_cases hc:c < n
 ·have wc:=wm _ (aK (show c < mv.9 by lia));have e3:mv.getD c []=mv[c]'():=by rw[ae,af ()];rfl
  have e4:(qW mv R[i]).getD c 0=cm (mv[c]'()) R[i]:=by
   unfold qW;rw[ae,aF,af ()];rfl
  unfold cL;rw[e1,e2,e3,e4,c8 (),wc]
 ·have e3:mv.getD c []=[]:=by rw[ae,a8 ()];rfl
  unfold cL
  rw[e1,e3,ae,a8 (by rw[ED];lia),dm λj _=>by
   show ([]:List Rat).getD j 0*_=0
   rw[ae];show (0:Rat)*_=0
   grind]
  rfl
theorem II (lm:mv.9=n) (wm:∀xs∈mv,xs.9=n) (wR:∀xs∈R,xs.9=n) (wS:∀xs∈S,xs.9=n) (hi:i < R.9) (h:fK S.9 (cL S) (cL R i)):fK (S.map (qW mv)).9 (cL (S.map (qW mv))) (cL (R.map (qW mv)) i):=by
 obtain w|hw:=h;refine #[w,λc=>?_];rw[Nx lm wm wR hi,aj]
 have e1:bS n (λj=>cL mv c j*cL R i j)=bS n (λj=>bS S.9 λs=>w s*(cL mv c j*cL S s j)):=aY λj _=>by
  rw[hw j,<- cW];exact aY λs _=>by grind
 rw[e1,gP];exact aY λs hs=>by rw[cW,Nx lm wm wS hs]
theorem OE (h:i < X.9):cL (X++Y) i=cL X i:=by
 funext c;unfold cL;rw[ae (l:=X++Y),bG h,<- ae]
theorem QF:cL (X++Y) (X.9+i)=cL Y i:=by
 funext c;unfold cL;rw[ae (l:=X++Y),bp (),show X.9+i - X.9=i by lia,<- ae]
theorem Ec (h1:∀i,i < X.9->fK m a (cL X i)) (h2:∀i,i < Y.9->fK m a (cL Y i)):∀i,i < (X++Y).9->fK m a (cL (X++Y) i):=λi hi=>by
 rw[aw] at hi;by_cases h:i < X.9
 ·rw[OE h];exact h1 i h
 ·obtain ⟨j,rfl⟩:∃j,i=X.9+j:=#[i - X.9,()];rw[QF];exact h2 j ()
theorem Ao (h:i < X.9):fK (X++Y).9 (cL (X++Y)) (cL X i):=by
 have:=fK.row (a:=cL (X++Y)) (m:=(X++Y).9) (i:=i) (by rw[aw];lia);rwa [OE h] at this
theorem xE (h:fK Y.9 (cL Y) x):fK (X++Y).9 (cL (X++Y)) x:=fK.trans (λs hs=>by
 have:=fK.row (a:=cL (X++Y)) (m:=(X++Y).9) (i:=X.9+s) (by rw[aw];lia);rwa [QF] at this) h
theorem fj (lm:mv.9=n) (wp:∀xs∈pt,xs.9=n):∀t,∀xs∈kry mv pt t,xs.9=n:=by
 intro t
 induction t with
 | zero=>intro xs hx;cases hx
 | succ t ih =>
  intro xs hx;rcases aA.mp hx with hx | hx
  ·exact wp xs hx
  ·obtain y|_|rfl:=aE.mp hx;rw[ED,lm]
theorem Bu (lm:mv.9=n) (wm:∀xs∈mv,xs.9=n) (wp:∀xs∈pt,xs.9=n) (RR:cC (kry mv pt t) n R ps) (RR':cC (pt++R.map (qW mv)) n R' ps'):cC (kry mv pt (t+1)) n R' ps':=by
 have wk:=fj (mv:=mv) lm wp t;refine #[RR'.1,RR'.2.1,RR'.2.2.other ?_ ?_]
 ·refine Ec (λi hi=>Ao hi) λi hi=>xE ?_
  rw[aj] at hi;exact II lm wm RR.2.1 wk hi (RR.2.2.back i (by rw[<- RR.1];exact hi))
 ·refine Ec (λi hi=>Ao hi) λi hi=>xE ?_
  rw[aj] at hi;have:=RR.2.2.span i hi;rw[<- RR.1] at this;exact II lm wm wk RR.2.1 hi this
theorem NQ (lm:mv.9=n) (wm:∀xs∈mv,xs.9=n) (wp:∀xs∈pt,xs.9=n):∀t i,i < (kry mv pt t).9->fK (kry mv pt (t+1)).9 (cL (kry mv pt (t+1))) (cL (kry mv pt t) i):=by
 intro t
 induction t with
 | zero=>intro i hi;cases hi
 | succ t ih =>
  refine Ec (λi hi=>Ao hi) λi hi=>xE ?_
  rw[aj] at hi;exact II lm wm (fj lm wp t) (fj lm wp (t+1)) hi (ih i hi)
theorem Bt (lm:mv.9=n) (wm:∀xs∈mv,xs.9=n) (wp:∀xs∈pt,xs.9=n) (RR:cC (kry mv pt t) n R ps) (RR':cC (kry mv pt (t+1)) n R' ps'):∀i,i < ps.9->fK ps'.9 (cL R') (cL R i):=λi hi =>
 fK.trans (λs hs=>RR'.2.2.span s hs) (fK.trans (NQ lm wm wp t) (RR.2.2.back i hi))
theorem LV (lm:mv.9=n) (wm:∀xs∈mv,xs.9=n) (wp:∀xs∈pt,xs.9=n) (RR:cC (kry mv pt t) n R ps) (RR':cC (pt++R.map (qW mv)) n R' ps') (hl:ps'.9=ps.9):∀s,cC (kry mv pt (t+s)) n R ps:=by
 have K1:=Bu lm wm wp RR RR';obtain e1|e2:=Lr RR K1 hl.symm (Bt lm wm wp RR K1);subst e1 e2;intro s
 induction s with
 | zero=>exact RR
 | succ s ih=>exact Bu lm wm wp ih RR'
theorem NR (lm:mv.9=n) (wm:∀xs∈mv,xs.9=n) (wp:∀xs∈pt,xs.9=n) (RR:cC (kry mv pt t) n R ps) (RR':cC (kry mv pt (t+1)) n R' ps'):ps.9<=ps'.9:=by
 have h:=Bt lm wm wp RR RR'
 have hs:∀i,i < ps.9->∃j,j < ps'.9/\ps'.getD j 0=ps.getD i 0:=λi hi=>by
  have u:=RR.2.2.unit i hi i hi;rw[if_pos rfl] at u;exact RR'.2.2.lead_in (h i hi) (c:=ps.getD i 0) (by rw[u];decide) (λc hc=>RR.2.2.lead i hi c hc)
 rcases cR ps'.9 ps.9 with z | z
 ·exfalso
  have key:∀i,i < ps.9->∀j,j < ps'.9->ps'.getD j 0=ps.getD i 0->i<=j:=by
   intro i
   induction i with
   | zero=>intro _ j _ _;exact bg _
   | succ i ih =>
    intro hi j hj e;obtain j'|hj'|e':=hs i ();have h1:=ih () j' hj' e';have h2:=RR.2.2.inc i (i+1) () hi;rcases cR j' j with y | y
    ·lia
    ·rcases cR j j' with x | x
     ·have:=RR'.2.2.inc j j' x hj'
      lia
     ·have:j=j':=()
      rw[this] at e
      lia
  obtain j|hj|e:=hs (ps.9 - 1) ();have:=key (ps.9 - 1) () j hj e
  lia
 ·exact z
theorem SU {M V c:Nat} (lm:mv.9=n) (wm:∀xs∈mv,xs.9=n) (wp:∀xs∈pt,xs.9=n) (hc:(n+1)*V<=2^c) (fm:GF M V mv) (fp:GF M V pt):∀t,∀xs∈kry mv pt t,∀x∈xs,Fr (M^t) (2^(c*t)) x:=by
 intro t
 induction t with
 | zero=>intro xs hx;cases hx
 | succ t ih =>
  intro xs hx x hx';have hV:V<=2^c:=ag (di _ ()) hc;rcases aA.mp hx with hx | hx
  ·refine Fr.up (fp xs hx x hx') (by rw[eP];exact cM _ _) (ag hV (au () (c7 _ ())))
  ·obtain y|hy|rfl:=aE.mp hx;unfold qW at hx';obtain r|hr|rfl:=aE.mp hx';have wr:=wm r hr;have wy:=fj (mv:=mv) lm wp t y hy;have f:=Qw () (fm r hr) (ih y hy);rw[eP,bY (M^t)];refine f.mono ?_;rw[dC,ON,aB,bY (2^(c*t)),<- cu,wr];exact aD _ (ag (aD _ ()) hc)
def qV (mv pt:LR9) (a c:Nat):Prop:=∃M V:Nat,0 < M/\M<=2^a/\(mv.9+1)*V<=2^c/\GF M V mv/\GF M V pt/\a<=400/\c<=40/\mv.9*(mv.9*(a+c)+4)<=1740/\mv.9*(mv.9*(mv.9*(a+c)+4)+a+c+4)<=8900000
theorem qV.swf {a c:Nat} (F:qV mv pt a c) (D:mv.9<=8) (wm:∀xs∈mv,xs.9=mv.9) (wp:∀xs∈pt,xs.9=mv.9) (ht:t<=mv.9):DY (kry mv pt t) mv.9 (mv.9*(a+c)):=by
 obtain M|V|M0|Ma|hV|fm|fp|a3|c3|e14|e89:=F;have f:=SU rfl wm wp hV fm fp t;have h1:mv.9*(a+c)<=8*440:=ay D ();have hM:M^t<=2^(a*mv.9):=ag (lA Ma _) (by rw[<- qR];exact au () (ax _ ht));have h2:a*mv.9<=mv.9*(a+c):=by rw[bY];exact ax _ ()
 have h3:mv.9=0\/mv.9*(a+c)<=1740:=by
  rcases hZ mv.9 with z | z
  ·exact .inl z
  ·right
   have:=di (mv.9*(a+c)+4) z
   lia
 have h4:mv.9*(a+c)<=1740:=by
  rcases h3 with z | z
  ·rw[z];lia
  ·exact z
 refine #[M^t,2^(mv.9*(a+c)),dq M0,ag hM (au () ()),dh,ao _,λxs hx x hx'=>Tp.of (f xs hx x hx') ?_,(),(),?_]
 ·refine ag (ay (au () (ax c ht)) hM) ?_;rw[<- aB];refine au () ?_;rw[bY c,bY a,<- dC,nF c];exact ao _
 ·exact ag (aD _ (zJ _ _)) ()
theorem qV.tp {a c:Nat} (F:qV mv pt a c) (D:mv.9<=8) (wm:∀xs∈mv,xs.9=mv.9) (wp:∀xs∈pt,xs.9=mv.9) (ht:t<=mv.9) (RR:cC (kry mv pt t) mv.9 R ps):∃M,0 < M/\M<=2^(mv.9*(mv.9*(a+c)+4))/\∀xs∈R,∀x∈xs,Tp M (2^(mv.9*(mv.9*(a+c)+4))) x:=by
 obtain _|M|h0|h1|h2:=T9 (fj rfl wp t) (F.swf D wm wp ht) RR;have le:2^(min (kry mv pt t).9 mv.9*(mv.9*(a+c)+4))<=2^(mv.9*(mv.9*(a+c)+4)):=au () (aD _ (zJ _ _));exact #[M,h0,ag h1 le,λxs hx x hx'=>(h2 xs hx x hx').mono le]
theorem qV.step {a c:Nat} (F:qV mv pt a c) (D:mv.9<=8) (wm:∀xs∈mv,xs.9=mv.9) (wp:∀xs∈pt,xs.9=mv.9) (ht:t<=mv.9) (RR:cC (kry mv pt t) mv.9 R ps):DY (pt++R.map (qW mv)) mv.9 (mv.9*(mv.9*(a+c)+4)+a+c):=by
 obtain N|N0|N1|tN:=F.tp D wm wp ht RR;obtain M|V|M0|Ma|hV|fm|fp|a3|c3|e14|e89:=F;generalize mv.9*(mv.9*(a+c)+4)=e at *
 have V1:V<=2^c:=ag (di _ ()) hV;have eW:(2:Nat)^(e+a+c)=2^c*(2^a*2^e):=by rw[<- aB,<- aB];congr 1;lia
 refine #[N*M,2^(e+a+c),a7 N0 M0,?_,dh,ao _,λxs hx x hx'=>?_,(),(),?_]
 ·exact ag (ay N1 Ma) (by rw[<- aB];exact au () ())
 ·rcases aA.mp hx with hx | hx
  ·refine Tp.of ((fp xs hx x hx').scaleL N) ?_;rw[eW,bY N];exact ay V1 (ay Ma N1)
  ·obtain y|hy|rfl:=aE.mp hx;unfold qW at hx';obtain r|hr|rfl:=aE.mp hx';have wr:=wm r hr;have wy:=RR.2.1 y hy;rw[c8 (),wr];have t1:∀j,Tp M (V*M) (r.getD j 0):=λj=>iE (λx hx=>Tp.of (fm r hr x hx) (ao _)) j
   have t2:∀j,Tp N (2^e) (y.getD j 0):=λj=>iE (tN y hy) j
   have:=Tp.sum (k:=mv.9) (M:=N*M) (W:=V*M*2^e) (f:=λj=>r.getD j 0*y.getD j 0) λj _=>by
    have:=(t1 j).mul (t2 j);rwa [bY M N] at this
   refine this.mono ?_;rw[eW,cu V,<- cu mv.9];exact ay (ag (aD _ ()) hV) (aD _ Ma)
 ·exact ag (aD _ (zJ _ _)) (by rw[show e+a+c+4=e+a+c+4 from rfl];exact e89)
theorem qV.fit {a c:Nat} (F:qV mv pt a c) (D:mv.9<=8) (wm:∀xs∈mv,xs.9=mv.9) (wp:∀xs∈pt,xs.9=mv.9) (ht:t<=mv.9) (RR:cC (kry mv pt t) mv.9 R ps):∀xs∈mv,∀r∈R,zS xs r:=λxs hx r hr=>by
 obtain N|N0|N1|tN:=F.tp D wm wp ht RR;obtain M|V|M0|Ma|hV|fm|fp|a3|c3|e14|e89:=F;have V1:V<=2^c:=ag (di _ ()) hV;have p14:=au (show 0 < 2 by decide) e14;exact #[400,40,1740,1740,#[M,V,M0,ag Ma (au () a3),ag V1 (au () c3),fm xs hx],#[N,2^1740,N0,ag N1 p14,ao _,λx hx=>((tN r hr x hx).mono p14).fr N0],()]
end
inductive C8 (K:FG9) (C:Addr) (vs:List V) (H:Hp) (Q:VK) (E9:XK):Prop
 | mk (x p:Addr) (H0 H1:Hp) (mv pt lk R:LR9):vs=[.ref x,.ref p]->kg K H0 H C x mv pt lk->eQ mv pt lk->bL K H1 H p R->R.9<=100->(∀r∈R,r.9=mv.9)->(∀xs∈mv,∀r∈R,zS xs r)->(∀r H',H r=none->aH H H'->bL K H H' r (R.map (qW mv))->Q (.ref r) H')->C8 K C vs H Q E9
structure BZ (mv pt:LR9) (Rs:List (LR9)):Prop where
 ne:Rs≠[]
 rr:∀t R,Rs[t]?=some R->∃ps,cC (kry mv pt t) mv.9 R ps
 up:∀t R R',Rs[t]?=some R->Rs[t+1]?=some R'->R.9 < R'.9
def GrL (K:FG9) (H0 H:Hp) (l:Addr) (Rs:List (LR9)):Prop:=∃us,H l=some (.lst us)/\Paired (λR v=>∃q,v=V.ref q/\H0 q=none/\q≠l/\bL K H0 H q R) Rs us
inductive Dg (K:FG9) (C:Addr) (vs:List V) (H:Hp) (Q:VK) (E9:XK):Prop
 | mk (x:Addr) (a c st:Nat) (H0:Hp) (mv pt lk:LR9):vs=[.ref x,.int st]->st<=1000->kg K H0 H C x mv pt lk->eQ mv pt lk->qV mv pt a c->(∀r Rs H',H r=none->aH H H'->GrL K H H' r Rs->BZ mv pt Rs->Rs.9<=st+1->(∀R,Rs.getLast?=some R->∀s,(Rs.9 - 1=st/\s=st\/Rs.9 - 1 < st/\Rs.9 - 1<=s)->∃ps,cC (kry mv pt s) mv.9 R ps)->Q (.ref r) H')->Dg K C vs H Q E9
section
variable {K:FG9} {H0 H1 H H':Hp} {p l:Addr} {rows mv pt R R':LR9} {Rs:List (LR9)} {t:Nat}
theorem bL.weakN (h:bL K H0 H p rows) (hn:∀q,H0 q=none->H1 q=none):bL K H1 H p rows:=by obtain xs|g|r|n:=h;exact #[xs,g,Paired.imp' (λ_ _ #[q,a,b,c]=>#[q,a,hn q b,c]) r,n]
theorem bL.updL (h:bL K H0 H p rows) (hl:H l=some (.lst ys)) (nl:H0 l≠none) (pl:p≠l):bL K H0 (upd H l o) p rows:=by obtain xs|g|r|n:=h;exact #[xs,by rw[bM pl];exact g,Paired.imp' (λ_ _ z=>dB.updL z hl nl) r,n]
theorem RX:cC [] n [] []:=#[rfl,(λ_ h=>by cases h),(λ_ _ _ h=>absurd h (d5 _)),(λ_ h=>absurd h (d5 _)),(λ_ h=>absurd h (d5 _)),(λ_ h=>absurd h (d5 _)),(λ_ h=>absurd h (d5 _)),(λ_ h=>absurd h (d5 _))]
theorem BZ.len (h:BZ mv pt Rs):∀(t:Nat) (R:LR9),Rs[t]?=some R->t<=R.9:=by
 intro t
 induction t with
 | zero=>intro R _;exact bg _
 | succ t ih =>
  intro R e;have ht:=(aM.mp e).1;have e0:=af (show t < Rs.9 by lia);have:=ih _ e0;have:=h.up t _ R e0 e
  lia
theorem BZ.snoc (h:BZ mv pt (Rs++[R])) (h1:cC (kry mv pt (Rs.9+1)) mv.9 R' ps') (h2:R.9 < R'.9):BZ mv pt ((Rs++[R])++[R']):=by
 have l1:(Rs++[R]).9=Rs.9+1:=by rw[aw];rfl
 refine #[by simp,λt S e=>?_,λt S S' e e'=>?_]
 ·rcases cR t (Rs.9+1) with z | z
  ·rw[bG ()] at e;exact h.rr t S e
  ·have ht:=(aM.mp e).1;rw[aw,bI] at ht;have:t=Rs.9+1:=()
   subst this;rw[bp (),l1,fM] at e;cases e;exact #[ps',h1]
 ·have ht:=(aM.mp e').1;rw[aw,bI] at ht;rw[bG ()] at e;rcases cR (t+1) (Rs.9+1) with z | z
  ·rw[bG ()] at e';exact h.up t S S' e e'
  ·have:t=Rs.9:=()
   subst this;rw[bp (),l1,fM] at e';cases e';rw[bp (ao _),fM] at e;cases e;exact h2
end
theorem bL.toE {K:FG9} (h:bL K H0 H l rows):∃us,H l=some (.lst us)/\Paired (Mc K (λq=>H0 q=none/\q≠l) H) rows us:=by
 obtain us|g|pr|nn:=h;exact #[us,g,yE (λxs v hv #[q,e,a,b]=>#[q,e,#[a,λz=>nn (by rw[<- z,<- e];exact hv)],b]) pr]
theorem Dt {α:Type} {v:α}:∀{l:List α},l.Nodup->v∉l->∀j,(l.set j v).Nodup
 | [],_,_,_=>nG
 | a :: l,h,hn,0=>by
  rw[fk] at h;rw[List.set_cons_zero,fk];exact #[λz=>hn (.tail _ z),h.2]
 | a :: l,h,hn,j+1=>by
  rw[fk] at h;rw[List.set_cons_succ,fk];refine #[λz=>?_,Dt h.2 (λz=>hn (.tail _ z)) j];rcases cv z with z | z
  ·exact h.1 z
  ·exact hn (by rw[z];exact .head _)
structure ke (K:FG9) (A:Addr->Prop) (H:Hp) (n:Nat) (C:V->Rat->Prop) (m p l b q0:Addr) (us ws vs:List V):Prop where
 bag:gV H b
 inn:Inner H b q0
 gm:H m=some (.lst us)
 gp:H p=some (.lst ws)
 gl:H l=some (.lst vs)
 lm:us.9=n
 row:∀x∈us++vs++ws,gK K A H n (C x) x
 nd:(us++vs++ws).Nodup
section
variable {K:FG9} {A:Addr->Prop} {H H':Hp} {n:Nat} {C C':V->Rat->Prop} {m p l b q0 q:Addr} {us ws vs zs:List V} {y:Rat} {v:V}
theorem ke.same (h:ke K A H n C m p l b q0 us ws vs) (e:aH H H'):ke K A H' n C m p l b q0 us ws vs :=
 #[h.bag.same e,(e.upto (p:=b)).2 _ h.inn,e _ _ h.gm,e _ _ h.gp,e _ _ h.gl,h.lm,λx hx=>(h.row x hx).same e,h.nd]
theorem ke.upto (h:ke K A H n C m p l b q0 us ws vs) (M:Ib A m p l b q0) (u:cP b H H') (B':gV H' b):ke K A H' n C m p l b q0 us ws vs :=
 #[B',u.2 _ h.inn,u.other M.mb h.gm,u.other M.pb h.gp,u.other M.lb h.gl,h.lm,λx hx=>(h.row x hx).upto u h.bag M.ab,h.nd]
theorem ke.weak (h:ke K A H n C m p l b q0 us ws vs) (w:∀x∈us++vs++ws,∀y,C x y->C' x y):ke K A H n C' m p l b q0 us ws vs :=
 #[h.bag,h.inn,h.gm,h.gp,h.gl,h.lm,λx hx=>(h.row x hx).weak (λ_ z=>z) (w x hx),h.nd]
theorem ke.put (h:ke K A H n C m p l b q0 us ws vs) (M:Ib A m p l b q0) (aq:A q) (hq:H q=some (.lst zs)) (hv:bQ K H y v) (hc:C (.ref q) y) (j:Nat):ke K A (upd H q (.lst (zs.set j v))) n C m p l b q0 us ws vs:=by
 have ne:∀{z},¬A z->z≠q:=λh e=>h (by rw[e];exact aq)
 refine #[h.bag.upd h.inn (ne M.ab).symm (ne M.aq).symm,h.inn.upd (ne M.ab).symm,by rw[bM (ne M.am)];exact h.gm,by rw[bM (ne M.ap)];exact h.gp,by rw[bM (ne M.al)];exact h.gl,h.lm,λx hx=>?_,h.nd];by_cases e:x=.ref q
 ·subst e;exact (h.row _ hx).put hq hv hc j
 ·obtain q1|qs|rfl|a1|r1|l1|c1:=h.row x hx;exact #[q1,qs,rfl,a1,r1.updL hq (λz=>e (by rw[z])),l1,c1]
theorem ke.set (h:ke K A H n C m p l b q0 us ws vs) (M:Ib A m p l b q0) (hx:gK K A H n (C v) v) (hn:v∉us++vs++ws) (j:Nat):ke K A (upd H m (.lst (us.set j v))) n C m p l b q0 (us.set j v) ws vs:=by
 have mem:∀x∈us.set j v++vs++ws,x=v\/x∈us++vs++ws:=λx hx=>by
  rcases aA.mp hx with hx | hx
  ·rcases aA.mp hx with hx | hx
   ·rcases cv hx with hx | hx
    ·exact .inr (by simp [hx])
    ·exact .inl hx
   ·exact .inr (by simp [hx])
  ·exact .inr (by simp [hx])
 refine #[h.bag.upd h.inn M.mb M.mq,h.inn.upd M.mb,aL,by rw[bM M.mp.symm];exact h.gp,by rw[bM M.ml.symm];exact h.gl,by rw[d6];exact h.lm,λx hx'=>?_,?_]
 ·rcases mem x hx' with rfl | hx'
  ·exact hx.other h.gm M.am
  ·exact (h.row x hx').other h.gm M.am
 ·have nd:=h.nd;rw[cF] at nd hn ⊢;obtain n1|n2|n3:=dQ.mp nd;refine dQ.mpr #[?_,n2,λa ha c hc=>?_]
  ·rcases cR j us.9 with z | z
   ·exact Dt n1 (λz'=>hn (aA.mpr (.inl z'))) j
   ·rw[List.set_eq_of_length_le z];exact n1
  ·rcases cv ha with ha | rfl
   ·exact n3 a ha c hc
   ·exact λz=>hn (aA.mpr (.inr (by rw[z];exact hc)))
end
theorem KA (h0:0 < M) (h1:M<=2^800) (hW:W<=2^140) (h:Fr M W x):iI x :=
 Jx h0 (ag h1 (au () ())) (ag hW (au () ())) h
theorem Qb {t V c:Nat} (ht:t<=3) (hV:V<=2^20) (hc:c<=9):c*(9^t*V)<=2^140:=by
 have h1:9^t<=9^3:=au () ht;have h2:c*(9^t*V)<=9*(9^3*2^20):=ay hc (ay h1 hV);exact ag h2 (ag (show 9*(9^3*2^20)<=2^40 by decide) (au () ()))
theorem pU {α:Type} {l:List α} {v:α} (h:l.Nodup) (hn:v∉l):(l++[v]).Nodup:=dQ.mpr #[h,by simp,λa ha c hc=>by rw[bA.mp hc];exact λz=>hn (by rw[<- z];exact ha)]
section
variable {K:FG9} {a:Addr} {xs:List V} {g:TG} {tf:TT} {te:TE} {Q:VK} {σ₀:St} {H:Hp} {α β:Type}
theorem DK (G:Hp->β->V->Prop) (C:β->Prop) (hB:gV H b) (hl:n<=1000) (hG:∀{H' H'' c x},G H' c x->cP b H' H''->gV H' b->G H'' c x)
  (hA:∀{H' c x},G H' c x->∃q,x=V.ref q/\H' q≠none)
  (hs:∀(i:Nat) H' NY NN,i < n->cP b H H'->gV H' b->(∀y c H2,cP b H' H2->gV H2 b->C c->G H2 c y->(∃q,y=V.ref q/\H' q=none)->NY y H2)->oF σ₀ g tf te (.int i) H' NY NN)
  (hd:∀ys cs H' p,H p=none->cP b H H'->gV H' b->H' p=some (.lst ys)->cs.9=n->ys.Nodup->(∀c∈cs,C c)->Paired (G H') cs ys->(∃H2,H2 p=none/\Paired (G H2) cs ys)->Q (.ref p) H'):oW (Iw 0 n) σ₀ g tf te Q H:=by
 refine qA (λi ys H'=>cP b H H'/\gV H' b/\∃cs,cs.9=i/\ys.Nodup/\(∀c∈cs,C c)/\Paired (G H') cs ys) (be (bC ())) #[(aH.refl _).upto,hB,[],rfl,nG,(λ_ z=>nomatch z),.nil] ?_ ?_
 ·rintro i ys H' hi hlen ⟨u,B,cs,lc,nd,hc,pr⟩;rw[Ai];refine hs i H' _ _ hi u B λy c H2 u2 B2 cc gy #[q,ey,nq]=>#[u.trans u2,B2,cs++[c],by simp [lc],pU nd (λz=>by obtain c'|_|gc:=cX pr z;obtain q'|e'|h':=hA gc;rw[ey] at e';cases e';exact h' nq),Ac hc cc,bX (Paired.imp' (λ_ _ z=>hG z u2 B) pr) (.cons gy .nil)]
 ·rintro ys H' hy ⟨u,B,cs,lc,nd,hc,pr⟩ p hp;have s:aH H' (upd H' p (.lst ys)):=aH.new hp;exact hd ys cs _ p (u.none B hp) (u.same s) (B.same s) aL lc nd hc (Paired.imp' (λ_ _ z=>hG z s.upto B) pr) #[H',hp,pr]
end
structure JF (K:FG9) (A:Addr->Prop) (n:Nat) (C:Rat->Prop) (m p l b q0:Addr) (us ws vs:List V) (H0 H:Hp):Prop where
 mix:ke K A H n (λ_=>C) m p l b q0 us ws vs
 gp:H p=some (.lst ws)
 gl:H l=some (.lst vs)
 kp:jh A b m H0 H
section
variable {K:FG9} {A:Addr->Prop} {n:Nat} {C:Rat->Prop} {m p l b q0 q:Addr} {us ws vs:List V} {H0 H H':Hp} {y:Rat} {v:V}
theorem JF.same (h:JF K A n C m p l b q0 us ws vs H0 H) (e:aH H H'):JF K A n C m p l b q0 us ws vs H0 H':=#[h.mix.same e,e _ _ h.gp,e _ _ h.gl,h.kp.same e]
theorem JF.upto (h:JF K A n C m p l b q0 us ws vs H0 H) (M:Ib A m p l b q0) (u:cP b H H') (B:gV H' b):JF K A n C m p l b q0 us ws vs H0 H':=#[h.mix.upto M u B,u.other M.pb h.gp,u.other M.lb h.gl,h.kp.upto u]
theorem JF.row (h:JF K A n C m p l b q0 us ws vs H0 H) (hx:x∈ws\/x∈vs):gK K A H n C x:=h.mix.row x (by rcases hx with hx | hx <;> simp [hx])
theorem JF.put (h:JF K A n C m p l b q0 us ws vs H0 H) (M:Ib A m p l b q0) (hx:V.ref q∈ws\/V.ref q∈vs) (hv:bQ K H y v) (hc:C y) (j:Nat):∃zs,H q=some (.lst zs)/\zs.9=n/\JF K A n C m p l b q0 us ws vs H0 (upd H q (.lst (zs.set j v))):=by
 obtain q'|zs|qs|e|a|g|lz|_:=(h.row hx).at;cases e;have ne:∀{z},¬A z->z≠q:=λh e=>h (by rw[e];exact a)
 exact #[zs,g,lz,h.mix.put M a g hv hc j,by rw[bM (ne M.ap)];exact h.gp,by rw[bM (ne M.al)];exact h.gl,h.kp.upd (.inl a)]
end
inductive FY (K:FG9) (vs:List V) (H:Hp) (Q:VK) (E9:XK):Prop
 | mk (b:Addr) (n w:Nat) (way first:Int):vs=[.ref b,.int n,.int way,.int first,.int w]->gV H b->n<=8->1<=w->w<=1000000->(∀r us H',H r=none->H' r=some (.lst us)->us.9=n->us.Nodup->(∀x∈us,gK K (λq=>H q=none/\q≠r) H' n (Dr (max w 6)) x)->gV H' b->cP b H H'->Q (.ref r) H')->FY K vs H Q E9
def PtF (n i o w c:Nat) (mv pt lk:LR9):Prop:=∃M V1:Nat,0 < M/\GF M V1 mv/\GF M V1 pt/\GF M V1 lk/\((w<=9/\M=2520/\V1=9^3*9)\/(9 < w/\M<=2^(c*((n+i+o)*n))/\V1=9^3*2^c))
inductive FZ (K:FG9) (vs:List V) (H:Hp) (Q:VK) (E9:XK):Prop
 | mk (b:Addr) (n:Nat):vs=[.ref b,.int n]->gV H b->1<=n->n<=8->(∀r mv pt lk H',eT K H H' r mv pt lk->mv.9=n->pt.9=1->lk.9=1->eQ mv pt lk->GF 1 1 mv->GF 1 1 pt->GF 1 1 lk->gV H' b->cP b H H'->Q (.ref r) H')->FZ K vs H Q E9
theorem Ab (M0:0 < M) (hM:M<=2^a) (hn:mv.9<=n0) (hV:(n0+1)*V1<=2^c) (fm:GF M V1 mv) (fp:GF M V1 pt) (h4:a<=400/\c<=40/\n0*(n0*(a+c)+4)<=1740/\n0*(n0*(n0*(a+c)+4)+a+c+4)<=8900000):qV mv pt a c:=by
 obtain h1|h2|h3|h5:=h4;have e1:mv.9*(a+c)<=n0*(a+c):=aD _ hn;have e2:mv.9*(mv.9*(a+c)+4)<=n0*(n0*(a+c)+4):=ay hn ();have e3:mv.9*(mv.9*(mv.9*(a+c)+4)+a+c+4)<=n0*(n0*(n0*(a+c)+4)+a+c+4):=ay hn ();exact #[M,V1,M0,hM,ag (aD _ ()) hV,fm,fp,h1,h2,(),()]
def Pa (K:FG9):Sp:=λvs H Q _=>∃b:Addr,vs=[.ref b]/\gV H b /\
 ∀r mv pt lk H',eT K H H' r mv pt lk->6<=mv.9->eQ mv pt lk->GF 1 (9^3) mv->GF 1 (9^3) pt->GF 1 (9^3) lk->gV H' b->cP b H H'->Q (.ref r) H'
theorem Fb {rs:List Nat} {v v':Nat->iW}:∀{k:Nat} (pre:List iW),(∀j,j < k->∀r∈rs,v j r=v' j r)->jl rs (pre++iZ v k)=jl rs (pre++iZ v' k)
 | 0,_,_=>rfl
 | k+1,pre,h=>by
  show jl rs (pre++v k :: iZ v k)=jl rs (pre++v' k :: iZ v' k)
  rw[Om (h k ())];have:=Fb (k:=k) (pre++[v' k]) λj hj=>h j ()
  simpa using this
theorem cw_map {τ:iW->iW} {v:Nat->iW}:∀{k:Nat},(iZ v k).map τ=iZ (λj=>τ (v j)) k
 | 0=>rfl
 | k+1=>by show τ (v k) :: _=_;rw[cw_map];rfl
theorem Ol {N:Nat} {W:Nat->Nat}:∀{rs:List Nat} {vs:List iW},vs.9<=N->(∀v∈vs,∀r∈rs,Fr 1 (W r) (v r))->Fr 1 ((rs.map λr=>N*W r).foldr (λx y=>x*y) 1) (jl rs vs)
 | [],[],_,_=>by show Fr 1 1 1;exact (Fr.int (i:=1) ())
 | [],_ :: _,_,_=>by show Fr 1 _ 0;exact Fr.zero
 | r :: rs,vs,hl,h=>by
  have:=NM (F:=λws=>jl rs ws) (r:=r) (B:=(rs.map λr=>N*W r).foldr (λx y=>x*y) 1) (W:=W r) (post:=vs) (pre:=[]) (s:=1) (λws h1 h2=>Ol (by rw[cY] at h2;lia) λv hv r' hr'=>h v (by simpa using h1 v hv) r' (.tail _ hr')) (λw hw=>h w hw r (.head _)) (Fr.int (i:=1) ());refine this.mono ?_;show _<=N*W r*_
  rw[cu N];exact aD _ hl
section
variable {rows fs ls:LR9} {n r M W Wv Wb k P:Nat} {Pm Y Z B E a:Nat->Nat->Rat} {d:Rat} {ps:List Nat} {rs:LR9}
end
section
variable {rows R R1 R2 mv pt:LR9} {n r M V1 W W' Wv Wb k P:Nat} {Pm Y Z B E a:Nat->Nat->Rat} {d:Rat} {ps ps1 ps2:List Nat} {rs:LR9}
theorem RI (h0:0 < M) (h3:∀xs∈rows,∀x∈xs,Tp M W x):∀i,i < rows.9->∀c,Fr 1 W (fJ (rows.map kS) i c):=λi hi c=>by
 have hx:=getD_in (e:=[]) hi;rw[FI hi];unfold cL;generalize rows.getD i []=xs at hx ⊢;by_cases hc:c < xs.9
 ·have t:=h3 xs hx _ (getD_in (e:=0) hc);obtain s|e|b:=Am t h0 (BO (xs:=xs)) (sX (aE.mpr #[_,getD_in (e:=0) hc,rfl])) (KY h0 (h3 xs hx));rw[eO,e];exact Fr.int b
 ·rw[ae,a8 ()];show Fr 1 W (_*0)
  rw[gM];exact Fr.zero
theorem Oc {V:Nat} {f:Nat->Rat}:∀{k:Nat},(∀j,j < k->Fr 1 V (f j))->Fr 1 (k*V) (bS k f)
 | 0,_=>Fr.zero
 | k+1,h=>by
  rw[dw];exact (Oc λj hj=>h j ()).add (h k ())
theorem xD {f:Nat->Rat} {a:Nat}:∀{b:Nat},bS (a+b) f=bS a f+bS b λt=>f (a+t)
 | 0=>by show bS a f=bS a f+0;grind
 | b+1=>by
  show bS (a+b) f+f (a+b)=_+(bS b _+f (a+b))
  rw[xD];grind
end
section
variable {rows R R1 R2 mv pt:LR9} {n t t2 a c:Nat} {ps ps1 ps2:List Nat}
theorem KC (h:∀i,i < rows.9->∀c,Tp M W (cL rows i c)):∀xs∈rows,∀x∈xs,Tp M W x:=λxs hx x hx'=>by
 obtain i|hi|rfl:=bE hx;obtain c|hc|rfl:=bE hx';have:=h i hi c;unfold cL at this;rw[ae (l:=rows),af hi] at this;have e:(some rows[i]).getD []=rows[i]:=rfl;rw[e,ae,af hc] at this;exact this
end
section
variable {K:FG9} {a:Addr} {xs:List V} {g:TG} {tf:TT} {te:TE} {Q:VK} {σ₀:St} {H:Hp} {α β:Type}
theorem DI {F:Hp->α->V->Prop} (G:Hp->β->V->Prop) (f:α->β) (hx:H a=some (.lst xs)) (pf:Paired (F H) as xs) (hl:as.9<=1000)
  (hF:∀{H H' c x},F H c x->aH H H'->F H' c x) (hG:∀{H H' c x},G H c x->aH H H'->G H' c x) (hA:∀{H' c x},G H' c x->∃q,x=V.ref q/\H' q≠none)
  (hs:∀(i:Nat) c x H' NY NN,as[i]?=some c->aH H H'->F H' c x->(∀y H2,aH H' H2->G H2 (f c) y->(∃q,y=V.ref q/\H' q=none)->NY y H2)->oF σ₀ g tf te x H' NY NN)
  (hd:∀ys H' p,H p=none->aH H H'->H' p=some (.lst ys)->ys.Nodup->(∀y∈ys,∃q,y=V.ref q/\H q=none/\q≠p)->Paired (G H') (as.map f) ys->Q (.ref p) H'):oW (OR K a) σ₀ g tf te Q H:=by
 have lx:=pf.9;refine fR (K:=K) (xs:=xs) (λi ys H'=>aH H H'/\ys.Nodup/\(∀y∈ys,∃q,y=V.ref q/\H q=none)/\Paired (G H') ((as.take i).map f) ys) (be (bC ())) #[aH.refl _,nG,(λ_ z=>nomatch z),.nil] (λi ys H' _ #[s,_]=>bR.of (s _ _ hx)) ?_ ?_
 ·rintro i x ys H' hx' hlen ⟨s,nd,hn,pr⟩;obtain c|ec|hc:=b6 pf hx';refine hs i c x H' _ _ ec s (hF hc s) λy H2 s2 gy #[q,ey,nq]=>#[s.trans s2,pU nd (λz=>?_),Ac hn #[q,ey,s.none nq],?_]
  ·obtain c'|_|gc:=cX pr z;obtain q'|e'|h':=hA gc;rw[ey] at e';cases e';exact h' nq
  ·rw[take_snoc ec,cG];exact bX (Paired.imp' (λ_ _ z=>hG z s2) pr) (.cons gy .nil)
 ·rintro ys H' hy ⟨s,nd,hn,pr⟩ p hp;rw[aJ ()] at pr;refine hd ys _ p (s.none hp) (s.trans (aH.new hp)) aL nd (λy hy=>?_) (Paired.imp' (λ_ _ z=>hG z (aH.new hp)) pr);obtain q|e|nq:=hn y hy;refine #[q,e,nq,λz=>?_];obtain c'|_|gc:=cX pr hy;obtain q'|e'|h':=hA gc;rw[e] at e';cases e';exact h' (by rw[z];exact hp)
end
structure U2 (K:FG9) (H0 H:Hp) (n:Nat) (fd:Addr) (L:List (Addr×List V)):Prop where
 gf:H fd=some (.lst (L.map λe=>V.ref e.1))
 nf:H0 fd=none
 ls:∀e∈L,H0 e.1=none/\e.1≠fd/\H e.1=some (.lst e.2)
 nd:(L.map λe=>e.1).Nodup
 rows:∀e∈L,∀x∈e.2,gK K (λq=>(H0 q=none/\q≠fd)/\q∉L.map λe=>e.1) H n (Fr 1 1) x
 rd:(L.flatMap λe=>e.2).Nodup
section
variable {K:FG9} {H0 H H1:Hp} {n:Nat} {fd q:Addr} {L:List (Addr×List V)} {us:List V}
theorem U2.snoc (h:U2 K H0 H n fd L) (s0:aH H0 H) (s:aH H H1) (hq:H q=none) (gq:H1 q=some (.lst us)) (nd:us.Nodup) (hr:∀x∈us,gK K (λz=>H z=none/\z≠q) H1 n (Fr 1 1) x):U2 K H0 (upd H1 fd (.lst ((L.map λe=>V.ref e.1)++[.ref q]))) n fd (L++[(q,us)]):=by
 have qf:q≠fd:=λz=>by rw[z,h.gf] at hq;cases hq
 have old:∀{z},z∈(L.map λe=>e.1)->H z≠none:=λhz=>by
  obtain e|he|rfl:=aE.mp hz;rw[(h.ls e he).2.2];exact λz=>nomatch z
 have g1:=s _ _ h.gf;refine #[by rw[aL,cG];rfl,h.nf,λe he=>?_,?_,λe he x hx=>?_,?_]
 ·rcases aA.mp he with he | he
  ·obtain a|b|c:=h.ls e he;exact #[a,b,by rw[bM b];exact s _ _ c]
  ·rw[bA.mp he];exact #[s0.none hq,qf,by rw[bM qf];exact gq]
 ·rw[cG];exact pU h.nd λz=>old z hq
 ·have key:gK K (λz=>(H0 z=none/\z≠fd)/\z∉(L++[(q,us)]).map λe=>e.1) H1 n (Fr 1 1) x:=by
   rcases aA.mp he with he | he
   ·obtain z|qs|e1|⟨e2,e3⟩|e4|e5:=h.rows e he x hx;refine #[z,qs,e1,#[e2,λhz=>?_],e4.same s,e5];rw[cG] at hz;rcases aA.mp hz with hz | hz
    ·exact e3 hz
    ·have hz:z=q:=bA.mp hz;obtain _|gg|_:=e4;rw[hz,hq] at gg;cases gg
   ·rw[bA.mp he] at hx;refine (hr x hx).weak (λz hz=>#[#[s0.none hz.1,λy=>by rw[y] at hz;rw[h.gf] at hz;exact absurd hz.1 (λw=>nomatch w)],λy=>?_]) (λ_ w=>w);rw[cG] at y;rcases aA.mp y with y | y
    ·exact old y hz.1
    ·exact hz.2 (bA.mp y)
  exact key.other g1 (λz=>z.1.2 rfl)
 ·rw[List.flatMap_append];refine dQ.mpr #[h.rd,by simpa using nd,λx hx y hy z=>?_];obtain e|he|hx:=List.mem_flatMap.mp hx;obtain w|qs|e1|_|⟨_,gg,_⟩|_:=h.rows e he x hx;obtain w'|_|e1'|⟨hw,_⟩|_:=hr y (by simpa using hy);rw[<- z,e1] at e1';cases e1';rw[hw] at gg;cases gg
end
theorem MX:typeLookup (.type "list_reverseiterator") "__len__"=pure none:=by
 rw[typeLookup_type,builtinLookup_eq_fast]
 kernel_rfl
theorem Po:typeLookup (.type "list_reverseiterator") "__length_hint__"=pure (some (.builtin "list_reverseiterator.__length_hint__")):=by
 rw[typeLookup_type,builtinLookup_eq_fast]
 kernel_rfl
section
variable {prog:Program} {w:World} {A:Around} {E:Value->Shared->Prop} {s:Shared}
theorem Pl (hit:s.heap.IsRevIter it l i) (q:Q false s):wpAny (model prog w) A (Builtin.List.listLengthHint (.ref it)) Q E s:=by
 unfold Builtin.List.listLengthHint;refine wpAny_bind (wpAny_specialOf hit.typeIs MX ?_);show wpAny _ A (specialOf (Value.ref it) (Str.ofString "__length_hint__") >>= _) Q E s
 refine wpAny_bind (wpAny_specialOf hit.typeIs Po ?_);generalize hid:("list_reverseiterator.__length_hint__":String)=id0
 dsimp only
 rw[show splitId id0=some ("list_reverseiterator","__length_hint__") from by subst hid;decide +kernel];subst hid;refine wpAny_bind (wpAny_isInstance (T:="list_reverseiterator") (b:=true) hit.typeIs (by rw[isSubtype_type];kernel_rfl) ?_);refine wpAny_ite_split (λz=>absurd z ()) (λ_=>?_);refine wpAny_ite_split (λ_=>?_) (λz=>absurd (by decide +kernel) z);exact wpAny_ite_split (λz=>absurd z (by decide +kernel)) (λ_=>wpAny_pure q)
theorem Pp (hh:A.handled=none) (hit:s.heap.IsRevIter I l ((items.7:Int) - 1)) (hl:s.heap.IsList l items) (nI:l≠I) (nS:S≠I) (nL:S≠l) (hn:items.7<=sizeLine) (hS:s.heap.get? S=some { cls:=.type "list",data:=.seq [].toArray c0 })
  (hR:∀h' tk acc c,(∀b o,b≠S->b≠I->s.heap.get? b=some o->h'.get? b=some o)->h'.get? S=some { cls:=.type "list",data:=.seq acc c }->ItemsOf (λi v=>items[items.7 - 1 - i]?=some v) acc items.7->R (.ok (.ret res)) { s with heap:=h',toks:=tk }) :
  wpAny (model prog w) A.in1 (Builtin.List.listExtendWith (.ref S) (.ref I) res) (λfin s2=>match fin with | .done f=>R (.ok f) s2 | .again c=>c.quiet=true/\codeAny (model prog w) A c R s2) (λe s2=>R (.error e) s2) s:=by
 have W:=(Walks.listRev (prog:=prog) (w:=w) (A:=A.in1) hh I l nI items).toS;unfold Builtin.List.listExtendWith;refine wpAny_bind (wpAny_typeOf hit.typeIs ?_);rw[if_neg (by simp [Builtin.List.listSameRef,nS])];refine wpAny_bind (wpAny_pyIter_revIter hit ?_);refine wpAny_bind (wpAny_holding (Pl hit ?_));refine wpAny_ite_split (λz=>absurd z (by decide +kernel)) (λ_=>?_);have h0:s.heap.IsRevIter I l ((items.7:Int) - 1 - ((0:Nat):Int)):=by simpa using hit
 refine wpAny_pure #[plainId_quiet F.plain_extend_loop _,codeAny_extend_loopS W hn S (by simp [nS,nL]) res items.size 0 s [].toArray c0 rfl (bg _) #[bg _,h0,hl] hS (ItemsOf.nil _) λs2 acc c hm h2 hi=>?_];rw[Moved.eq_with hm];exact hR s2.heap s2.toks acc c (λb o n1 n2 e=>hm.heap b o (by simp [n1,n2]) e) h2 hi
theorem Pn (hh:A.handled=none) (hit:s.heap.IsRevIter I l ((items.7:Int) - 1)) (hl:s.heap.IsList l items) (nI:l≠I) (hn:items.7<=sizeLine)
  (hQ:∀h' tk acc c,(∀b o,b≠I->s.heap.get? b=some o->h'.get? b=some o)->h'.get? s.6=some { cls:=.type "list",data:=.seq acc c }->ItemsOf (λi v=>items[items.7 - 1 - i]?=some v) acc items.7->Q (.ref s.6) { s with heap:=h',toks:=tk }) :
  wpAny (model prog w) A (call (.type "list") [.ref I]) Q E s:=by
 refine callType_codes (Q₁:=λx s2=>x=.ref s.6/\s2={ s with heap:=s.heap.push { cls:=.type "list",data:=.seq [].toArray } }) F.called_list (F.typeCall_list_1 _) F.entry_list_init (code_list_new _ ⟨rfl,rfl⟩) λx s2 hx=>?_
 obtain rfl|rfl:=hx;have up:∀b o,s.heap.get? b=some o->(s.heap.push { cls:=.type "list",data:=.seq [].toArray }).get? b=some o:=λb o e=>Heap.get?_push_of_some _ e
 have hS:(s.heap.push { cls:=.type "list",data:=.seq [].toArray }).get? s.6=some { cls:=.type "list",data:=.seq [].toArray }:=Heap.get?_push_size _ rfl
 have lI:I≠s.6:=by
  obtain o|ho|_:=hit;exact cg (Heap.lt_size ho)
 have lL:l≠s.6:=by
  obtain o|ho|_:=hl;exact cg (Heap.lt_size ho)
 refine #[#[_,hS,rfl],F.args_list_init_2 _ _,?_];show wpAny _ A.in1.in1 (do let old <- Builtin.List.listItems (.ref s.6);Builtin.List.listUpdate (.ref s.6) (λ_=>[].toArray);letGo old.toList.reverse;Builtin.List.listExtendWith (.ref s.6) (.ref I) .none) _ _ _
 refine wpAny_bind ?_;unfold Builtin.List.listItems;refine wpAny_bind (wpAny_seqItems hS rfl (wpAny_pure ?_));refine wpAny_bind (m:=Builtin.List.listUpdate (.ref s.6) (λ_=>[].toArray)) (wpAny_updateSeq hS rfl ?_);have h3:=Heap.get?_update_self (Obj.mapSeq (λ_=>([].toArray:Array Value))) hS rfl;have o3:∀b o,b≠s.6->(s.heap.push { cls:=.type "list",data:=.seq [].toArray }).get? b=some o->((s.heap.push { cls:=.type "list",data:=.seq [].toArray }).update s.heap.objs.size (Obj.mapSeq (λ_=>([].toArray:Array Value)))).get? b=some o:=λb o nb e=>(Heap.get?_update_other _ _ (Ne.symm nb)).trans e
 refine wpAny_bind (wpAny_letGo ?_);refine Pp (A:=A.in1) hh (hit.at λo e=>o3 _ _ lI (up _ _ e)) (hl.at λo e=>o3 _ _ lL (up _ _ e)) nI lI.symm lL.symm hn h3 λh' tk acc c hk h2 hi=>?_
 exact #[rfl,hQ h' tk acc c (λb o nb e=>hk b o (cg (Heap.lt_size e)) nb (o3 _ _ (cg (Heap.lt_size e)) (up _ _ e))) h2 hi]
end
section
variable {X:Cx}
def MF (K:FG9) (ta:TA):TE:=λσ H Q=>ta σ H λvs H1=>∃l xs,vs=[.ref l]/\bR K H1 l xs/\xs.9<=1000/\∀L H',aH H1 H'->H1 L=none->H' L=some (.lst xs.reverse)->Q (.ref L) H'
theorem FK:∀{xs:List V} {us:List Value},cV xs us->cV xs.reverse us.reverse
 | _,_,.nil=>.nil
 | _,_,.cons h r=>by
  rw[List.reverse_cons,List.reverse_cons];exact cV.append (FK r) (.cons h .nil)
theorem Ja (K:FG9) {e1:Expr} {ta:TA} {p p2 pos pos2:Pos} (hg:Gl X "list") (hm:X.mg "list"=none) (hg2:Gl X "reversed") (hm2:X.mg "reversed"=none) (ha:PA X [e1] ta) (hK:X.K=K:=by rfl) (hc:X.calm=true:=by rfl)
  (hs:starEach [e1] X.env=[(false,eval e1 X.env)]:=by rfl)
  (hs3:starEach [Expr.Call (.Name "reversed" p2) [e1] [] pos2] X.env=[(false,eval (.Call (.Name "reversed" p2) [e1] [] pos2) X.env)]:=by rfl) :
  PE X (.Call (.Name "list" p) [.Call (.Name "reversed" p2) [e1] [] pos2] [] pos) (MF K ta):=by
 subst hK;intro pins s σ H Q I h;refine wpAny_Call_Name_kw (j7 I hg hm boot_list ?_);refine PyProof.Rows.callWith_type1 ?_ (by rw[hs3];rfl) rfl;rw[hs3];show wpAny _ _ (spliced ((false,eval (.Call (.Name "reversed" p2) [e1] [] pos2) X.env) :: [])) _ _ s
 refine Calls.spliced_cons ?_;refine Call_ (j7 I hg2 hm2 boot_reversed (PyProof.Rows.callWith_type1 (gL (ha pos2 pins s σ H _ I h) λus s1 #[vs,H1,I1,r1,q1]=>?_) hs rfl));obtain l|xs|e|hl|hn|q:=q1;subst e;obtain u|rfl|ru:=vals1 r1;cases ru;obtain its|rv|pl|hz:=I1.list hl;have hlen:=rv.9;have pI:=pl.isList;refine call_reversed_list pI ?_;refine Calls.spliced_nil ?_;have kp:∀b o,s1.heap.get? b=some o->(s1.heap.push (revObj l ((its.5.7:Int) - 1))).get? b=some o:=λb o e=>Heap.get?_push_of_some _ e
 have nI:l≠s1.6:=by
  obtain o|ho|_:=pI;exact cg (Heap.lt_size ho)
 refine Pn (I.ok.hd hc) (I:=s1.6) (l:=l) (items:=its.5) #[_,Heap.get?_push_size _ rfl,rfl,rfl] (pI.at λo e=>kp _ _ e) nI (by rw[aI];lia) λh' tk acc c hk hS hacc=>?_
 have sz:s1.6<=(s1.heap.push (revObj l ((its.5.7:Int) - 1))).objs.size:=by rw[Heap.size_push];exact qT _
 have nS:=I1.hok.fresh sz
 have ea:acc.toList=its.reverse:=by
  apply iK;intro j;rcases cR j its.9 with z | z
  ·have hj:j < acc.toList.9:=by rw[Array.length_toList,hacc.1,aI];exact z
   have:=hacc.2 j acc.toList[j] (by rw[<- Array.getElem?_toList];exact af hj);rw[af hj,List.getElem?_reverse z];simpa using this.symm
  ·rw[a8 (by rw[Array.length_toList,hacc.1,aI];exact z),a8 (by rw[jg];exact z)]
 have vs':cV xs.reverse acc.toList:=by rw[ea];exact FK rv
 have sl:xs.reverse.9<=sizeLine:=by rw[jg];exact hz
 refine #[.ref _,_,I1.laid (o:=.lst xs.reverse) (λb o e=>hk b o (cg (Heap.lt_size e)) (kp b o e)) sz ?_,rfl,q _ _ (aH.new nS) nS aL];exact #[sl,acc.toList,c,vs',by simpa using hS]
end
theorem GN {F G:List iW->Rat} {r:Nat} {g:Nat->Rat} {c:Rat} (hF:∀ws:List iW,F (ws.map λv i=>g i*v i)=c*G ws):∀(post pre:List iW) (s:Rat),Cn F r (pre.map λv i=>g i*v i) (post.map λv i=>g i*v i) s=g r*c*Cn G r pre post s
 | [],_,_=>by show (0:Rat)=_*0;grind
 | v :: post,pre,s=>by
  have i1:=hF (pre++post);have i2:=GN (r:=r) hF post (pre++[v]) (-s);simp only[cG,iL,List.map_nil,Cn] at i1 i2 ⊢;rw[i1,i2];grind
theorem v9 {g:Nat->Rat}:∀(rs:List Nat) (vs:List iW),jl rs (vs.map λv i=>g i*v i)=(rs.map g).foldr (λx y=>x*y) 1*jl rs vs
 | [],[]=>by show (1:Rat)=1*1;grind
 | [],_ :: _=>by show (0:Rat)=1*0;grind
 | r :: rs,vs=>by
  have:=GN (r:=r) (F:=λws=>jl rs ws) (G:=λws=>jl rs ws) (c:=(rs.map g).foldr (λx y=>x*y) 1) (λws=>v9 rs ws) vs [] 1;exact this
theorem EA {g:Nat->Rat}:∀{rs:List Nat},(∀r∈rs,g r≠0)->(rs.map g).foldr (λx y=>x*y) 1≠0
 | [],_=>by show (1:Rat)≠0;decide
 | r :: rs,h=>by
  show g r*_≠0
  have h1:=h r (.head _);have h2:=EA λr' hr'=>h r' (.tail _ hr')
  intro z;rcases lS.mp z with z | z
  ·exact h1 z
  ·exact h2 z
section
variable {rows R X K0:LR9} {due L:List Rat} {n m M W D E W0 W1:Nat} {ps:List Nat}
theorem DG (hw:∀xs∈rows,xs.9=n) (hW:1<=W) (h0:0 < M) (h3:∀xs∈rows,∀x∈xs,Tp M W x) (RR:cC rows n R ps):∃pm:Nat->Nat,(∀i j,i < ps.9->j < ps.9->pm i=pm j->i=j)/\(∀t,t < ps.9->pm t < rows.9)/\ps.9<=rows.9/\jl (k9 pm ps.9) (iZ (λj i=>cL rows i (ps.getD j 0)) ps.9)≠0:=by
 have ent:=RI h0 h3;obtain ls|ps2|d|I:=C1 hw hW (by rw[aj];exact ent) n (ao _);obtain _|_|⟨pm,B⟩|E:=I;rw[aj] at B E
 have RF:HZ rows.9 n (cL rows) ps2.9 (λj=>ps2.getD j 0) (λi c=>fJ ls i c / d):=HZ.other (E.done λi hi c hc=>BB (n:=n) (λzs hz=>by
  obtain xs|hx|rfl:=aE.mp hz;rw[vw];exact hw xs hx) hc) JL JM
 obtain e1|e2|e3:=RF.uniq RR.2.2 (λ_ hi=>fK.row hi) (λ_ hi=>fK.row hi);have km:=B.km;have dt:=B.det;have d0:=B.d0
 have e4:jl (k9 pm ps2.9) ([]++iZ (λj r=>fJ (rows.map kS) r (ps2.getD j 0)) ps2.9)=jl (k9 pm ps2.9) ([]++iZ (λj i=>OC rows i*cL rows i (ps.getD j 0)) ps2.9):=Fb [] λj hj r hr=>by
  obtain t|ht|rfl:=mB hr;rw[FI (B.rng t ()),e2 j hj];rfl
 have e5:iZ (λj i=>OC rows i*cL rows i (ps.getD j 0)) ps2.9=(iZ (λj i=>cL rows i (ps.getD j 0)) ps2.9).map λv i=>OC rows i*v i:=(cw_map (τ:=λv i=>OC rows i*v i)).symm
 refine #[pm,λi j hi hj e=>B.inj i j () () e,λt ht=>B.rng t (),(),?_];rw[<- e1];intro z;apply d0;rw[dt];have e4:jl (k9 pm ps2.9) (iZ (λj r=>fJ (rows.map kS) r (ps2.getD j 0)) ps2.9)=jl (k9 pm ps2.9) (iZ (λj i=>OC rows i*cL rows i (ps.getD j 0)) ps2.9):=e4;rw[e4,e5,v9,z,gM]
theorem QY (hd:due.9=X.9) (hw:∀xs∈X,xs.9=n) (RR:cC (c6 X due) (n+1) R ps) (hn:n∉ps) (hi:i < X.9):due.getD i 0=bS ps.9 λj=>cL R j n*cL X i (ps.getD j 0):=by
 obtain j1|j2:=yI hd hw hi;have sp:=RR.2.2.span i (by rw[kF hd];exact hi);have:=RR.2.2.coef sp n;rw[<- j2,this];refine aY λj hj=>?_
 have lo:=RR.2.2.low j hj;have ne:ps.getD j 0≠n:=λz=>hn (by rw[<- z];exact getD_in hj)
 rw[j1 _ ()];exact eO _ _
theorem Kb (RR:cC X (n+1) R ps) (hy:y∈ia R ps n):y=0\/∃j,j < ps.9/\y=cL R j n:=by
 obtain c|hc|rfl:=bE hy;have lc:(ia R ps n).9=n:=ib;have e:(ia R ps n)[c]=(ia R ps n).getD c 0:=by rw[ae,af hc];rfl
 rw[e];by_cases hp:c∈ps
 ·obtain j|hj|ej:=bE hp
  right
  refine #[j,hj,?_];have ej':ps.getD j 0=c:=by rw[ae,af hj];exact ej
  have:=MS (R:=R) (ps:=ps) (n:=n) (j:=ps.9) (c:=c) ();unfold ia;rw[this,il hj λi hi ne=>if_neg λz=>?_,if_pos ej'];rcases cR i j with y | y
  ·have:=RR.2.2.inc i j y hj
   lia
  ·have:=RR.2.2.inc j i () hi
   lia
 ·exact .inl (Ph hp)
theorem Ta (hl:vs.9<=N) (h:∀v∈vs,∀r∈rs,Fr 1 Wx (v r)):∃z:Int,jl rs vs=(z:Rat)/\z.natAbs<=(N*Wx)^rs.9:=by
 have f:=BD hl h;obtain z|ez:=vZ f;rw[ez] at f;exact #[z,ez,vn f]
theorem M6 {pm w:Nat->Nat} {X Y s:Nat} (hX:1<=X) (hY:1<=Y) (h1:∀r,r≠s->w r<=X) (h2:w s<=Y):∀k,(∀i j,i < k->j < k->pm i=pm j->i=j)->((∃t,t < k/\pm t=s)->((k9 pm k).map w).foldr (λx y=>x*y) 1<=X^k*Y)/\((∀t,t < k->pm t≠s)->((k9 pm k).map w).foldr (λx y=>x*y) 1<=X^k)
 | 0,_=>#[λ#[t,h,_]=>absurd h (d5 _),λ_=>ao _]
 | k+1,inj=>by
  obtain i1|i2:=M6 (pm:=pm) (w:=w) hX hY h1 h2 k λi j hi hj=>inj i j () ()
  have mul:((k9 pm (k+1)).map w).foldr (λx y=>x*y) 1=w (pm k)*((k9 pm k).map w).foldr (λx y=>x*y) 1:=rfl;refine #[λ#[t,ht,et]=>?_,λh=>?_]
  ·rw[mul];by_cases e:pm k=s
   ·have:=i2 λt' ht' z=>by
     have:=inj t' k () () (z.trans e.symm)
     lia
    rw[e]
    calc w s*_<=Y*X^k:=ay h2 this
     _=X^k*Y:=bY _ _
     _<=X^(k+1)*Y:=aD _ (au hX (qT _))
   ·have:=i1 #[t,by rcases cR t k with z | z;exact z;exact absurd (by rw[show k=t by lia];exact et) e,et]
    calc w (pm k)*_<=X*(X^k*Y):=ay (h1 _ e) this
     _=X^(k+1)*Y:=by rw[eP,<- cu,bY X]
  ·rw[mul,eP,bY (X^k)];exact ay (h1 _ (h k ())) (i2 λt ht=>h t ())
theorem Pt {X Y s:Nat} (hX:1<=X) (hY:1<=Y) (h1:∀r,r≠s->w r<=X) (h2:w s<=Y) (hk:k<=n) (inj:∀i j,i < k->j < k->pm i=pm j->i=j):((k9 pm k).map w).foldr (λx y=>x*y) 1<=X^n*Y:=by
 obtain a|b:=M6 (pm:=pm) (w:=w) hX hY h1 h2 k inj;have up:X^k<=X^n:=au hX hk;by_cases e:∃t,t < k/\pm t=s
 ·exact ag (a e) (aD _ up)
 ·exact ag (b λt ht z=>e #[t,ht,z]) (ag up (c7 _ hY))
theorem Lv (he:ps.9<=n->ps.9<=K0.9+1->ps.9<=e) (hK:∀xs∈K0,xs.9=n) (hL:L.9=n) (n15:n<=15) (D0:0 < D) (E0:0 < E) (w0:1<=W0) (tk:∀xs∈K0,∀x∈xs,Tp D W0 x) (tl:∀x∈L,Tp E W1 x) (RR:cC (c6 (K0++[L]) (List.replicate K0.9 0++[1])) (n+1) R ps) (hn:n∉ps) :
  ∃q:Nat,0 < q/\q<=(16*W0)^e*(16*(W1+E))/\∀y∈ia R ps n,Tp q ((16*W0)^e*(16*(W1+E))) y:=by
 have hw:∀xs∈K0++[L],xs.9=n:=λxs hx=>by
  rcases aA.mp hx with hx | hx
  ·exact hK xs hx
  ·rw[bA.mp hx];exact hL
 have hd:(List.replicate K0.9 (0:Rat)++[1]).9=(K0++[L]).9:=by simp
 have lX:(K0++[L]).9=K0.9+1:=by simp
 have due:∀i,i < K0.9+1->(List.replicate K0.9 (0:Rat)++[1]).getD i 0=if i=K0.9 then 1 else 0:=λi hi=>by
  rw[ae];by_cases ee:i=K0.9
  ·rw[bp (by simp;lia),if_pos ee];simp [ee]
  ·rw[bG (by simp;lia),if_neg ee,gh,if_pos ()];rfl
 have tX:∀i c,Tp (if i=K0.9 then E else D) (if i=K0.9 then W1 else W0) (cL (K0++[L]) i c):=λi c=>by
  by_cases ee:i=K0.9
  ·rw[if_pos ee,if_pos ee,ee];have:=QF (X:=K0) (Y:=[L]) (i:=0);rw[Nat.add_zero] at this;rw[this];exact iE tl c
  ·rw[if_neg ee,if_neg ee];by_cases h:i < K0.9
   ·rw[OE h];unfold cL;rw[ae (l:=K0),af h];exact iE (tk _ (aK h)) c
   ·unfold cL;rw[ae (l:=K0++[L]),a8 (by rw[lX];lia)];exact iE (by intro x z;cases z) c
 have tj:∀xs∈c6 (K0++[L]) (List.replicate K0.9 0++[1]),∀x∈xs,Tp (D*E) (W0*E+W1*D+D*E) x:=KC λi hi c=>by
  rw[kF hd] at hi;obtain j1|j2:=yI hd hw hi;by_cases hc:c < n
  ·rw[j1 c hc];obtain z|ee|b:=tX i c;by_cases h:i=K0.9
   ·rw[if_pos h] at ee b;exact #[z*D,by rw[iD,bc,<- ee,aS];grind,by rw[dk,bW];have:=aD D b;lia]
   ·rw[if_neg h] at ee b;exact #[z*E,by rw[iD,bc,<- ee,aS];grind,by rw[dk,bW];have:=aD E b;lia]
  ·by_cases hc2:c=n
   ·rw[hc2,j2,due i ()]
    split
    ·exact #[(D*E:Nat),by rw[qQ,aS],by rw[bW];lia]
    ·exact #[0,by rw[js];rfl,bg _]
   ·rw[E5 (EY hw) ()];exact #[0,by rw[js];rfl,bg _]
 obtain pm|pinj|plt|kn1|dne:=DG (EY hw) (W:=W0*E+W1*D+D*E) (by have:=a7 D0 E0;lia) (a7 D0 E0) tj RR;rw[kF hd,lX] at plt kn1
 have pl:∀j,j < ps.9->ps.getD j 0 < n:=λj hj=>by
  have lo:=RR.2.2.low j hj;have ne:ps.getD j 0≠n:=λz=>hn (by rw[<- z];exact getD_in hj)
  lia
 have kn:ps.9<=n:=by
  have inc:∀j,j < ps.9->j<=ps.getD j 0:=by
   intro j
   induction j with
   | zero=>intro _;exact bg _
   | succ j ih =>
    intro hj;have:=ih ();have:=RR.2.2.inc j (j+1) () hj
    lia
  rcases hZ ps.9 with z | z
  ·lia
  ·have:=inc (ps.9 - 1) ();have:=pl (ps.9 - 1) ()
   lia
 obtain ⟨g,eg⟩:∃g:Nat->Rat,g=λi=>((if i=K0.9 then E else D:Nat):Rat):=#[_,rfl]
 have gne:∀i,g i≠0:=λi z=>by
  rw[eg] at z;have z:(((if i=K0.9 then E else D:Nat):Int):Rat)=0:=by rw[aS];exact z
  have:=sW z
  split at this <;> lia
 have rlt:∀r∈k9 pm ps.9,r < K0.9+1:=λr hr=>by
  obtain t|ht|rfl:=mB hr;exact plt t ht
 obtain ⟨v,ev⟩:∃v:Nat->iW,v=λj i=>g i*cL (K0++[L]) i (ps.getD j 0):=#[_,rfl]
 obtain ⟨wt,ew⟩:∃wt:Nat->Nat,wt=λi=>if i=K0.9 then W1+E else W0:=#[_,rfl]
 have vint:∀j r,Fr 1 (wt r) (v j r):=λj r=>by
  obtain z|ee|b:=tX r (ps.getD j 0);rw[ev,eg,ew];show Fr 1 _ (_*_)
  rw[eO,ee];refine (Fr.int b).mono ?_
  dsimp only
  split <;> lia
 have bnd:∀{vs:List iW},vs.9<=16->(∀w∈vs,∀r∈k9 pm ps.9,Fr 1 (wt r) (w r))->∃z:Int,jl (k9 pm ps.9) vs=(z:Rat)/\z.natAbs<=(16*W0)^e*(16*(W1+E)):=λ{vs} hl h=>by
  have f:=Ol hl h;obtain z|ez:=vZ f;rw[ez] at f;refine #[z,ez,ag (vn f) (Pt (s:=K0.9) () () (λr hr=>?_) ?_ (he kn kn1) pinj)]
  ·rw[ew];dsimp only;rw[if_neg hr];exact ao _
  ·rw[ew];dsimp only;rw[if_pos rfl];exact ao _
 have den:jl (k9 pm ps.9) (iZ v ps.9)≠0:=by
  have e1:jl (k9 pm ps.9) ([]++iZ v ps.9)=jl (k9 pm ps.9) ([]++iZ (λj i=>g i*cL (c6 (K0++[L]) (List.replicate K0.9 0++[1])) i (ps.getD j 0)) ps.9):=Fb [] λj hj r hr=>by
   have hr:=rlt r hr;obtain j1|_:=yI hd hw (i:=r) (by rw[lX];exact hr);rw[j1 _ (pl j hj),ev]
  have e2:iZ (λj i=>g i*cL (c6 (K0++[L]) (List.replicate K0.9 0++[1])) i (ps.getD j 0)) ps.9=(iZ (λj i=>cL (c6 (K0++[L]) (List.replicate K0.9 0++[1])) i (ps.getD j 0)) ps.9).map λv i=>g i*v i:=(cw_map (τ:=λv i=>g i*v i)).symm
  have e1:jl (k9 pm ps.9) (iZ v ps.9)=jl (k9 pm ps.9) (iZ (λj i=>g i*cL (c6 (K0++[L]) (List.replicate K0.9 0++[1])) i (ps.getD j 0)) ps.9):=e1;rw[e1,e2,v9];intro z;rcases lS.mp z with z | z
  ·exact EA (λr _=>gne r) z
  ·exact dne z
 obtain q|eq|bq:=bnd (vs:=iZ v ps.9) (by rw[cw_len];lia) λw hw r _=>by
  obtain t|_|rfl:=cw_in hw;exact vint t r
 have q0:q≠0:=λz=>den (by rw[eq,z];rfl)
 refine #[q.natAbs,(),bq,λy hy=>?_];rcases Kb RR hy with rfl | ⟨i,hi,rfl⟩
 ·exact #[0,by rw[js];rfl,bg _]
 ·have hW:∀r∈k9 pm ps.9,g r*(if r=K0.9 then 1 else 0)=bS ps.9 λj=>cL R j n*v j r:=λr hr=>by
   have hr:=rlt r hr;rw[<- due r hr,QY hd hw RR hn (i:=r) (by rw[lX];exact hr),<- cW];refine aY λj hj=>?_
   rw[ev]
   dsimp only
   grind
  have cr:=yj (v:=v) (c:=λj=>cL R j n) (W:=λr=>g r*(if r=K0.9 then 1 else 0)) hi hW
  obtain z|ez|bz:=bnd (vs:=DF v i ps.9++(λr=>g r*(if r=K0.9 then 1 else 0)) :: iZ v i) (by
   have:=congrArg List.length (cw_split (v:=v) hi);rw[aw,bO,cw_len] at this;rw[aw,bO]
   lia) λw hw r _=>by
    rcases aA.mp hw with hw | hw
    ·obtain s|_|rfl:=Hu hw;exact vint s r
    ·rcases aG.mp hw with rfl | hw
     ·dsimp only
      by_cases ee:r=K0.9
      ·rw[if_pos ee,xp,eg,ew]
       dsimp only
       rw[if_pos ee,if_pos ee,<- aS];exact Fr.int (by rw[bW];lia)
      ·rw[if_neg ee,gM];exact Fr.zero
     ·obtain s|_|rfl:=cw_in hw;exact vint s r
  rw[ez,eq] at cr;have key:cL R i n*(q:Rat)=(z:Rat):=cr.symm;rcases TC q with h | h
  ·have hq:((q.natAbs:Nat):Rat)=(q:Rat):=by rw[<- aS,<- h]
   exact #[z,by rw[hq,key],bz]
  ·have hq:((q.natAbs:Nat):Rat)=-(q:Rat):=by rw[<- aS,<- dZ];congr 1;lia
   exact #[-z,by rw[hq,dZ,<- key];grind,by rw[uL];exact bz]
theorem Nl (hK:∀xs∈K0,xs.9=n) (hL:L.9=n) (n15:n<=15) (D0:0 < D) (E0:0 < E) (w0:1<=W0) (tk:∀xs∈K0,∀x∈xs,Tp D W0 x) (tl:∀x∈L,Tp E W1 x) (RR:cC (c6 (K0++[L]) (List.replicate K0.9 0++[1])) (n+1) R ps) (hn:n∉ps) :
  ∃q:Nat,0 < q/\q<=(16*W0)^n*(16*(W1+E))/\∀y∈ia R ps n,Tp q ((16*W0)^n*(16*(W1+E))) y :=
 Lv (λh _=>h) hK hL n15 D0 E0 w0 tk tl RR hn
end
def jI (mv:LR9):Nat->List Rat->List Rat
 | 0,x=>x
 | t+1,x=>qW mv (jI mv t x)
section
variable {mv pt lk pus:LR9} {st pu go:List Rat} {n t T c:Nat}
theorem jQ (h:st.9=mv.9):∀t,(jI mv t st).9=mv.9
 | 0=>h
 | _+1=>ED
theorem Jv {x y:List Rat} (h:x.9=y.9) (e:∀c,c < x.9->x.getD c 0=y.getD c 0):x=y:=by
 apply fD h;intro c h1 h2;have:=e c h1;rwa [ae,ae,af h1,af h2] at this
theorem Up (wm:∀xs∈mv,xs.9=mv.9) (h:st.9=mv.9) (hc:c < mv.9):(qW mv st).getD c 0=bS mv.9 λj=>cL mv c j*st.getD j 0:=by
 have e:(qW mv st).getD c 0=cm mv[c] st:=by
  unfold qW;rw[ae,aF,af hc];rfl
 have wc:=wm _ (aK hc);rw[e,c8 (),wc];refine aY λj _=>?_
 unfold cL;rw[ae (l:=mv),af hc];rfl
theorem NH (D:eQ mv pt lk) (h:st.9=mv.9) (hp:pu.9=pt.9) (hc:c < mv.9):(iC mv pt st pu).getD c 0=bS mv.9 (λj=>cL mv c j*st.getD j 0)+bS pt.9 λi=>pu.getD i 0*cL pt i c:=by
 have wc:=D.mw _ (aK hc)
 have e:(iC mv pt st pu).getD c 0=cm (mv[c]++pt.map λxs=>xs.getD c 0) (st++pu):=by
  unfold iC;rw[ae,bN,af hc,qZ hc];rfl
 rw[e,sS (),c8 (),c8 (by rw[aj];lia),wc,aj];congr 1
 ·refine aY λj _=>?_
  unfold cL;rw[ae (l:=mv),af hc];rfl
 ·refine aY λi hi=>?_
  rw[eO];congr 1;unfold cL;rw[ae,aF,ae (l:=pt),af hi];rfl
theorem kM:∀t,(kry mv pt t).9=t*pt.9
 | 0=>by rw[Nat.zero_mul];rfl
 | t+1=>by
  show (pt++(kry mv pt t).map (qW mv)).9=_
  rw[aw,aj,kM t,dw,nF]
theorem JW (D:eQ mv pt lk) (ls:st.9=mv.9):∀k,k<=pus.9->(∀xs∈pus,xs.9=pt.9)->∀c,c < mv.9->(qU mv pt st pus k).getD c 0=(jI mv k st).getD c 0+bS (kry mv pt k).9 λi=>((pus.take k).reverse.flatten).getD i 0*cL (kry mv pt k) i c:=by
 intro k
 induction k with
 | zero =>
  intro _ _ c _;show st.getD c 0=st.getD c 0+0
  grind
 | succ k ih =>
  intro hk hp c hc;have hk':k < pus.9:=hk;have e:=af hk';have hl:=hp _ (aK hk');have ls':=o7 (pt:=pt) (pus:=pus) ls (k:=k) ()
  have lf:((pus.take k).reverse.flatten).9=(kry mv pt k).9:=by
   rw[kM,GU (i:=pt.9) λxs hx=>hp xs (cK (kQ.mp hx)),jg,cN,OW ()]
  rw[rj e,NH D ls' hl hc]
  have er:(pus.take (k+1)).reverse.flatten=pus[k]++(pus.take k).reverse.flatten:=by
   rw[take_snoc e,List.reverse_append];simp
  have ek:kry mv pt (k+1)=pt++(kry mv pt k).map (qW mv):=rfl;rw[er,ek,aw,aj,xD]
  have p1:(bS pt.9 λi=>(pus[k]++(pus.take k).reverse.flatten).getD i 0*cL (pt++(kry mv pt k).map (qW mv)) i c)=bS pt.9 λi=>pus[k].getD i 0*cL pt i c:=aY λi hi=>by
   rw[OE hi,ae,bG (),ae]
  have p2:(bS (kry mv pt k).9 λi=>(pus[k]++(pus.take k).reverse.flatten).getD (pt.9+i) 0*cL (pt++(kry mv pt k).map (qW mv)) (pt.9+i) c)=bS mv.9 λj=>cL mv c j*bS (kry mv pt k).9 λi=>((pus.take k).reverse.flatten).getD i 0*cL (kry mv pt k) i j:=by
   have q1:∀i,i < (kry mv pt k).9->(pus[k]++(pus.take k).reverse.flatten).getD (pt.9+i) 0*cL (pt++(kry mv pt k).map (qW mv)) (pt.9+i) c=bS mv.9 λj=>cL mv c j*(((pus.take k).reverse.flatten).getD i 0*cL (kry mv pt k) i j):=λi hi=>by
    rw[QF,Nx rfl D.mw (fj rfl D.pw k) hi,ae,bp (),hl,Nat.add_sub_cancel_left,<- ae,<- cW];exact aY λj _=>by grind
   rw[aY q1,gP];exact aY λj _=>cW
  rw[p1,p2];have p3:(jI mv (k+1) st).getD c 0=bS mv.9 λj=>cL mv c j*(jI mv k st).getD j 0:=Up D.mw (jQ ls k) hc
  rw[p3]
  have p4:(bS mv.9 λj=>cL mv c j*(qU mv pt st pus k).getD j 0)=(bS mv.9 λj=>cL mv c j*(jI mv k st).getD j 0)+bS mv.9 λj=>cL mv c j*bS (kry mv pt k).9 λi=>((pus.take k).reverse.flatten).getD i 0*cL (kry mv pt k) i j:=by
   rw[<- rh];refine aY λj hj=>?_
   rw[ih () hp j hj];grind
  rw[p4];grind
end
section
variable {mv pt lk pus R:LR9} {st pu go w pr L:List Rat} {n t T c u k:Nat} {ps:List Nat}
theorem MJ (D:eQ mv pt lk) (ls:st.9=mv.9):qU mv pt st (List.replicate T (List.replicate pt.9 0)) T=jI mv T st:=by
 have l1:=o7 (pt:=pt) (pus:=List.replicate T (List.replicate pt.9 0)) ls (k:=T) (by rw[aQ];exact ao _);refine Jv (by rw[l1,jQ ls]) λc hc=>?_
 rw[l1] at hc;rw[JW D ls T (by rw[aQ];exact ao _) (λxs hx=>by rw[(fB.mp hx).2,aQ]) c hc,dm λi _=>?_,tO]
 have z:(((List.replicate T (List.replicate pt.9 (0:Rat))).take T).reverse.flatten).getD i 0=0:=by
  rw[ae];cases e:(((List.replicate T (List.replicate pt.9 (0:Rat))).take T).reverse.flatten)[i]? with
  | none=>rfl
  | some y =>
   have:=av e;obtain l|hl|hy:=eo.mp this;have hl:=cK (kQ.mp hl);rw[(fB.mp hl).2] at hy;exact (fB.mp hy).2
 rw[z,js]
def cQ (mv:LR9) (T:Nat) (st go:List Rat):List Rat:=List.zipWith (λx y=>x - y) go (jI mv T st)
theorem vX (ls:st.9=mv.9) (lg:go.9=mv.9):(cQ mv T st go).9=mv.9:=by
 unfold cQ;rw[bD,jQ ls,lg,fN]
theorem RD {x y:List Rat} (h:x.9=y.9) (hc:c < x.9):(List.zipWith (λx y=>x - y) x y).getD c 0=x.getD c 0 - y.getD c 0:=by
 rw[ae,bN,ae (l:=x),ae (l:=y),af hc,af ()];rfl
theorem Kt:∀u,∃Z,kry mv pt (u+1)=kry mv pt u++Z
 | 0=>#[pt++[],rfl]
 | u+1=>by
  obtain Z|e:=Kt u;refine #[Z.map (qW mv),?_];show pt++(kry mv pt (u+1)).map (qW mv)=(pt++(kry mv pt u).map (qW mv))++_
  rw[e,cG,cF]
theorem Bv {u:Nat}:∀s,∃Z,kry mv pt (u+s)=kry mv pt u++Z
 | 0=>#[[],by rw[lU];rfl]
 | s+1=>by
  obtain Z|e:=Bv (u:=u) s;obtain Y|e':=Kt (mv:=mv) (pt:=pt) (u+s);exact #[Z++Y,by rw[<- Nat.add_assoc,e',e,cF]]
def Hv (w:List Rat) (u k:Nat):LR9:=(List.range u).map λt=>(w.drop (t*k)).take k
theorem BM:∀{u:Nat} {w:List Rat},w.9=u*k->(Hv w u k).flatten=w
 | 0,w,h=>by
  rw[Nat.zero_mul] at h;rw[List.length_eq_zero_iff.mp h];rfl
 | u+1,w,h=>by
  have e:Hv w (u+1) k=Hv (w.take (u*k)) u k++[w.drop (u*k)]:=by
   unfold Hv;rw[OX,cG];congr 1
   ·refine List.map_congr_left λt ht=>?_
    have ht:=uK.mp ht;have:t*k+k<=u*k:=by rw[<- dw];exact aD _ ht
    rw[List.drop_take,List.take_take,OW ()]
   ·show [(w.drop (u*k)).take k]=_
    rw[aJ (by rw[Mr,h,dw];lia)]
  rw[e,eY,BM (by rw[cN,h,dw];lia)];simp
theorem UJ (h:w.9=u*k):∀xs∈Hv w u k,xs.9=k:=λxs hx=>by
 obtain t|ht|rfl:=aE.mp hx;have ht:=uK.mp ht;have:t*k+k<=u*k:=by rw[<- dw];exact aD _ ht
 rw[cN,Mr]
 lia
def Ct (w:List Rat) (T u k:Nat):LR9:=List.replicate (T - u) (List.replicate k 0)++(Hv w u k).reverse
theorem P9 (hu:u<=T):(Ct w T u k).9=T:=by
 unfold Ct Hv;rw[aw,aQ,jg,aj,bZ]
 lia
theorem Q2 (h:w.9=u*k):∀xs∈Ct w T u k,xs.9=k:=λxs hx=>by
 rcases aA.mp hx with hx | hx
 ·rw[(fB.mp hx).2,aQ]
 ·exact UJ h xs (kQ.mp hx)
theorem M7:(List.replicate T (List.replicate k (0:Rat))).flatten=List.replicate (T*k) 0:=by
 rw[List.flatten_replicate_replicate]
theorem JC (D:eQ mv pt lk) (ls:st.9=mv.9) (lg:go.9=mv.9) (hu:u<=T) (hw:w.9=(kry mv pt u).9) (e:O3 (kry mv pt u) w mv.9=cQ mv T st go):qU mv pt st (Ct w T u pt.9) T=go:=by
 have hw':w.9=u*pt.9:=by rw[hw,kM]
 have lp:=P9 (w:=w) (k:=pt.9) hu;have l1:=o7 (pt:=pt) (pus:=Ct w T u pt.9) ls (k:=T) ();refine Jv (by rw[l1,lg]) λc hc=>?_
 rw[l1] at hc;rw[JW D ls T () (Q2 hw') c hc,aJ ()]
 have er:(Ct w T u pt.9).reverse.flatten=w++List.replicate ((T - u)*pt.9) 0:=by
  unfold Ct;rw[List.reverse_append,List.reverse_reverse,eY,BM hw',List.reverse_replicate,M7]
 obtain Z|eZ:=Bv (mv:=mv) (pt:=pt) (u:=u) (T - u);rw[show u+(T - u)=T by lia] at eZ;rw[er,eZ,aw,xD]
 have p1:(bS (kry mv pt u).9 λi=>(w++List.replicate ((T - u)*pt.9) 0).getD i 0*cL (kry mv pt u++Z) i c)=(cQ mv T st go).getD c 0:=by
  rw[<- e,zU hc,hw];exact aY λi hi=>by rw[OE hi,ae,bG (),ae]
 have p2:(bS Z.9 λi=>(w++List.replicate ((T - u)*pt.9) 0).getD ((kry mv pt u).9+i) 0*cL (kry mv pt u++Z) ((kry mv pt u).9+i) c)=0:=dm λi _=>by
  have z:(w++List.replicate ((T - u)*pt.9) (0:Rat)).getD ((kry mv pt u).9+i) 0=0:=by
   rw[ae,bp (),gh]
   split <;> rfl
  rw[z,js]
 rw[p1,p2,tO];unfold cQ;rw[RD (by rw[lg,jQ ls]) ()];grind
theorem Lz (wp:∀xs∈pt,xs.9=mv.9) (RRu:cC (kry mv pt u) mv.9 R ps) (RRT:cC (kry mv pt T) mv.9 R ps') (lp:pr.9=mv.9) (h:∀xs∈kry mv pt u,cm xs pr=0):∀xs∈kry mv pt T,cm xs pr=0:=λxs hx=>by
 have wu:=fj (mv:=mv) rfl wp u;have wT:=fj (mv:=mv) rfl wp T;obtain i|hi|rfl:=bE hx;have s1:fK (kry mv pt u).9 (cL (kry mv pt u)) (cL (kry mv pt T) i):=fK.trans (λt ht=>RRu.2.2.back t (by rw[<- RRu.1,RRT.1];exact ht)) (RRT.2.2.span i hi);obtain v|hv:=s1
 have fn:∀{X:LR9} {i:Nat} (h:i < X.9) (c:Nat),X[i].getD c 0=cL X i c:=λ{X i} h c=>by
  unfold cL;rw[ae (l:=X),af h];rfl
 have w1:=wT _ (aK hi);rw[c8 (),w1]
 have e1:(bS mv.9 λc=>(kry mv pt T)[i].getD c 0*pr.getD c 0)=bS (kry mv pt u).9 λt=>v t*bS mv.9 λc=>cL (kry mv pt u) t c*pr.getD c 0:=by
  have q:∀c,c < mv.9->(kry mv pt T)[i].getD c 0*pr.getD c 0=bS (kry mv pt u).9 λt=>v t*(cL (kry mv pt u) t c*pr.getD c 0):=λc _=>by
   rw[fn hi c,hv c,eO,<- cW];exact aY λt _=>by grind
  rw[aY q,gP];exact aY λt _=>cW
 rw[e1];refine dm λt ht=>?_
 have w2:=wu _ (aK ht);have:=h _ (aK ht);rw[c8 (),w2] at this
 have q:(bS mv.9 λc=>cL (kry mv pt u) t c*pr.getD c 0)=0:=by
  refine Eq.trans ?_ this;exact aY λc _=>by rw[fn ht c]
 rw[q,gM]
end
def ES (l:Addr):Hp:=λq=>if q=l then some (.lst []) else none
theorem off_ne:ES l l≠none:=by unfold ES;rw[if_pos rfl];exact λz=>nomatch z
theorem NA (h:q≠l):ES l q=none:=by unfold ES;rw[if_neg h]
def Iy (K:FG9) (l:Addr) (H:Hp) (R:LR9) (v:V):Prop:=∃q,v=V.ref q/\q≠l/\bL K (ES l) H q R
section
variable {K:FG9} {H0 H H':Hp} {l p q:Addr} {R:LR9} {v:V} {mv pt:LR9} {u T:Nat}
theorem bL.off (h:bL K H0 H p R) (hl:H l=none):p≠l/\bL K (ES l) H p R:=by
 obtain xs|g|r|n:=h;refine #[λz=>(by rw[z,hl] at g;cases g),xs,g,Paired.imp' (λ_ _ #[q,a,b,c]=>#[q,a,NA λz=>?_,c]) r,n];obtain _|gg|_:=c;rw[z,hl] at gg;cases gg
theorem Iy.same (h:Iy K l H R v) (s:aH H H'):Iy K l H' R v:=by obtain q|a|b|c:=h;exact #[q,a,b,c.same s]
theorem Iy.upd {ys zs:List V} (h:Iy K l H R v) (g:H l=some (.lst ys)):Iy K l (upd H l (.lst zs)) R v:=by obtain q|a|b|c:=h;exact #[q,a,b,c.updL g off_ne b]
def CM (mv pt:LR9) (u:Nat):List (LR9):=(List.range u).map λs=>pt.map (jI mv s)
theorem Ad:CM mv pt (u+1)=CM mv pt u++[pt.map (jI mv u)]:=by unfold CM;rw[OX,cG];rfl
theorem je:∀u,(CM mv pt u).flatten=kry mv pt u
 | 0=>rfl
 | u+1=>by
  have e:CM mv pt (u+1)=pt :: (CM mv pt u).map (List.map (qW mv)):=by
   unfold CM;rw[List.range_succ_eq_map,iL,tP];congr 1
   ·exact iJ pt
   ·rw[tP];refine List.map_congr_left λs _=>?_
    show pt.map (jI mv (s+1))=(pt.map (jI mv s)).map (qW mv)
    rw[tP];rfl
  rw[e,dR,<- List.map_flatten,je u];rfl
end
inductive FW (K:FG9) (C:Addr) (vs:List V) (H:Hp) (Q:VK) (E9:XK):Prop
 | mk (x:Addr) (T:Nat) (H0:Hp) (mv pt lk:LR9):vs=[.ref x,.int T]->T<=100->kg K H0 H C x mv pt lk->eQ mv pt lk->(∀r H',H r=none->aH H H'->bL K H H' r (List.replicate T (List.replicate pt.9 0))->Q (.ref r) H')->FW K C vs H Q E9
inductive F3 (K:FG9) (C:Addr) (vs:List V) (H:Hp) (Q:VK) (E9:XK):Prop
 | mk (x s g:Addr) (T:Nat) (H0:Hp) (mv pt lk:LR9) (st go:List Rat):vs=[.ref x,.ref s,.ref g,.int T]->T<=99->kg K H0 H C x mv pt lk->eQ mv pt lk->Iu mv pt lk->bV K H s st->st.9=mv.9->bV K H g go->go.9=mv.9->CU mv pt st (List.replicate T (List.replicate pt.9 0))->(∀x∈go,iI x)->(∀r H',H r=none->aH H H'->bV K H' r (cQ mv T st go)->Q (.ref r) H')->F3 K C vs H Q E9
structure Tz (mv pt:LR9) (L:List Rat) (D W0 E W1:Nat):Prop where
 d0:0 < D
 e0:0 < E
 w0:1<=W0
 w1:1<=W1
 tk:∀u,u<=mv.9->∀xs∈kry mv pt u,∀x∈xs,Tp D W0 x
 tl:∀x∈L,Tp E W1 x
 de:D*E<=2^4300000
 sw:∃w,W0*E+W1*D+D*E<=2^w/\w<=4300000/\(mv.9+1)*(w+4)<=8900000
theorem Tz.join (F:Tz mv pt L D W0 E W1) (hd:due.9=rows.9) (h1:∀xs∈rows,∀x∈xs,Tp (D*E) (W0*E+W1*D+D*E) x) (h2:∀x∈due,Tp (D*E) (W0*E+W1*D+D*E) x) (n8:mv.9<=8) (hm:min rows.9 n'<=mv.9+1):∃w,DY (c6 rows due) n' w:=by
 obtain w|b1|b2|b3:=F.sw;have:=a7 F.d0 F.e0;refine #[w,D*E,W0*E+W1*D+D*E,a7 F.d0 F.e0,F.de,(),b1,λxs hx x hx'=>?_,b2,by rw[kF hd];lia,by rw[kF hd];exact ag (aD _ hm) b3];unfold c6 at hx;obtain i|hi|rfl:=bE hx;rw[dg] at hx';rcases aA.mp hx' with z | z
 ·exact h1 _ (aK _) x z
 ·rw[bA.mp z];exact h2 _ (aK _)
theorem Tp.up (h:Tp M W q) (k:Nat) (hx:W*k<=x):Tp (M*k) x q:=by
 obtain z|e|b:=h;exact #[z*k,by rw[iD,bc,<- e,aS];grind,by rw[dk,bW];exact ag (aD _ b) hx]
structure UN (mv pt:LR9) (st pu:List Rat):Prop where
 f2:∀xs∈mv,zS xs st
 part:∀kk,∀x∈nextK mv pt st pu kk,iI x
 su:∀u∈pu,iI u
 sp:∀row∈pt,∀y∈row,iI y
 mul:∀u∈pu,∀row∈pt,∀y∈row,iI (u*y)
inductive FX (K:FG9) (vs:List V) (H:Hp) (Q:VK) (E9:XK):Prop
 | mk (r s u:Addr) (H0:Hp) (mv pt lk:LR9) (st pu:List Rat):vs=[.ref r,.ref s,.ref u]->eT K H0 H r mv pt lk->eQ mv pt lk->bV K H s st->bV K H u pu->st.9=mv.9->pu.9=pt.9->UN mv pt st pu->(∀t H',H t=none->aH H H'->bV K H' t (iC mv pt st pu)->Q (.ref t) H')->FX K vs H Q E9
structure Bd (mv pt:LR9) (M1 M2 V a1 a2 c:Nat):Prop where
 m1:0 < M1
 m2:0 < M2
 b1:M1<=2^a1
 b2:M2<=2^a2
 gm:GF M1 V mv
 gp:GF M2 V pt
 vc:(mv.9+4)*V<=2^c
section
variable {mv pt lk pus:LR9} {st pu go:List Rat} {M1 M2 V a1 a2 c N Np p t T ν:Nat}
theorem Bd.v1 (B:Bd mv pt M1 M2 V a1 a2 c):V<=2^c:=ag (di _ ()) B.vc
theorem qq (h0:0 < M) (h1:M<=2^a) (h2:W<=2^b) (hab:a+b<=3990000) (h:Fr M W x):iI x:=by
 refine xy (Tp.of h (ao _)) h0 (ag h1 (au () ())) ?_;refine ag (ay h2 h1) ?_;rw[<- aB];exact au () ()
theorem Bd.next (B:Bd mv pt M1 M2 V a1 a2 c) (D:eQ mv pt lk) (ls:st.9=mv.9) (lu:pu.9=pt.9) (N0:0 < N) (dv:M2*Np∣M1*N) (hs:∀x∈st,Fr N (2^p) x) (hu:∀x∈pu,Fr Np (2^p) x) (hN:N<=2^ν) (sz:a1+ν+c+p<=3900000) (sp2:a2+c<=3900000):UN mv pt st pu/\∀x∈iC mv pt st pu,Fr (M1*N) (2^(c+p)) x:=by
 have V1:=B.v1;have i4:=D.i4;have MN0:0 < M1*N:=a7 B.m1 N0;have MN:M1*N<=2^(a1+ν):=by rw[aB];exact ay B.b1 hN
 have Np0:0 < Np:=by
  rcases hZ Np with z | z
  ·rw[z,Ag] at dv;have:=UW dv
   lia
  ·exact z
 have NpMN:Np<=M1*N:=ag (di _ B.m2) (jJ MN0 dv)
 have one:∀u∈pu,∀row∈pt,∀y∈row,Fr (M1*N) (V*2^p) (u*y):=λu hu' row hr y hy=>by
  have:=(B.gp row hr y hy).mul (hu u hu');rw[eO];exact this.dvd dv
 have part:∀kk,kk<=pt.9->∀x∈nextK mv pt st pu kk,Fr (M1*N) (2^(c+p)) x:=λkk hkk x hx=>by
  obtain j|hj|e:=bE hx;rw[jE] at hj;have e2:=Bj (mv:=mv) (pt:=pt) (st:=st) (pu:=pu) (k:=kk) hj;rw[ae,af (by rw[jE];exact hj)] at e2;have e3:x=cm (mv[j]++(pt.map λxs=>xs.getD j 0).take kk) (st++pu.take kk):=by rw[<- e,<- e2];rfl
  have wj:=D.mw _ (aK hj);rw[e3,sS ()];have f1:=Fr.dot (B.gm _ (aK hj)) hs;rw[wj] at f1
  have f2:Fr (M1*N) (4*(V*2^p)) (cm ((pt.map λxs=>xs.getD j 0).take kk) (pu.take kk)):=by
   have hc:∀y∈(pt.map λxs=>xs.getD j 0).take kk,Fr M2 V y:=λy hy=>by
    obtain xs|hxs|rfl:=aE.mp (cK hy);rw[ae];cases e:xs[j]? with
    | none=>exact Fr.zero
    | some z=>exact B.gp xs hxs z (av e)
   have:=Fr.dot (ys:=pu.take kk) hc (λy hy=>hu y (cK hy));refine (this.dvd dv).mono (aD _ ?_);rw[cN,aj]
   lia
  refine (f1.add f2).mono ?_;rw[<- OO,aB,<- cu];exact aD _ B.vc
 have szb:∀{x:Rat},Fr (M1*N) (2^(c+p)) x->iI x:=λh=>qq MN0 MN (ao _) () h
 have all:∀kk,∀x∈nextK mv pt st pu kk,Fr (M1*N) (2^(c+p)) x:=λkk x hx=>by
  rcases cR pt.9 kk with z | z
  ·have e:nextK mv pt st pu kk=nextK mv pt st pu pt.9:=(tH () ()).trans (tH (ao _) ()).symm;rw[e] at hx;exact part _ (ao _) x hx
  ·exact part kk z x hx
 refine #[#[λxs hx=>#[a1,c,ν,p,#[M1,V,B.m1,B.b1,V1,B.gm xs hx],#[N,2^p,N0,hN,ao _,hs],()],λkk x hx=>szb (all kk x hx),λu hu'=>?_,λrow hr y hy=>?_,λu hu' row hr y hy=>szb ((one u hu' row hr y hy).mono (by rw[aB];exact aD _ V1))],λx hx=>?_]
 ·exact qq Np0 (ag NpMN MN) (ao _) () (hu u hu')
 ·exact qq B.m2 B.b2 V1 () (B.gp row hr y hy)
 ·rw[<- tH (k:=pt.9) (ao _) ()] at hx;exact all _ x hx
end
section
variable {mv pt lk pus:LR9} {st pu go:List Rat} {M1 M2 V a1 a2 c N Np p t T ν k:Nat}
def K9 (mv pt pus:LR9) (st:List Rat):Prop:=∃M1 M2 V a1 a2 c N Np p ν,Bd mv pt M1 M2 V a1 a2 c/\0 < N/\N<=2^ν/\M2*Np∣N/\(∀x∈st,Fr N (2^p) x)/\(∀xs∈pus,∀x∈xs,Fr Np (2^p) x)/\a1*(pus.9+1)+ν+c*(pus.9+1)+p<=3900000/\a2+c<=3900000
theorem fV (h:M<=2^a) (hN:N<=2^ν):M^t*N<=2^(a*t+ν):=by
 rw[aB,qR];exact ay (lA h t) hN
theorem Bd.states (B:Bd mv pt M1 M2 V a1 a2 c) (D:eQ mv pt lk) (ls:st.9=mv.9) (wp:∀xs∈pus,xs.9=pt.9) (N0:0 < N) (hN:N<=2^ν) (dv:M2*Np∣N) (hs:∀x∈st,Fr N (2^p) x) (hu:∀xs∈pus,∀x∈xs,Fr Np (2^p) x) (sz:a1*(pus.9+1)+ν+c*(pus.9+1)+p<=3900000) (sp2:a2+c<=3900000):∀k,k<=pus.9->(∀x∈qU mv pt st pus k,Fr (M1^k*N) (2^(c*k+p)) x)/\∀pu,pus[k]?=some pu->UN mv pt (qU mv pt st pus k) pu:=by
 have key:∀k,k<=pus.9->(∀x∈qU mv pt st pus k,Fr (M1^k*N) (2^(c*k+p)) x)->∀pu,pus[k]?=some pu->UN mv pt (qU mv pt st pus k) pu/\∀x∈iC mv pt (qU mv pt st pus k) pu,Fr (M1*(M1^k*N)) (2^(c+(c*k+p))) x:=λk hk f pu hpu=>by
  have mp:=av hpu;have kl:=(aM.mp hpu).1;have e1:a1*(k+1)<=a1*(pus.9+1):=ax _ ();have e2:c*(k+1)<=c*(pus.9+1):=ax _ ();rw[dC,ON] at e1 e2;refine B.next D (o7 ls hk) (wp pu mp) (a7 (dq B.m1) N0) ?_ f (λx hx=>(hu pu mp x hx).mono (au () (Nat.le_add_left _ _))) (fV B.b1 hN) () sp2;exact gX dv (gX (cM _ _) (cM _ _))
 have fr:∀k,k<=pus.9->∀x∈qU mv pt st pus k,Fr (M1^k*N) (2^(c*k+p)) x:=by
  intro k
  induction k with
  | zero =>
   intro _ x hx;rw[Nat.pow_zero,qS,Ag,Nat.zero_add];exact hs x hx
  | succ k ih =>
   intro hk x hx;have e:=af (show k < pus.9 by lia);rw[rj e] at hx;have:=(key k () (ih ()) _ e).2 x hx;rw[<- cu,bY M1,<- eP,show c+(c*k+p)=c*(k+1)+p by rw[dC];lia] at this;exact this
 exact λk hk=>#[fr k hk,λpu hpu=>(key k hk (fr k hk) pu hpu).1]
theorem K9.nx (h:K9 mv pt pus st) (D:eQ mv pt lk) (ls:st.9=mv.9) (wp:∀xs∈pus,xs.9=pt.9) (hk:k<=pus.9) (hpu:pus[k]?=some pu):UN mv pt (qU mv pt st pus k) pu:=by
 obtain M1|M2|V|a1|a2|c|N|Np|p|ν|B|N0|hN|dv|hs|hu|sz|sp2:=h;exact (B.states D ls wp N0 hN dv hs hu sz sp2 k hk).2 pu hpu
theorem K9.szn (h:K9 mv pt pus st) (D:eQ mv pt lk) (ls:st.9=mv.9) (wp:∀xs∈pus,xs.9=pt.9) (hk:k<=pus.9):∀x∈qU mv pt st pus k,iI x:=λx hx=>by
 obtain M1|M2|V|a1|a2|c|N|Np|p|ν|B|N0|hN|dv|hs|hu|sz|sp2:=h;have e1:a1*k<=a1*(pus.9+1):=ax _ ();have e2:c*k<=c*(pus.9+1):=ax _ ();exact qq (a7 (dq B.m1) N0) (fV B.b1 hN) (ao _) () ((B.states D ls wp N0 hN dv hs hu sz sp2 k hk).1 x hx)
def UT (mv:LR9) (st:List Rat) (T:Nat):Prop:=∃M1 V a1 c N p ν,0 < M1/\M1<=2^a1/\GF M1 V mv/\(mv.9+4)*V<=2^c/\0 < N/\N<=2^ν/\(∀x∈st,Fr N (2^p) x)/\a1*(T+1)+ν+c*(T+1)+p<=3900000
theorem Nn (gm:GF M1 V mv) (wm:∀xs∈mv,xs.9=mv.9) (vc:(mv.9+4)*V<=2^c) (ls:st.9=mv.9) (hs:∀x∈st,Fr N (2^p) x):∀t,∀x∈jI mv t st,Fr (M1^t*N) (2^(c*t+p)) x:=by
 intro t
 induction t with
 | zero =>
  intro x hx;rw[Nat.pow_zero,qS,Ag,Nat.zero_add];exact hs x hx
 | succ t ih =>
  intro x hx;obtain row|hr|rfl:=aE.mp (show x∈mv.map λxs=>cm xs (jI mv t st) from hx);have f:=Fr.dot (gm row hr) ih;rw[<- cu,bY M1,<- eP] at f;refine f.mono ?_;rw[wm row hr,<- cu,show c*(t+1)+p=c+(c*t+p) by rw[dC];lia,aB 2 c];exact aD _ (ag (aD V (show mv.9<=mv.9+4 by lia)) vc)
theorem UT.fit (h:UT mv st T) (wm:∀xs∈mv,xs.9=mv.9) (ls:st.9=mv.9) (ht:t<=T):(∀xs∈mv,zS xs (jI mv t st))/\∀x∈jI mv t st,iI x:=by
 obtain M1|V|a1|c|N|p|ν|m0|m1|gm|vc|N0|hN|hs|sz:=h;have f:=Nn gm wm vc ls hs t;have V1:V<=2^c:=ag (di _ ()) vc;have e1:a1*t<=a1*T:=ax _ ht;have e2:c*t<=c*T:=ax _ ht;rw[dC,dC,ON,ON] at sz;exact #[λxs hx=>#[a1,c,a1*t+ν,c*t+p,#[M1,V,m0,m1,V1,gm xs hx],#[M1^t*N,2^(c*t+p),a7 (dq m0) N0,fV m1 hN,ao _,f],()],λx hx=>qq (a7 (dq m0) N0) (fV m1 hN) (ao _) () (f x hx)]
def OV (mv pt:LR9) (T:Nat):Prop:=∃M1 M2 V a1 a2 c,Bd mv pt M1 M2 V a1 a2 c/\a1*(T+1)+a2+c*(T+2)<=3900000
theorem OV.row (h:OV mv pt T) (wm:∀xs∈mv,xs.9=mv.9) (wp:∀xs∈pt,xs.9=mv.9):∀xs∈pt,UT mv xs T:=λxs hx=>by
 obtain M1|M2|V|a1|a2|c|B|sz:=h;refine #[M1,V,a1,c,M2,c,a2,B.m1,B.b1,B.gm,B.vc,B.m2,B.b2,λx hx'=>(B.gp xs hx x hx').mono B.v1,?_];rw[dC c T 2] at sz;rw[dC c T 1]
 lia
end
inductive J7 (K:FG9) (vs:List V) (H:Hp) (Q:VK) (E9:XK):Prop
 | mk (r s p:Addr) (H0 H1:Hp) (mv pt lk pus:LR9) (st:List Rat):vs=[.ref r,.ref s,.ref p]->eT K H0 H r mv pt lk->eQ mv pt lk->bV K H s st->st.9=mv.9->bL K H1 H p pus->pus.9<=100->(∀xs∈pus,xs.9=pt.9)->K9 mv pt pus st->(∀t H',H t=none->aH H H'->bV K H' t (qU mv pt st pus pus.9)->Q (.ref t) H')->J7 K vs H Q E9
inductive Dk (K:FG9) (vs:List V) (H:Hp) (Q:VK) (E9:XK):Prop
 | mk (r s:Addr) (T:Nat) (H0:Hp) (mv pt lk:LR9) (st:List Rat):vs=[.ref r,.ref s,.int T]->T<=100->eT K H0 H r mv pt lk->eQ mv pt lk->bV K H s st->st.9=mv.9->UT mv st T->(∀t H',H t=none->aH H H'->bV K H' t (jI mv T st)->Q (.ref t) H')->Dk K vs H Q E9
inductive Dm (K:FG9) (vs:List V) (H:Hp) (Q:VK) (E9:XK):Prop
 | mk (r:Addr) (T:Nat) (H0:Hp) (mv pt lk:LR9):vs=[.ref r,.int T]->T<=20->eT K H0 H r mv pt lk->eQ mv pt lk->OV mv pt T->(∀q H',H q=none->aH H H'->bL K H H' q (kry mv pt T)->Q (.ref q) H')->Dm K vs H Q E9
section
variable {X:Cx}
theorem L8 (hc:X.calm=true):nB X (.builtin "max") (λxs H Q=>∃(p:Addr) (ns:List Int),xs=[.ref p]/\bR X.K H p (ns.map V.int)/\0 < ns.9/\∀M,M∈ns->(∀a,a∈ns->a<=M)->Q (.int M) H):=by
 intro pins s σ H xs us Q I r h;obtain p|ns|rfl|hp|hne|q:=h;obtain u|rfl|ru:=vals1 r;cases ru;obtain its|r2|pl|_:=I.list hp;have hi:=intsAre_of r2;have hl:=pl.isList;obtain xs|e:=hi.allInts.items
 have hns:ns=xs.toList.map (·.1):=by
  rw[<- hi.numsOf,<- nums_intItems,<- e]
 have hsz:0 < xs.7:=by
  have h3:=hne;rw[hns,aj,Array.length_toList] at h3;exact h3
 rw[e] at hl;refine max_intList (I.ok.hd hc) hl hsz λv h' tk hv hk=>?_
 obtain t|rfl:=intItems_at hv;obtain h1|h2:=argBest_gt (numAt xs) (xs.7 - 1);refine #[.int _,H,I.kept hk,#[_,rfl],q _ ?_ λa ha=>?_]
 ·rw[hns,numAt_eq];exact getD_in (by rw[aj,Array.length_toList];lia)
 ·rw[hns] at ha;obtain j|hj|rfl:=mem_getD ha;rw[aj,Array.length_toList] at hj;rw[<- numAt_eq];exact h2 j ()
end
theorem Dq {α β:Type} {f:α->β}:∀{l1:List α} {l2:List β},Paired (λa b=>b=f a) l1 l2->l2=l1.map f
 | _,_,.nil=>rfl
 | _,_,.cons h r=>by rw[h,Dq r];rfl
def Tv (mv pt:LR9) (T:Nat):Prop:=T<=12/\(T<=3\/((∀xs∈mv++pt,∀x∈xs,x.den<=9/\x.num.natAbs < 1000)/\(5 < mv.9->T<=mv.9)/\(3<=mv.9->mv.9<=5->T<=mv.9+1)))
def Tu (x:Rat):Int:=(x.den:Int)+(x.num.natAbs:Int) / 1000*9
theorem Qy (h:Tu x<=9):x.den<=9/\x.num.natAbs < 1000:=by
 unfold Tu at h;have:=x.den_pos
 lia
inductive C4 (K:FG9) (vs:List V) (H:Hp) (Q:VK) (E9:XK):Prop
 | mk (b r:Addr) (H0:Hp) (mv pt lk:LR9):vs=[.ref b,.ref r]->gV H b->H0 b≠none->eT K H0 H r mv pt lk->eQ mv pt lk->(∀xs∈mv++pt,∀x∈xs,iI x)->(∀(T:Nat) H',Tv mv pt T->gV H' b->cP b H H'->Q (.int T) H')->C4 K vs H Q E9
inductive FT (K:FG9) (vs:List V) (H:Hp) (Q:VK) (E9:XK):Prop
 | mk (b r:Addr) (T w:Nat) (H0:Hp) (mv pt lk:LR9):vs=[.ref b,.ref r,.int T,.int w]->T<=100->1<=w->w<=1000->gV H b->H0 b≠none->eT K H0 H r mv pt lk->eQ mv pt lk->(∀p pus H',H p=none->bL K H H' p pus->pus.9=T->(∀xs∈pus,xs.9=pt.9/\∀x∈xs,Dr (max w 6) x)->gV H' b->cP b H H'->Q (.ref p) H')->FT K vs H Q E9
section
variable {mv pt lk pus:LR9} {st pr go:List Rat} {T k:Nat}
theorem K9.sznP (h:K9 mv pt pus st):∀xs∈pus,∀x∈xs,iI x:=λxs hx x hx'=>by
 obtain M1|M2|V|a1|a2|c|N|Np|p|ν|B|N0|hN|dv|hs|hu|sz|sp2:=h
 have Np0:0 < Np:=by
  rcases hZ Np with z | z
  ·rw[z,Ag] at dv;have:=UW dv
   lia
  ·exact z
 have le:Np<=N:=ag (di _ B.m2) (jJ N0 dv);exact qq Np0 (ag le hN) (ao _) () (hu xs hx x hx')
end
inductive De (K:FG9) (vs:List V) (H:Hp) (Q:VK) (E9:XK):Prop
 | mk (r s g p:Addr) (T:Nat) (H0 H1:Hp) (mv pt lk pus:LR9) (st go:List Rat):vs=[.ref r,.ref s,.ref g,.int T,.ref p]->T<=100->eT K H0 H r mv pt lk->eQ mv pt lk->bV K H s st->st.9=mv.9->bV K H g go->bL K H1 H p pus->pus.9=T->(∀xs∈pus,xs.9=pt.9)->K9 mv pt pus st->qU mv pt st pus T=go->(∀H',aH H H'->Q (.bl true) H')->De K vs H Q E9
structure Vp (mv pt:LR9) (T:Nat) (st go pr:List Rat):Prop where
 ad:OV mv pt T
 al:UT mv st T
 sg:∀x∈go,iI x
 sr:∀x∈pr,iI x
 f1:∀xs∈kry mv pt T,zS pr xs
 f2:zS pr (cQ mv T st go)
inductive As (K:FG9) (vs:List V) (H:Hp) (Q:VK) (E9:XK):Prop
 | mk (r s g p:Addr) (T:Nat) (H0:Hp) (mv pt lk:LR9) (st go pr:List Rat):vs=[.ref r,.ref s,.ref g,.int T,.ref p]->T<=20->eT K H0 H r mv pt lk->eQ mv pt lk->bV K H s st->st.9=mv.9->bV K H g go->go.9=mv.9->bV K H p pr->pr.9=mv.9->Vp mv pt T st go pr->(∀xs∈kry mv pt T,cm xs pr=0)->cm pr (cQ mv T st go)=1->(∀H',aH H H'->Q (.bl true) H')->As K vs H Q E9
structure CtF (mv pt:LR9) (T:Nat) (st go:List Rat) (D W0 E W1:Nat):Prop where
 cf:CU mv pt st (List.replicate T (List.replicate pt.9 0))
 sg:∀x∈go,iI x
 co:Tz mv pt (cQ mv T st go) D W0 E W1
 en:∀(pus:LR9) (q:Nat),0 < q->q<=(16*W0)^mv.9->pus.9=T->(∀xs∈pus,∀x∈xs,Tp (E*q) (D*(mv.9*(W1*(16*W0)^mv.9))) x)->K9 mv pt pus st
def O6 (v:Nat):Rat:=#[1,v+1,Nat.succ_ne_zero v,by simp]
theorem QN (h:v < 3):Fr 6 1 (O6 v):=by
 have e:(O6 v).num.natAbs<=1:=ao _;have f:=Fr.own (O6 v) e
 have d:(O6 v).den∣6:=by
  show v+1∣6
  rcases (show v=0\/v=1\/v=2 by lia) with rfl | rfl | rfl <;> decide
 exact f.dvd d
def U4 (pt:LR9) (T w:Nat) (pus:LR9):Prop:=pus.9=T/\∀xs∈pus,xs.9=pt.9/\∀x∈xs,Dr (max w 6) x
def Vs (mv pt:LR9) (T w:Nat) (st go:List Rat):Prop:=(∀x∈go,Dr (max w 6) x)\/∃pus,U4 pt T w pus/\(go=qU mv pt st pus T\/∃a v,v < 3/\go=(qU mv pt st pus T).set a ((qU mv pt st pus T).getD a 0+O6 v))
inductive F4 (K:FG9) (vs:List V) (H:Hp) (Q:VK) (E9:XK):Prop
 | mk (b r s:Addr) (T w:Nat) (H0:Hp) (mv pt lk:LR9) (st:List Rat):vs=[.ref b,.ref r,.ref s,.int T,.int w]->T<=100->1<=w->w<=1000->gV H b->H0 b≠none->eT K H0 H r mv pt lk->eQ mv pt lk->bV K H s st->s≠b->st.9=mv.9->(∀pus,U4 pt T w pus->K9 mv pt pus st)->(∀g go H',H g=none->bV K H' g go->go.9=mv.9->Vs mv pt T w st go->gV H' b->cP b H H'->Q (.ref g) H')->F4 K vs H Q E9
theorem NF (ws vs:List V) (M1 M2 M3:Nat):∃μ:V->Nat,(∀x∈ws,μ x=M2)/\(∀x∈vs,x∉ws->μ x=M3)/\(∀x,x∉ws->x∉vs->μ x=M1)/\∀x,μ x=M1\/μ x=M2\/μ x=M3:=by
 classical
 refine #[λx=>if x∈ws then M2 else if x∈vs then M3 else M1,λx h=>if_pos h,λx h h'=>?_,λx h h'=>?_,λx=>?_]
 ·show (if x∈ws then M2 else if x∈vs then M3 else M1)=M3
  rw[if_neg h',if_pos h]
 ·show (if x∈ws then M2 else if x∈vs then M3 else M1)=M1
  rw[if_neg h,if_neg h']
 ·show (if x∈ws then M2 else if x∈vs then M3 else M1)=M1\/(if x∈ws then M2 else if x∈vs then M3 else M1)=M2\/(if x∈ws then M2 else if x∈vs then M3 else M1)=M3
  by_cases h:x∈ws
  ·rw[if_pos h];exact .inr (.inl rfl)
  ·rw[if_neg h];by_cases h':x∈vs
   ·rw[if_pos h'];exact .inr (.inr rfl)
   ·rw[if_neg h'];exact .inl rfl
theorem ke.apart {K:FG9} (h:ke K A H n C m p l b q0 us ws vs):(∀x∈us,x∉ws/\x∉vs)/\∀x∈vs,x∉ws:=by
 obtain n1|n2|n3:=dQ.mp h.nd;obtain n4|n5|n6:=dQ.mp n1;exact #[λx hx=>#[λz=>n3 x (aA.mpr (.inl hx)) x z rfl,λz=>n6 x hx x z rfl],λx hx z=>n3 x (aA.mpr (.inr hx)) x z rfl]
theorem ke.fr3 {K:FG9} (h:ke K A H n (λ_=>Dr (2^c)) m p l b q0 us ws vs):∃M1 M2 M3,0 < M1/\0 < M2/\0 < M3/\M1<=2^(c*(n*n))/\M2<=2^(c*(ws.9*n))/\M3<=2^(c*(vs.9*n))/\(∀x∈us,gK K A H n (Fr M1 (2^c)) x)/\(∀x∈ws,gK K A H n (Fr M2 (2^c)) x)/\∀x∈vs,gK K A H n (Fr M3 (2^c)) x:=by
 have one:∀l:List V,(∀x∈l,x∈us++vs++ws)->∃M,0 < M/\M<=2^(c*(l.9*n))/\∀x∈l,gK K A H n (Fr M (2^c)) x:=λl hl=>by
  obtain ra|pa|la|ha:=AW λx hx=>h.row x (hl x hx)
  obtain M|m0|m1|m2:=Pq (c:=c) (n:=n) (rows:=ra) ha;exact #[M,m0,by rw[la] at m1;exact m1,IT pa λqs hq=>#[(ha qs hq).1,m2 qs hq]]
 obtain M1|a1|a2|a3:=one us λx hx=>by simp [hx]
 obtain M2|b1|b2|b3:=one ws λx hx=>by simp [hx]
 obtain M3|c1|c2|c3:=one vs λx hx=>by simp [hx]
 rw[h.lm] at a2;exact #[M1,M2,M3,a1,b1,c1,a2,b2,c2,a3,b3,c3]
inductive Dc (K:FG9) (xs:List V) (H:Hp) (Q:VK) (E9:XK):Prop
 | mk (b m p l q0:Addr) (n V1:Nat) (μ:V->Nat) (A:Addr->Prop) (us ws vs:List V):xs=[.ref b,.ref m,.ref p,.ref l]->Ib A m p l b q0->ke K A H n (λx=>Fr (μ x) V1) m p l b q0 us ws vs->n<=8->ws.9<=4->vs.9<=4->(∀x,0 < μ x)->(∀x,μ x<=2^800)->(∃M,∀x,x∉ws->x∉vs->μ x=M)->V1<=2^20->(∀q,H q=none->A q)->(∀r us' H',H' r=some (.tup [.ref m,.ref p,.ref l])->ke K A H' n (λx=>Fr (μ x) (9^3*V1)) m p l b q0 us' ws vs->jh A b m H H'->Q (.ref r) H')->Dc K xs H Q E9
def Vo (n i o w c:Nat) (mv pt lk:LR9):Prop:=∃M1 M2 M3 V1:Nat,0 < M1/\0 < M2/\0 < M3/\GF M1 V1 mv/\GF M2 V1 pt/\GF M3 V1 lk/\((w<=9/\M1=2520/\M2=2520/\M3=2520/\V1=9^3*9)\/(9 < w/\M1<=2^(c*(n*n))/\M2<=2^(c*(i*n))/\M3<=2^(c*(o*n))/\V1=9^3*2^c))
inductive C6 (K:FG9) (vs:List V) (H:Hp) (Q:VK) (E9:XK):Prop
 | mk (b:Addr) (n i o w c:Nat):vs=[.ref b,.int n,.int i,.int o,.int w]->gV H b->n<=8->i<=4->o<=4->1<=w->w<=1000000->max w 6<=2^c->c<=20->c*((n+i+o)*n)<=800->(∀r mv pt lk H',eT K H H' r mv pt lk->mv.9=n->pt.9=i->lk.9=o->eQ mv pt lk->Vo n i o w c mv pt lk->gV H' b->cP b H H'->Q (.ref r) H')->C6 K vs H Q E9
def Rg (mv pt:LR9) (w:Nat):Prop:=(w<=9/\Bd mv pt 1 1 (9^3) 0 0 14)\/(w<=9/\mv.9<=5/\Bd mv pt 2520 2520 (9^3*9) 12 12 16)\/(w=1000/\mv.9<=2/\∃M1 M2,Bd mv pt M1 M2 (9^3*2^20) 80 160 33)
def Pc (K:FG9):Sp:=λvs H Q _=>∃b:Addr,vs=[.ref b]/\gV H b /\
 ∀t r (w a c:Nat) mv pt lk H',H' t=some (.tup [.ref r,.int w])->eT K H H' r mv pt lk->eQ mv pt lk->Iu mv pt lk->qV mv pt a c->Rg mv pt w->1<=w->w<=1000->gV H' b->cP b H H'->Q (.ref t) H'
theorem Js {M V:Nat} (h:GF M V l) (k:Nat):GF (k*M) V l:=λxs hx x hx'=>(h xs hx x hx').scaleL k
theorem Vo.n {n i o w c:Nat} (h:Vo n i o w c mv pt lk):PtF n i o w c mv pt lk:=by
 obtain M1|M2|M3|V1|a1|a2|a3|f1|f2|f3|hc:=h;rcases hc with ⟨w9,rfl,rfl,rfl,e⟩ | ⟨w9,e1,e2,e3,e⟩
 ·exact #[2520,V1,(),f1,f2,f3,.inl #[w9,rfl,e]]
 ·refine #[M1*M2*M3,V1,a7 (a7 a1 a2) a3,?_,?_,?_,.inr #[w9,?_,e]]
  ·have:=Js f1 (M2*M3);rwa [show M2*M3*M1=M1*M2*M3 by rw[bY (M2*M3),cu]] at this
  ·have:=Js f2 (M1*M3);rwa [show M1*M3*M2=M1*M2*M3 by rw[cu,bY M3,cu]] at this
  ·exact Js f3 (M1*M2)
  ·refine ag (ay (ay e1 e2) e3) ?_;rw[<- aB,<- aB,show c*((n+i+o)*n)=c*(n*n)+c*(i*n)+c*(o*n) by rw[OO,OO,dC,dC]];exact ao _
def zd (n a1 a2:Nat):Nat:=a1*(n - 1)+a2
def zw (n a1 a2 c:Nat):Nat:=zd n a1 a2+c*n
def zq (n a1 a2 c:Nat):Nat:=n*(4+zw n a1 a2 c)
def ze (a1 a2 T b:Nat):Nat:=a1*T+a2+b
def zu (a1 a2 c T b g:Nat):Nat:=ze a1 a2 T b+(c*T+g+1)
abbrev ZS (n a1 a2 c T b g:Nat):Prop:=ze a1 a2 T b<=1800000/\c*T+g<=1800000/\zw n a1 a2 c+ze a1 a2 T b+zu a1 a2 c T b g+zd n a1 a2+2<=4300000/\(n+1)*(zw n a1 a2 c+ze a1 a2 T b+zu a1 a2 c T b g+zd n a1 a2+6)<=8900000/\a1*(T+1)+(a2+ze a1 a2 T b+zq n a1 a2 c)+c*(T+1)+(zd n a1 a2+3+zu a1 a2 c T b g+zq n a1 a2 c)<=3900000/\a2+c<=3900000/\a1*(T+1)+a2+c*(T+2)<=3900000
abbrev ZP (n a1 a2 c T b g:Nat):Prop:=2*(zq n a1 a2 c+5+zu a1 a2 c T b g)+zu a1 a2 c T b g<=3930000/\2*(zq n a1 a2 c+5+zu a1 a2 c T b g)+(a1*T+a2+c*(T+1))<=3930000
theorem Mx {n n' a1 a2 c T T' b b' g:Nat} (hn:n<=n') (hT:T<=T') (hb:b<=b'):zd n a1 a2<=zd n' a1 a2/\zw n a1 a2 c<=zw n' a1 a2 c/\zq n a1 a2 c<=zq n' a1 a2 c/\ze a1 a2 T b<=ze a1 a2 T' b'/\zu a1 a2 c T b g<=zu a1 a2 c T' b' g/\a1*T<=a1*T'/\c*T<=c*T'/\a1*(T+1)<=a1*(T'+1)/\c*(T+1)<=c*(T'+1)/\c*(T+2)<=c*(T'+2):=by
 have e1:a1*(n - 1)<=a1*(n' - 1):=ax _ ();have e2:c*n<=c*n':=ax _ hn;have e3:a1*T<=a1*T':=ax _ hT;have e4:c*T<=c*T':=ax _ hT;have w:zw n a1 a2 c<=zw n' a1 a2 c:=by unfold zw zd;lia
 have q:zq n a1 a2 c<=zq n' a1 a2 c:=ay hn ();refine #[by unfold zd;lia,w,q,by unfold ze;lia,by unfold zu ze;lia,e3,e4,ax _ (),ax _ (),ax _ ()]
theorem kI {n n' a1 a2 c T T' b b' g:Nat} (hn:n<=n') (hT:T<=T') (hb:b<=b') (h:ZS n' a1 a2 c T' b' g):ZS n a1 a2 c T b g:=by
 obtain h1|h2|h3|h4|h5|h6|h7:=h;obtain m1|m2|m3|m4|m5|m6|m7|m8|m9|m10:=Mx (a1:=a1) (a2:=a2) (c:=c) (g:=g) hn hT hb;refine #[(),(),(),ag (ay () ()) h4,(),h6,()]
theorem zT {n n' a1 a2 c T T' b b' g:Nat} (hn:n<=n') (hT:T<=T') (hb:b<=b') (h:ZP n' a1 a2 c T' b' g):ZP n a1 a2 c T b g:=by
 obtain h1|h2:=h;obtain m1|m2|m3|m4|m5|m6|m7|m8|m9|m10:=Mx (a1:=a1) (a2:=a2) (c:=c) (g:=g) hn hT hb;exact #[(),()]
section
variable {mv pt lk pus:LR9} {st pu go pr:List Rat} {M1 M2 V a1 a2 c B b g p t T w:Nat}
theorem Bd.kry (X:Bd mv pt M1 M2 V a1 a2 c) (D:eQ mv pt lk):∀t,∀xs∈kry mv pt t,∀x∈xs,Fr (M1^(t - 1)*M2) (2^(c*t)) x:=by
 intro t
 induction t with
 | zero=>intro xs hx;exact nomatch hx
 | succ t ih =>
  intro xs hx x hx';rcases aA.mp (show xs∈pt++(L2.kry mv pt t).map (qW mv) from hx) with hx | hx
  ·refine Fr.up (X.gp xs hx x hx') (cM _ _) (ag X.v1 (au () ?_));exact c7 _ ()
  ·obtain ys|hy|rfl:=aE.mp hx;obtain row|hr|rfl:=aE.mp (show x∈mv.map λzs=>cm zs ys from hx');rcases t with _ | t
   ·exact nomatch hy
   have f:=Fr.dot (X.gm row hr) (ih ys hy);rw[show M1*(M1^(t+1 - 1)*M2)=M1^(t+1+1 - 1)*M2 by rw[<- cu,show t+1 - 1=t by lia,show t+1+1 - 1=t+1 by lia,eP,bY M1]] at f;refine f.mono ?_;rw[D.mw row hr,<- cu,show c*(t+1+1)=c+c*(t+1) by rw[dC c (t+1)];lia,aB 2 c];exact aD _ (ag (aD V (show mv.9<=mv.9+4 by lia)) X.vc)
theorem Bd.lack (X:Bd mv pt M1 M2 V a1 a2 c) (D:eQ mv pt lk) (ls:st.9=mv.9) (hs:∀x∈st,Fr B (2^g) x) (hg:∀x∈go,Fr (M1^T*(M2*B)) (2^(c*T+g)) x):∀x∈cQ mv T st go,Fr (M1^T*(M2*B)) (2^(c*T+g+1)) x:=λx hx=>by
 unfold cQ at hx;obtain j|hj|e:=bE hx;rw[dg] at e;rw[<- e,show 2^(c*T+g+1)=2^(c*T+g)+2^(c*T+g) by rw[eP];lia];exact (hg _ (aK _)).sub ((Nn X.gm D.mw X.vc ls hs T _ (aK _)).dvd (Nat.mul_dvd_mul_left _ (cM _ _)))
theorem Bd.end (X:Bd mv pt M1 M2 V a1 a2 c) (D:eQ mv pt lk) (ls:st.9=mv.9) (lp:pus.9=T) (wp:∀xs∈pus,xs.9=pt.9) (b0:0 < B) (b1:B<=2^b) (hs:∀x∈st,Fr B (2^g) x) (hu:∀xs∈pus,∀x∈xs,Fr B (2^g) x) (Z:ZS mv.9 a1 a2 c T b g):K9 mv pt pus st/\∀k,k<=T->∀x∈qU mv pt st pus k,Fr (M1^k*(M2*B)) (2^(c*k+g)) x:=by
 obtain h1|h2|h3|h4|h5|h6|h7:=Z;have n0:0 < M2*B:=a7 X.m2 b0;have hN:M2*B<=2^(a2+b):=by rw[aB];exact ay X.b2 b1
 have hs':∀x∈st,Fr (M2*B) (2^g) x:=λx hx=>(hs x hx).scaleL _
 have sz:a1*(pus.9+1)+(a2+b)+c*(pus.9+1)+g<=3900000:=by
  rw[lp];unfold zu ze at h5
  lia
 exact #[#[M1,M2,V,a1,a2,c,M2*B,B,g,a2+b,X,n0,hN,Ah _,hs',hu,sz,h6],λk hk=>(X.states D ls wp n0 hN (Ah _) hs' hu sz h6 k ()).1]
theorem Gn (h:xs∈List.replicate T (List.replicate i (0:Rat))) (hx:x∈xs):x=0:=by
 rw[fP h] at hx;exact fP hx
theorem Bd.ctf (X:Bd mv pt M1 M2 V a1 a2 c) (D:eQ mv pt lk) (ls:st.9=mv.9) (b0:0 < B) (b1:B<=2^b) (hs:∀x∈st,Fr B (2^g) x) (hg:∀x∈go,Fr (M1^T*(M2*B)) (2^(c*T+g)) x) (Z:ZS mv.9 a1 a2 c T b g):CtF mv pt T st go (M1^(mv.9 - 1)*M2) (2^(c*mv.9)*(M1^(mv.9 - 1)*M2)) (M1^T*(M2*B)) (2^(c*T+g+1)*(M1^T*(M2*B))):=by
 have Z':=Z;obtain h1|h2|h3|h4|h5|h6|h7:=Z;have n0:0 < M2*B:=a7 X.m2 b0;have hN:M2*B<=2^(a2+b):=by rw[aB];exact ay X.b2 b1
 obtain ⟨Dd,eD⟩:∃d,M1^(mv.9 - 1)*M2=d:=#[_,rfl];obtain ⟨E,eE⟩:∃d,M1^T*(M2*B)=d:=#[_,rfl];have D0:0 < Dd:=by rw[<- eD];exact a7 (dq X.m1) X.m2
 have E0:0 < E:=by rw[<- eE];exact a7 (dq X.m1) n0
 have dD:Dd<=2^zd mv.9 a1 a2:=by rw[<- eD];exact fV X.b1 X.b2
 have dE:E<=2^ze a1 a2 T b:=by
  rw[<- eE,show ze a1 a2 T b=a1*T+(a2+b) by unfold ze;lia];exact fV X.b1 hN
 have dW:2^(c*mv.9)*Dd<=2^zw mv.9 a1 a2 c:=by
  rw[show zw mv.9 a1 a2 c=c*mv.9+zd mv.9 a1 a2 by unfold zw;lia,aB];exact ax _ dD
 have dU:2^(c*T+g+1)*E<=2^zu a1 a2 c T b g:=by
  rw[show zu a1 a2 c T b g=c*T+g+1+ze a1 a2 T b by unfold zu;lia,aB 2 (c*T+g+1)];exact ax _ dE
 have hl:=X.lack D ls hs hg;have hg':=hg;rw[eD,eE];rw[eE] at hl hg'
 have q2:(16*(2^(c*mv.9)*Dd))^mv.9<=2^zq mv.9 a1 a2 c:=by
  have:16*(2^(c*mv.9)*Dd)<=2^(4+zw mv.9 a1 a2 c):=by rw[aB];exact ax _ dW
  refine ag (lA this _) ?_;rw[<- qR,bY];exact ao _
 refine #[λk hk=>?_,λx hx=>qq E0 dE (ao _) () (hg' x hx),#[D0,E0,a7 (dq ()) D0,a7 (dq ()) E0,λu hu xs hx x hx'=>?_,λx hx=>Tp.of (hl x hx) (ao _),?_,?_],λqs q q0 hq lq hp=>?_]
 ·have wz:∀xs∈List.replicate T (List.replicate pt.9 (0:Rat)),xs.9=pt.9:=λxs hx=>by rw[fP hx,aQ]
  have lz:(List.replicate T (List.replicate pt.9 (0:Rat))).9=T:=aQ ..;rw[lz] at hk;obtain _|f:=X.end D ls lz wz b0 b1 hs (λxs hx x hx'=>by rw[Gn hx hx'];exact Fr.zero) Z';have m1:a1*k<=a1*T:=ax _ hk;have m2:c*k<=c*T:=ax _ hk;exact #[M1^k*(M2*B),2^(c*k+g),a7 (dq X.m1) n0,ag (fV X.b1 hN) (au () (by unfold ze at h1;lia)),au () (),f k hk,λxs hx x hx'=>by rw[Gn hx hx'];exact Fr.zero]
 ·have f:=X.kry D u xs hx x hx';rw[<- eD];refine Tp.of (Fr.up (M':=M1^(mv.9 - 1)*M2) (V':=2^(c*mv.9)) f (oY (Ci _ ()) _) (au () (ax _ hu))) (ao _)
 ·refine ag (ay dD dE) ?_;rw[<- aB];exact au () ()
 ·refine #[zw mv.9 a1 a2 c+ze a1 a2 T b+zu a1 a2 c T b g+zd mv.9 a1 a2+2,?_,h3,h4]
  have S:∀{x y k j:Nat},x<=2^k->y<=2^j->k+j<=zw mv.9 a1 a2 c+ze a1 a2 T b+zu a1 a2 c T b g+zd mv.9 a1 a2->x*y<=2^(zw mv.9 a1 a2 c+ze a1 a2 T b+zu a1 a2 c T b g+zd mv.9 a1 a2):=λhx hy hk=>by
   refine ag (ay hx hy) ?_;rw[<- aB];exact au () hk
  have s1:=S dW dE ();have s2:=S dU dD ();have s3:=S dD dE ();rw[aB _ _ 2];generalize 2^(zw mv.9 a1 a2 c+ze a1 a2 T b+zu a1 a2 c T b g+zd mv.9 a1 a2)=P at s1 s2 s3 ⊢
  lia
 ·have Np0:0 < E*q:=a7 E0 q0;have hq':q<=2^zq mv.9 a1 a2 c:=ag hq q2
  have hP:Dd*(mv.9*(2^(c*T+g+1)*E*(16*(2^(c*mv.9)*Dd))^mv.9))<=2^(zd mv.9 a1 a2+3+zu a1 a2 c T b g+zq mv.9 a1 a2 c):=by
   have n3:mv.9<=2^3:=D.n8;refine ag (ay dD (ay n3 (ay dU q2))) ?_;rw[<- aB,<- aB,<- aB];exact au () ()
  refine #[M1,M2,V,a1,a2,c,M2*(E*q),E*q,zd mv.9 a1 a2+3+zu a1 a2 c T b g+zq mv.9 a1 a2 c,a2+ze a1 a2 T b+zq mv.9 a1 a2 c,X,a7 X.m2 Np0,?_,Ah _,λx hx=>?_,λxs hx x hx'=>((hp xs hx x hx').fr Np0).mono hP,?_,h6]
  ·rw[aB,aB,cu];exact ay X.b2 (ay dE hq')
  ·refine Fr.up (hs x hx) ?_ (au () (by unfold zu;lia));rw[<- eE];exact gX (gX (gX (cM _ M2) (cM _ (M1^T))) (xu _ q)) (cM _ _)
  ·rw[lq];exact h5
theorem Bd.prf (X:Bd mv pt M1 M2 V a1 a2 c) (D:eQ mv pt lk) (ls:st.9=mv.9) (b0:0 < B) (b1:B<=2^b) (hs:∀x∈st,Fr B (2^g) x) (hg:∀x∈go,Fr (M1^T*(M2*B)) (2^(c*T+g)) x) (Z:ZS mv.9 a1 a2 c T b g) (P:ZP mv.9 a1 a2 c T b g) (q0:0 < q) (hq:q<=(16*(2^(c*mv.9)*(M1^(mv.9 - 1)*M2)))^mv.9*(16*(2^(c*T+g+1)*(M1^T*(M2*B))+M1^T*(M2*B)))) (hp:∀y∈pr,Tp q ((16*(2^(c*mv.9)*(M1^(mv.9 - 1)*M2)))^mv.9*(16*(2^(c*T+g+1)*(M1^T*(M2*B))+M1^T*(M2*B)))) y):Vp mv pt T st go pr/\∀(L:List Rat) (B':Nat),0 < B'->B'<=2^b->(∀x∈L,Fr (M1^T*(M2*B')) (2^(c*T+g+1)) x)->zS pr L:=by
 have n0:∀{B'},0 < B'->0 < M1^T*(M2*B'):=λh=>a7 (dq X.m1) (a7 X.m2 h)
 have hN:∀{B'},B'<=2^b->M1^T*(M2*B')<=2^ze a1 a2 T b:=λh=>by
  rw[show ze a1 a2 T b=a1*T+(a2+b) by unfold ze;lia];exact fV X.b1 (by rw[aB];exact ay X.b2 h)
 have ct:=X.ctf D ls b0 b1 hs hg Z;have hl:=X.lack D ls hs hg;obtain h1|h2|h3|h4|h5|h6|h7:=Z;obtain p1|p2:=P;have dD:M1^(mv.9 - 1)*M2<=2^zd mv.9 a1 a2:=fV X.b1 X.b2;have dE:=hN b1
 have W:(16*(2^(c*mv.9)*(M1^(mv.9 - 1)*M2)))^mv.9*(16*(2^(c*T+g+1)*(M1^T*(M2*B))+M1^T*(M2*B)))<=2^(zq mv.9 a1 a2 c+5+zu a1 a2 c T b g):=by
  have e1:16*(2^(c*mv.9)*(M1^(mv.9 - 1)*M2))<=2^(4+zw mv.9 a1 a2 c):=by
   rw[show zw mv.9 a1 a2 c=c*mv.9+zd mv.9 a1 a2 by unfold zw;lia,aB 2 4,aB];exact ax _ (ax _ dD)
  have e2:=lA e1 mv.9;rw[<- qR,bY (4+zw mv.9 a1 a2 c)] at e2
  have e3:2^(c*T+g+1)*(M1^T*(M2*B))<=2^zu a1 a2 c T b g:=by
   rw[show zu a1 a2 c T b g=c*T+g+1+ze a1 a2 T b by unfold zu;lia,aB 2 (c*T+g+1)];exact ax _ dE
  have e4:M1^T*(M2*B)<=2^(c*T+g+1)*(M1^T*(M2*B)):=di _ (dq ());generalize 2^(c*T+g+1)*(M1^T*(M2*B))=u at e3 e4 ⊢;rw[show zq mv.9 a1 a2 c+5+zu a1 a2 c T b g=mv.9*(4+zw mv.9 a1 a2 c)+(5+zu a1 a2 c T b g) by unfold zq;lia,aB];refine ay e2 ?_;rw[aB];generalize M1^T*(M2*B)=v at e4 ⊢
  lia
 have fp:oV (zq mv.9 a1 a2 c+5+zu a1 a2 c T b g) (zq mv.9 a1 a2 c+5+zu a1 a2 c T b g) pr:=#[q,_,q0,ag hq W,W,λx hx=>(hp x hx).fr q0];have key:∀(L:List Rat) (B':Nat),0 < B'->B'<=2^b->(∀x∈L,Fr (M1^T*(M2*B')) (2^(c*T+g+1)) x)->zS pr L:=λL B' c0 c1 h=>#[_,_,ze a1 a2 T b,c*T+g+1,fp,#[_,_,n0 c0,hN c1,ao _,h],by unfold zu at p1 ⊢;lia]
 refine #[#[#[M1,M2,V,a1,a2,c,X,h7],#[M1,V,a1,c,B,g,b,X.m1,X.b1,X.gm,X.vc,b0,b1,hs,by unfold zu ze at h5;lia],ct.sg,λx hx=>qq q0 (ag hq W) W () ((hp x hx).fr q0),λxs hx=>?_,key _ B b0 b1 hl],key];refine #[_,_,a1*T+a2,c*(T+1),fp,#[M1^T*M2,2^(c*T),a7 (dq X.m1) X.m2,fV X.b1 X.b2,au () (ax _ ()),λx hx'=>(X.kry D T xs hx x hx').dvd (oY (Ci _ ()) _)],()]
theorem TF (h:ZS n a1 a2 c T b (g+1)):ZS n a1 a2 c T b g:=by
 obtain h1|h2|h3|h4|h5|h6|h7:=h;have e:zu a1 a2 c T b g<=zu a1 a2 c T b (g+1):=by unfold zu;lia
 exact #[h1,(),(),ag (ax _ ()) h4,(),h6,h7]
structure Us (mv pt:LR9) (w T M1 M2 V a1 a2 c b1 b2:Nat):Prop where
 bd:Bd mv pt M1 M2 V a1 a2 c
 z1:ZS mv.9 a1 a2 c T b1 23
 zp:ZP mv.9 a1 a2 c T b1 23
 z2:ZS mv.9 a1 a2 c T b2 23
 dr:∀l:List Rat,(∀x∈l,Dr (max w 6) x)->∃B,0 < B/\6∣B/\(∀x∈l,Fr B (2^22) x)/\(l.9<=2*mv.9+T*pt.9->B<=2^b1)/\(l.9<=2*mv.9+2*(T*pt.9)->B<=2^b2)
end
section
variable {mv pt lk pus pus':LR9} {st st' pu go pr:List Rat} {M1 M2 V a1 a2 c B b1 b2 g p t T w:Nat}
theorem SM {l:List Rat} (h:∀x∈l,Fr B (2^22) x):∀x∈l,Fr B (2^23) x:=λx hx=>(h x hx).mono ()
end
def tT (ws col:List Rat):List Rat:=List.zipWith (λv w=>v / w) col ws
def tF (ws:List Rat) (T:Nat):List Rat:=(List.replicate T ws).flatten
def mN (rows:LR9) (ws:List Rat) (n:Nat):LR9:=xx ((cp rows n).map (tT ws)) rows n
def gF (rows:LR9) (ws x y:List Rat):Rat:=bS rows.9 λk=>cm (rows.getD k []) x*cm (rows.getD k []) y / ws.getD k 0
def Ro (rows:LR9) (ws:List Rat) (n:Nat) (g x:List Rat):Prop:=x.9=n/\g.length=n/\∀y:List Rat,y.9=n->cm y g=gF rows ws y x
section
variable {rows more R:LR9} {ws wm x x1 x2 x' y g g1 g2:List Rat} {n:Nat} {ps:List Nat} {c:Rat}
theorem JV {f:Nat->Rat}:∀k,(∀j,j < k->0<=f j)->0<=bS k f
 | 0,_=>Rat.le_refl
 | k+1,h=>by
  have h1:=JV k λj hj=>h j ()
  have h2:=h k ();have e:bS (k+1) f=bS k f+f k:=rfl;rw[e];grind
theorem JU {f:Nat->Rat}:∀k,(∀j,j < k->0<=f j)->bS k f=0->∀j,j < k->f j=0
 | 0,_,_,j,hj=>absurd hj (d5 _)
 | k+1,h,z,j,hj=>by
  have h1:=JV k λj hj=>h j ()
  have h2:=h k ();have e:bS (k+1) f=bS k f+f k:=rfl;rw[e] at z;by_cases q:j=k
  ·rw[q];grind
  ·exact JU k (λj hj=>h j ()) (by grind) j ()
theorem RW (hw:∀xs∈rows,xs.9=n) (hk:k < rows.9):(rows.getD k []).9=n:=by
 rw[ae,af hk];exact hw _ (aK _)
theorem JA (hw:∀xs∈rows,xs.9=n) (hk:k < rows.9) (lx:x.9=n):cm (rows.getD k []) x=bS n λb=>cL rows k b*x.getD b 0:=by
 have l:=RW hw hk;rw[c8 (by rw[l,lx]),l];rfl
theorem Ks (hw:∀xs∈rows,xs.9=n) (lw:ws.9=rows.9) (lx:x.9=n) (ha:a < n):∃row,(mN rows ws n)[a]?=some row/\row.9=n/\cm row x=bS rows.9 λk=>cL rows k a*(cm (rows.getD k []) x / ws.getD k 0):=by
 refine #[(cp rows n).map λys=>cm ys (tT ws (rows.map λxs=>xs.getD a 0)),?_,by rw[aj,cx],?_]
 ·unfold mN xx;rw[aF,aF,qZ ha];rfl
 ·have e1:∀b,b < n->((cp rows n).map λys=>cm ys (tT ws (rows.map λxs=>xs.getD a 0))).getD b 0=bS rows.9 λk=>cL rows k b*(cL rows k a / ws.getD k 0):=λb hb=>by
   rw[ae,aF,qZ hb];show cm (rows.map λxs=>xs.getD b 0) _=_
   have l1:(tT ws (rows.map λxs=>xs.getD a 0)).9=rows.9:=by
    unfold tT;rw[bD,aj,lw,fN]
   rw[c8 (by rw[aj,l1]),aj];refine aY λk hk=>?_
   have at_:∀j,(rows.map λxs=>xs.getD j 0).getD k 0=cL rows k j:=λj=>by
    rw[getD_map hk];unfold cL;rw[ae (l:=rows),af hk];rfl
   rw[at_];congr 1;unfold tT;rw[ae,bN,aF,af hk,af (show k < ws.9 by lia),ae (l:=ws),af (show k < ws.9 by lia)];show (rows[k].getD a 0) / ws[k]=_
   unfold cL;rw[ae (l:=rows),af hk];rfl
  rw[c8 (by rw[aj,cx,lx]),aj,cx,aY λb hb=>by rw[e1 b hb]]
  have e2:(λb=>(bS rows.9 λk=>cL rows k b*(cL rows k a / ws.getD k 0))*x.getD b 0)=λb=>bS rows.9 λk=>(cL rows k a / ws.getD k 0)*(cL rows k b*x.getD b 0):=by
   funext b;rw[eO,<- cW];exact aY λk _=>by grind
  rw[e2,gP];refine aY λk hk=>?_
  rw[cW,<- JA hw hk lx,gW,gW];grind
theorem F9 (hw:∀xs∈rows,xs.9=n) (lg:g.length=n) (lx:x.9=n) (h:∀a,a < n->g.getD a 0=bS rows.9 λk=>cL rows k a*(cm (rows.getD k []) x / ws.getD k 0)):Ro rows ws n g x:=by
 refine #[lx,lg,λy ly=>?_];rw[c8 (by rw[ly,lg]),ly,aY λa ha=>by rw[h a ha,<- cW]];rw[gP];refine aY λk hk=>?_
 have e:(λa=>y.getD a 0*(cL rows k a*(cm (rows.getD k []) x / ws.getD k 0)))=λa=>(cm (rows.getD k []) x / ws.getD k 0)*(cL rows k a*y.getD a 0):=by
  funext a;grind
 rw[e,cW,<- JA hw hk ly,gW,gW];grind
theorem qj:(mN rows ws n).9=n:=by unfold mN xx;rw[aj,aj,cx]
theorem vV:∀xs∈mN rows ws n,xs.9=n:=λxs hx=>by
 unfold mN xx at hx;obtain ys|_|rfl:=aE.mp hx;rw[aj,cx]
theorem RU (hw:∀xs∈rows,xs.9=n) (lw:ws.9=rows.9) (lg:g.length=n) (RR:cC (c6 (mN rows ws n) g) (n+1) R ps) (hn:n∉ps):Ro rows ws n g (ia R ps n):=by
 have lx:(ia R ps n).9=n:=ib;refine F9 hw lg lx λa ha=>?_
 obtain row|er|_|ed:=Ks hw lw lx ha;rw[<- ed];exact (Eg (by rw[qj,lg]) vV RR hn er).symm
theorem RP {a w:Rat} (h:0 < w):0<=a*a / w:=by
 have h1:0<=a*a:=by
  rcases Rat.le_total (a:=0) (b:=a) with z | z
  ·exact RB z z
  ·have:0<=-a:=by grind
   have:=RB this this;grind
 rw[gW];exact RB h1 (Rat.le_of_lt (Rat.inv_pos.mpr h))
theorem QM (hp:∀w∈ws,0 < w) (hk:k < ws.9):0 < ws.getD k 0:=by
 rw[ae,af hk];exact hp _ (aK _)
theorem Pj (hw:∀xs∈rows,xs.9=n) (lw:ws.9=rows.9) (hp:∀w∈ws,0 < w) (lg:g.length=n) (hz:∀pr:List Rat,pr.9=n->(∀xs∈rows,cm xs pr=0)->cm pr g=0) (RR:cC (c6 (mN rows ws n) g) (n+1) R ps):n∉ps:=λhn=>by
 obtain w|h1|h2:=AD (by rw[qj,lg]) vV RR hn;rw[qj] at h1 h2;obtain ⟨pr,epr⟩:∃pr:List Rat,pr=(List.range n).map w:=#[_,rfl];have lp:pr.9=n:=by rw[epr,aj,bZ]
 have ap:∀i,i < n->pr.getD i 0=w i:=λi hi=>by rw[epr,ae,aF,cJ hi];rfl
 have d1:cm pr g=1:=by
  rw[c8 (by rw[lp,lg]),lp,<- h2];exact aY λi hi=>by rw[ap i hi]
 have f0:gF rows ws pr pr=0:=by
  have e1:∀i,i < n->bS n (λb=>cL (mN rows ws n) i b*pr.getD b 0)=bS rows.9 λk=>cL rows k i*(cm (rows.getD k []) pr / ws.getD k 0):=λi hi=>by
   obtain row|er|lr|ed:=Ks hw lw lp hi;rw[<- ed,c8 (by rw[lr,lp]),lr];refine aY λb _=>?_
   unfold cL;rw[ae (l:=mN rows ws n),er];rfl
  have e2:bS n (λi=>w i*bS n (λb=>cL (mN rows ws n) i b*pr.getD b 0))=0:=by
   have e:(λi=>w i*bS n (λb=>cL (mN rows ws n) i b*pr.getD b 0))=λi=>bS n λb=>pr.getD b 0*(w i*cL (mN rows ws n) i b):=by
    funext i;rw[<- cW];exact aY λb _=>by grind
   rw[e,gP];exact dm λb hb=>by rw[cW,h1 b hb,gM]
  have S:Ro rows ws n ((List.range n).map λi=>bS rows.9 λk=>cL rows k i*(cm (rows.getD k []) pr / ws.getD k 0)) pr:=F9 hw (by rw[aj,bZ]) lp λa ha=>by
   rw[ae,aF,cJ ha];rfl
  rw[<- S.2.2 pr lp,c8 (by rw[lp,S.2.1]),lp];refine Eq.trans (aY λi hi=>?_) e2;rw[e1 i hi,ap i hi];congr 1;rw[ae,aF,cJ hi];rfl
 have z:=JU rows.9 (λk hk=>RP (QM hp ())) f0
 have zz:∀xs∈rows,cm xs pr=0:=λxs hx=>by
  obtain k|hk|e:=bE hx;have:=z k hk;have wp:=QM hp (k:=k) ();rw[ae,af hk,Mq,e,gW] at this
  have wi:(ws.getD k 0)⁻¹≠0:=λq=>by
   have:=Rat.inv_pos.mpr wp;grind
  rcases lS.mp this with q | q
  ·rcases lS.mp q with q | q <;> exact q
  ·exact absurd q wi
 rw[hz pr lp zz] at d1;exact absurd d1 ()
end
section
variable {K0:LR9} {n D wl:Nat}
theorem Pe (hK:∀xs∈K0,xs.9=n) (n15:n<=15) (D0:0 < D) (tk:∀xs∈K0,∀x∈xs,Tp D (2^wl) x) (F:∃w,DY (cp K0 n) K0.9 w):∃q:Nat,0 < q/\q<=2^((wl+4)*n)/\∀(E W1:Nat) (L:List Rat) (R:LR9) (ps:List Nat),0 < E->L.9=n->(∀x∈L,Tp E W1 x)->cC (c6 (cp K0 n) L) (K0.9+1) R ps->K0.9∉ps->∀y∈ia R ps K0.9,Tp (E*q) (D*(n*(W1*2^((wl+4)*n - wl)))) y:=by
 have lt:(cp K0 n).9=n:=cx;have wt:∀xs∈cp K0 n,xs.9=K0.9:=gO
 have tfn:∀i,i < n->∀j,cL (cp K0 n) i j=cL K0 j i:=λi hi j=>by
  unfold cL;rw[ae (l:=cp K0 n),qZ hi];show (K0.map λxs=>xs.getD i 0).getD j 0=_
  rw[ae,aF,ae (l:=K0)];cases K0[j]? with
  | none=>show (0:Rat)=([]:List Rat).getD i 0;rw[ae];rfl
  | some xs=>rfl
 have tkf:∀j i,Tp D (2^wl) (cL K0 j i):=λj i=>by
  unfold cL;rw[ae (l:=K0)];by_cases hj:j < K0.9
  ·rw[af hj];exact iE (tk _ (aK hj)) i
  ·rw[a8 ()];show Tp D (2^wl) (([]:List Rat).getD i 0)
   exact iE (by intro x z;cases z) i
 have w0:1<=2^wl:=dh;obtain w|F:=F;obtain R0|ps|_|_|SR:=Dn wt F;have RR0:=SR.rr
 obtain pm|pinj|plt|kn|dne:=DG wt w0 D0 (KC λi hi c=>by
  rw[tfn i ()];exact tkf c i) RR0
 rw[lt] at plt kn;have pl:∀j,j < ps.9->ps.getD j 0 < K0.9:=λj hj=>RR0.2.2.low j hj
 have Dne:(D:Rat)≠0:=λz=>by
  have:((D:Int):Rat)=0:=by rw[aS];exact z
  have:=sW this
  lia
 have rlt:∀r∈k9 pm ps.9,r < n:=λr hr=>by
  obtain t|ht|rfl:=mB hr;exact plt t ht
 obtain ⟨v,ev⟩:∃v:Nat->iW,v=λj i=>(D:Rat)*cL K0 (ps.getD j 0) i:=#[_,rfl]
 have vint:∀j r,Fr 1 (2^wl) (v j r):=λj r=>by
  obtain z|ee|b:=tkf (ps.getD j 0) r;rw[ev];show Fr 1 (2^wl) ((D:Rat)*_)
  rw[eO,ee];exact Fr.int b
 have den:jl (k9 pm ps.9) (iZ v ps.9)≠0:=by
  have e1:jl (k9 pm ps.9) ([]++iZ v ps.9)=jl (k9 pm ps.9) ([]++iZ (λj i=>(D:Rat)*cL (cp K0 n) i (ps.getD j 0)) ps.9):=Fb [] λj hj r hr=>by
   rw[tfn r (rlt r hr),ev]
  have e2:iZ (λj i=>(D:Rat)*cL (cp K0 n) i (ps.getD j 0)) ps.9=(iZ (λj i=>cL (cp K0 n) i (ps.getD j 0)) ps.9).map λv i=>(λ_=>(D:Rat)) i*v i:=(cw_map (τ:=λv i=>(D:Rat)*v i)).symm
  have e1:jl (k9 pm ps.9) (iZ v ps.9)=jl (k9 pm ps.9) (iZ (λj i=>(D:Rat)*cL (cp K0 n) i (ps.getD j 0)) ps.9):=e1;rw[e1,e2,v9];intro z;rcases lS.mp z with z | z
  ·exact EA (g:=λ_=>(D:Rat)) (λ_ _=>Dne) z
  ·exact dne z
 have p16:(16*2^wl:Nat)=2^(wl+4):=by rw[aB];lia
 obtain q|eq|bq:=Ta (N:=16) (Wx:=2^wl) (rs:=k9 pm ps.9) (vs:=iZ v ps.9) (by rw[cw_len];lia) λw hw r _=>by
  obtain t|_|rfl:=cw_in hw;exact vint t r
 rw[uY,p16,<- qR] at bq;have up:(wl+4)*ps.9<=(wl+4)*n:=ax _ kn;have q0:q≠0:=λz=>den (by rw[eq,z];rfl)
 refine #[q.natAbs,(),ag bq (au () up),λE W1 L R ps' E0 hL tl RR hn y hy=>?_];have hd:L.9=(cp K0 n).9:=by rw[lt];exact hL
 obtain _|rfl:=(Oy hd wt RR hn).same RR0;have tlf:∀i,Tp E W1 (L.getD i 0):=λi=>iE tl i
 have Ene:(E:Rat)≠0:=λz=>by
  have:((E:Int):Rat)=0:=by rw[aS];exact z
  have:=sW this
  lia
 rcases Kb RR hy with rfl | ⟨i,hi,rfl⟩
 ·exact #[0,by rw[js];rfl,bg _]
 ·have hW:∀r∈k9 pm ps'.9,(E:Rat)*L.getD r 0=bS ps'.9 λj=>((E:Rat)*cL R j K0.9 / D)*v j r:=λr hr=>by
   have hr:=rlt r hr;rw[QY hd wt RR hn (i:=r) (by rw[lt];exact hr),<- cW];refine aY λj hj=>?_
   rw[tfn r hr,ev]
   dsimp only
   grind
  have cr:=yj (v:=v) (c:=λj=>(E:Rat)*cL R j K0.9 / D) (W:=λr=>(E:Rat)*L.getD r 0) hi hW
  have ex:jl (k9 pm ps'.9) (DF v i ps'.9++(λr=>(E:Rat)*L.getD r 0) :: iZ v i)=bS ps'.9 λt=>((E:Rat)*L.getD (pm t) 0)*jl (k9 pm ps'.9) (DF v i ps'.9++(λr=>if r=pm t then 1 else 0) :: iZ v i):=BC (W:=λ_=>0) (v:=λt r=>if r=pm t then 1 else 0) (c:=λt=>(E:Rat)*L.getD (pm t) 0) _ _ (λr hr=>by
   obtain t|ht|rfl:=mB hr;rw[il ht λj hj ne=>by rw[if_neg λz=>ne (pinj j t hj ht z.symm),gM],if_pos rfl,xp])
  have hlen:∀x:iW,(DF v i ps'.9++x :: iZ v i).9<=16:=λx=>by
   have:=congrArg List.length (cw_split (v:=v) hi);rw[aw,bO,cw_len] at this;rw[aw,bO]
   lia
  have unit:∀t,Fr 1 (2^((wl+4)*n - wl)) (jl (k9 pm ps'.9) (DF v i ps'.9++(λr=>if r=pm t then 1 else 0) :: iZ v i)):=λt=>by
   have mk:∀(u:iW) (W:Nat),1<=W->W=2^wl->(∀r,Fr 1 W (u r))->Fr 1 (2^((wl+4)*ps'.9)) (jl (k9 pm ps'.9) (DF v i ps'.9++u :: iZ v i)):=λu W _ eW hu=>by
    subst eW
    have f2:=BD (W:=2^wl) (N:=16) (rs:=k9 pm ps'.9) (hlen u) λw hw r _=>by
     rcases aA.mp hw with hw | hw
     ·obtain s|_|rfl:=Hu hw;exact vint s r
     ·rcases aG.mp hw with rfl | hw
      ·exact hu r
      ·obtain s|_|rfl:=cw_in hw;exact vint s r
    rw[uY,p16,<- qR] at f2;exact f2
   have big:=mk (λr=>((2^wl:Nat):Rat)*(if r=pm t then 1 else 0)) _ w0 rfl λr=>by
    split
    ·rw[xp,<- aS];exact Fr.int (by rw[bW];exact ao _)
    ·rw[gM];exact Fr.zero
   have sm:=mk (λr=>if r=pm t then 1 else 0) _ w0 rfl λr=>by
    split
    ·exact Fr.one w0
    ·exact Fr.zero
   have lin:jl (k9 pm ps'.9) (DF v i ps'.9++(λr=>((2^wl:Nat):Rat)*(if r=pm t then 1 else 0)) :: iZ v i)=0+((2^wl:Nat):Rat)*jl (k9 pm ps'.9) (DF v i ps'.9++(λr=>if r=pm t then 1 else 0) :: iZ v i):=BC (W:=λ_=>0) (v:=λ_ r=>if r=pm t then 1 else 0) (c:=λ_=>((2^wl:Nat):Rat)) (DF v i ps'.9) (iZ v i) (k:=1) λr _=>by
    show _=0+_
    rw[Rat.zero_add]
   rw[Rat.zero_add] at lin;obtain z|ez:=vZ sm;rw[ez] at lin ⊢;rw[lin,<- aS,<- bc] at big;have b1:=vn big;rw[dk,bW] at b1;refine Fr.int ?_;have g0:wl<=(wl+4)*ps'.9:=ag () (c7 _ (show 0 < ps'.9 by lia));have e1:2^((wl+4)*ps'.9)=2^wl*2^((wl+4)*ps'.9 - wl):=by rw[<- aB];congr 1;lia
   rw[e1] at b1;exact ag (Nat.le_of_mul_le_mul_left b1 w0) (au () ())
  have nf:Fr 1 (n*(W1*2^((wl+4)*n - wl))) (jl (k9 pm ps'.9) (DF v i ps'.9++(λr=>(E:Rat)*L.getD r 0) :: iZ v i)):=by
   rw[ex];refine (Oc (V:=W1*2^((wl+4)*n - wl)) λt ht=>?_).mono (aD _ kn);obtain z|ee|b:=tlf (pm t)
   have f1:Fr 1 W1 ((E:Rat)*L.getD (pm t) 0):=by
    rw[eO,ee];exact Fr.int b
   have:=f1.mul (unit t);rwa [qS] at this
  obtain z|ez:=vZ nf;rw[ez] at nf cr;have bz:=vn nf;rw[eq] at cr
  have key:cL R i K0.9*((E:Rat)*(q:Rat))=(D:Rat)*(z:Rat):=by
   rw[cr];grind
  have kq:(((E*q.natAbs:Nat):Rat))=(E:Rat)*((q.natAbs:Nat):Rat):=iD ..;rcases TC q with h | h
  ·have hq:((q.natAbs:Nat):Rat)=(q:Rat):=by rw[<- aS,<- h]
   refine #[D*z,?_,by rw[dk,bW];exact ax _ bz];rw[kq,hq,key,bc,aS]
  ·have hq:((q.natAbs:Nat):Rat)=-(q:Rat):=by rw[<- aS,<- dZ];congr 1;lia
   refine #[-(D*z),?_,by rw[uL,dk,bW];exact ax _ bz];rw[kq,hq,dZ,bc,aS,<- key];grind
end
def Vr (K:FG9) (a:Addr) (n:Nat):It :=
 #[λi H=>i < n/\∃xs x,bR K H a xs/\xs[n - 1 - i]?=some x,λi H x H'=>H'=H/\∀xs,bR K H a xs->xs[n - 1 - i]?=some x,λi _=>n<=i]
theorem MC {P:Program} {w:World} {K:FG9} {tg:Expr} (a it:Addr) (n:Nat):Turn P w K tg (Vr K a n) [it] it (λi h=>i<=n/\h.IsRevIter it a ((n:Int) - 1 - (i:Nat))) where
 mem:=by simp
 obj:=λi h st b hb=>by
  have e:b=it:=by simpa using hb
  subst e;obtain _|o|e|c|d:=st;exact #[o,e,λv z=>by rw[d] at z;cases z]
 keep:=λi h h' st k=>#[st.1,st.2.at λo e=>k it (by simp) o e]
 item:=by
  intro X hP hw hK hc i pins s σ H E I hf st hg;subst hP hw hK;obtain hi|xs|x|hq|hx:=hg;obtain its|rv|p|hz:=I.list hq;obtain u|hu|ru:=rv.get hx;obtain f0|f1|f2|f3|f4|f5:=hf it (by simp);have st2:=st.2;rw[show (n:Int) - 1 - (i:Nat)=((n - 1 - i:Nat):Int) by lia] at st2;refine wpAny_pyNext_rev_item st2 p.isList (x:=u) (by simpa using hu) λh' st' sb=>?_
  have I1:Inv X pins σ H { s with heap:=h' }:=I.turned (t':=s.toks) (λb o hb e=>(sb.2 b hb).trans e) f0 f1 f3 f4 f5;rw[show ((n - 1 - i:Nat):Int) - 1=(n:Int) - 1 - ((i+1:Nat):Int) by lia] at st';obtain o|e|c|d:=id st';exact #[u,rfl,Kw (s:={ s with heap:=h' }) e c d () ⟨x,H,I1,ru,⟨rfl,λys hy=>by rw[I.list_inj hy hq];exact hx⟩,#[hi,st'],λb hb=>(hf b hb).1⟩]
 done:=by
  intro X hP hw hK hc i pins s σ H E I hf st hg;subst hP hw hK;obtain f0|f1|f2|f3|f4|f5:=hf it (by simp);have st2:=st.2;have:n<=i:=hg;have:=st.1;rw[show (n:Int) - 1 - (i:Nat)=-1 by lia] at st2;exact wpAny_pyNext_rev_end (I.ok.hd hc) st2 λh' eb=>#[rfl,I.turned (t':=s.toks) (λb o hb e=>eb b o hb e) f0 f1 f3 f4 f5]
 self:=λ_ _ _ _ _ st h=>wpAny_pyIter_revIter st.2 h
def UC (K:FG9) (ta:TA):TI:=λσ H R=>ta σ H λvs H1=>∃l xs,vs=[.ref l]/\bR K H1 l xs/\R (Vr K l xs.9) H1
theorem SE {X:Cx} {e1:Expr} {ta:TA} {p pos:Pos} {tg:Expr} (hg:Gl X "reversed") (hm:X.mg "reversed"=none) (ha:PA X [e1] ta) (hs:starEach [e1] X.env=[(false,eval e1 X.env)]:=by rfl) :
  PI X tg (.Call (.Name "reversed" p) [e1] [] pos) (UC X.K ta):=by
 intro pins s σ H R I h;refine Call_ (j7 I hg hm boot_reversed (PyProof.Rows.callWith_type1 (gL (ha pos pins s σ H _ I h) λus s1 #[vs,H1,I1,r1,q1]=>?_) hs rfl));obtain l|xs|e|qx|q:=q1;subst e;obtain u|rfl|ru:=vals1 r1;cases ru;obtain us|rx|px|_:=I1.list qx;have lx:=rx.9;have kp:∀b o,s1.heap.get? b=some o->(s1.heap.push (revObj l ((us.5.7:Int) - 1))).get? b=some o:=λb o e=>Heap.get?_push_of_some _ e
 have st:(s1.heap.push (revObj l ((us.5.7:Int) - 1))).IsRevIter s1.heap.objs.size l ((us.5.7:Int) - 1):=#[_,Heap.get?_push_size _ rfl,rfl,rfl];refine call_reversed_list px.isList (wpAny_pyIter_revIter st ?_);have I2:Inv X pins σ H1 { s1 with heap:=s1.heap.push (revObj l ((us.5.7:Int) - 1)) }:=I1.kept (t':=s1.toks) kp;refine #[_,[s1.6],_,_,H1,rfl,I2,MC l s1.heap.objs.size xs.9,#[bg _,?_],λb hb=>?_,q]
 ·have e:((us.5.7:Int) - 1)=(xs.9:Int) - 1 - ((0:Nat):Int):=by rw[aI];lia
  rw[<- e];exact st
 ·have hb':b=s1.6:=by simpa using hb
  subst hb';exact I1.fpOk (ao _) (I1.hok.fresh (ao _))
def Iv (xs:List Rat):Prop:=∃M,Ia M (xs.map nm)
theorem AV (h0:0 < M) (h1:M<=2^4300000) (h2:W<=2^4300000) (h:∀x∈xs,Tp M W x):Iv xs:=by
 refine #[M,(),?_,λy hy=>?_]
 ·show ((M:Nat):Int).natAbs < 2^4400000
  rw[bW];exact bx h1 (dc () ())
 ·obtain x|hx'|rfl:=aE.mp hy;have t:=h x hx';refine #[iT x,uN t,?_];obtain s|e|b:=Am t h0 (iT x) (Lc _) (uN t);have e2:(((nm x).1:Int):Rat)=(s:Rat):=by rw[<- e];exact jU x
  rw[dI.mp e2];exact bx (ag b h2) (dc () ())
inductive J8 (K:FG9) (vs:List V) (H:Hp) (Q:VK) (E9:XK):Prop
 | mk (p q:Addr) (xs ys:List Rat):vs=[.ref p,.ref q]->bV K H p xs->bV K H q ys->ys.9=xs.9->xs.9<=1000->Iv xs/\Iv ys->(∀r H',aH H H'->bQ K H' (cm xs ys) (.ref r)->Q (.ref r) H')->J8 K vs H Q E9
inductive J6 (K:FG9) (vs:List V) (H:Hp) (Q:VK) (E9:XK):Prop
 | mk (p q:Addr) (H0:Hp) (rows:LR9) (ys:List Rat):vs=[.ref p,.ref q]->bL K H0 H p rows->bV K H q ys->rows.9<=1000->ys.9<=1000->((∀xs∈rows,xs.9=ys.9/\(Iv xs/\Iv ys)))->(∀r H',H r=none->aH H H'->bV K H' r (rows.map λxs=>cm xs ys)->Q (.ref r) H')->J6 K vs H Q E9
inductive Az (K:FG9) (vs:List V) (H:Hp) (Q:VK) (E9:XK):Prop
 | mk (p q:Addr) (w:Nat) (H0 H1:Hp) (one other:LR9):vs=[.ref p,.ref q,.int w]->bL K H0 H p one->bL K H1 H q other->one.9<=1000->other.9<=1000->w<=1000->((∀xs∈one,xs.9=other.9/\∀ys∈cp other w,Iv ys/\Iv xs))->(∀xs∈other,xs.9=w)->(∀r H',H r=none->aH H H'->bL K H H' r (xx one other w)->Q (.ref r) H')->Az K vs H Q E9
def Pd:Sp:=λ_ _ _ _=>False
theorem OA {K:FG9} {g:TG} (Pv:Nat->List V->Hp->Prop) (hz:xs.9<=sizeLine) (h0:Pv 0 [] H) (hl:∀i ys H,i<=xs.9->Pv i ys H->bR K H a xs)
  (hs:∀i x ys H,i < xs.9->xs[xs.9 - 1 - i]?=some x->ys.9<=i->Pv i ys H->oF σ₀ g tf te x H (λy H'=>Pv (i+1) (ys++[y]) H') (λH'=>Pv (i+1) ys H'))
  (hd:∀ys H,ys.9<=xs.9->Pv xs.9 ys H->∀p,H p=none->Q (.ref p) (upd H p (.lst ys))):oW (Vr K a xs.9) σ₀ g tf te Q H:=by
 refine #[λi m ys H=>m=xs.9 - i/\i<=xs.9/\ys.9<=i/\Pv i ys H,#[xs.9,by simp,bg _,bg _,h0],?_];rintro i m ys H ⟨rfl,hi,hy,p⟩;have q1:=hl i ys H hi p;by_cases hlt:i < xs.9
 ·refine .inr #[#[hlt,xs,xs[xs.9 - 1 - i]'(),q1,af _],(),λy H'=>Pv (i+1) (ys++[y]) H',λH'=>Pv (i+1) ys H',λy H' p'=>#[xs.9 - (i+1),(),rfl,hlt,by rw[aw,bI];lia,p'],λH' p'=>#[xs.9 - (i+1),(),rfl,hlt,(),p'],λx H' y=>?_];obtain rfl|e1:=y;exact hs i x ys _ hlt (e1 xs q1) hy p
 ·have e:i=xs.9:=()
  subst e;exact .inl #[ao _,(),hd ys H hy p]
theorem Qk (hy:0 < y):0 < (nm x).2*(nm y).1/\(lo ((nm x).1*(nm y).2) ((nm x).2*(nm y).1),hi ((nm x).1*(nm y).2) ((nm x).2*(nm y).1))=nm (x / y):=by
 have yn:0 < (nm y).1:=qX.mp hy;have hb:0 < (nm x).2*(nm y).1:=jr (iT x) yn
 have e1:(((nm x).1:Int):Rat)=x*(((nm x).2:Int):Rat):=by
  show (x.num:Rat)=x*(((x.den:Nat):Int):Rat)
  rw[jU,aS]
 have e2:(((nm y).1:Int):Rat)=y*(((nm y).2:Int):Rat):=by
  show (y.num:Rat)=y*(((y.den:Nat):Int):Rat)
  rw[jU,aS]
 have y0:y≠0:=λz=>by rw[z] at hy;exact absurd hy ()
 have e3:x / y*y=x:=uI y0;refine #[hb,mU hb ?_];rw[bc,bc,e1,e2];grind
inductive Au (K:FG9) (vs:List V) (H:Hp) (Q:VK) (E9:XK):Prop
 | mk (u v:V) (x y:Rat):vs=[u,v]->bQ K H x u->bQ K H y v->0 < y->iI x->iI y->(∀r H',aH H H'->bQ K H' (x / y) (.ref r)->Q (.ref r) H')->Au K vs H Q E9
inductive JZ (K:FG9) (vs:List V) (H:Hp) (Q:VK) (E9:XK):Prop
 | mk (p q:Addr) (ws xs:List Rat):vs=[.ref p,.ref q]->bV K H p ws->bV K H q xs->ws.9=xs.9->xs.9<=1000->(∀w∈ws,0 < w/\iI w)->(∀x∈xs,iI x)->(∀r H',H r=none->aH H H'->bV K H' r (tT ws xs)->Q (.ref r) H')->JZ K vs H Q E9
inductive F5 (vs:List V) (H:Hp) (Q:VK) (E9:XK):Prop
 | mk (p:Addr) (us:List V) (zss:List (List V)):vs=[.ref p]->H p=some (.lst us)->Paired (λzs u=>∃q,u=V.ref q/\H q=some (.lst zs)) zss us->zss.flatten.9<=1000->(∀r H',H r=none->aH H H'->H' r=some (.lst zss.flatten)->Q (.ref r) H')->F5 vs H Q E9
def mM (mv pt:LR9) (ws:List Rat) (T:Nat) (x:List Rat):LR9:=(CM mv pt T).reverse.map λrows=>tT ws (rows.map λr=>cm r x)
inductive FU (K:FG9) (vs:List V) (H:Hp) (Q:VK) (E9:XK):Prop
 | mk (p q l:Addr) (us:List V) (Rs:List (LR9)) (ws x:List Rat):vs=[.ref p,.ref q,.ref l]->bV K H p x->bV K H q ws->H l=some (.lst us)->Paired (Iy K l H) Rs us->Rs.9<=1000->ws.9<=1000->x.9<=1000->Iv x->(∀w∈ws,0 < w/\iI w)->(∀R∈Rs,R.9=ws.9/\∀xs∈R,xs.9=x.9/\Iv xs/\iI (cm xs x))->(∀r H',H r=none->aH H H'->bL K H H' r (Rs.reverse.map λrows=>tT ws (rows.map λr=>cm r x))->Q (.ref r) H')->FU K vs H Q E9
inductive J0 (K:FG9) (vs:List V) (H:Hp) (Q:VK) (E9:XK):Prop
 | mk (q l:Addr) (n:Nat) (us:List V) (Rs:List (LR9)) (ws:List Rat):vs=[.ref q,.ref l,.int n]->bV K H q ws->H l=some (.lst us)->Paired (Iy K l H) Rs us->n<=100->Rs.9<=100->Rs.flatten.9<=1000->(tF ws Rs.9).9=Rs.flatten.9->(∀xs∈Rs.flatten,xs.9=n/\∀x∈xs,iI x)->(∀w∈ws,0 < w/\iI w)->(∀ys∈cp Rs.flatten n,Iv ys/\Iv (tT (tF ws Rs.9) ys))->(∀r H0 H',H r=none->aH H H'->bL K H0 H' r (mN Rs.flatten (tF ws Rs.9) n)->Q (.ref r) H')->J0 K vs H Q E9
inductive F8 (K:FG9) (C:Addr) (vs:List V) (H:Hp) (Q:VK) (E9:XK):Prop
 | mk (x:Addr) (u:Nat) (H0:Hp) (mv pt lk:LR9):vs=[.ref x,.int u]->u<=99->kg K H0 H C x mv pt lk->eQ mv pt lk->OV mv pt u->(∀r us H',H r=none->aH H H'->H' r=some (.lst us)->Paired (Iy K r H') (CM mv pt u) us->Q (.ref r) H')->F8 K C vs H Q E9
theorem zV (ws:List Rat) (T:Nat):(tF ws T).9=T*ws.9:=by
 unfold tF
 induction T with
 | zero=>simp
 | succ T ih=>rw[jf,dR,aw,ih,dw];lia
theorem IE (h:w∈tF ws T):w∈ws:=by
 unfold tF at h;obtain l|hl|hw:=eo.mp h;rw[fP hl] at hw;exact hw
theorem By {K:FG9} {l:Addr} {H:Hp}:∀{Rs:List (LR9)} {us:List V},Paired (Iy K l H) Rs us->∃zss:List (List V),Paired (λzs u=>∃q,u=V.ref q/\H q=some (.lst zs)) zss us/\Paired (λR zs=>Paired (dB K (ES l) H) R zs) Rs zss
 | _,_,.nil=>#[[],.nil,.nil]
 | _,_,.cons h t=>by
  obtain zss|a|b:=By t;obtain q|e|_|zs|g|r|_:=h;exact #[zs :: zss,.cons #[q,e,g] a,.cons r b]
theorem AY {α β:Type} {F:α->V->Prop} {G:β->V->Prop} {b:β} (h:∀a y,F a y->G b y):∀{as:List α} {ys:List V},Paired F as ys->Paired G (List.replicate as.9 b) ys
 | _,_,.nil=>.nil
 | _,_,.cons x t=>.cons (h _ _ x) (AY h t)
theorem Ke {α β:Type} {G:α->β->Prop} {a:α} {b:β} (h:G a b):∀n:Nat,Paired G (List.replicate n a) (List.replicate n b)
 | 0=>.nil
 | n+1=>.cons h (Ke h n)
theorem lK {α β:Type} {F:α->β->Prop}:∀{Rs:List (List α)} {zss:List (List β)},Paired (λR zs=>Paired F R zs) Rs zss->Paired F Rs.flatten zss.flatten
 | _,_,.nil=>.nil
 | _,_,.cons h t=>bX h (lK t)
theorem Al {C:Rat->Prop} (h:∀xs∈rows,xs.9=n/\∀x∈xs,C x):∀ys∈cp rows n,∀y∈ys,C y:=λys hy y hy'=>by
 obtain j|hj|rfl:=aE.mp hy;obtain xs|hx|rfl:=aE.mp hy';have:=h xs hx;exact this.2 _ (getD_mem (by rw[this.1];exact uK.mp hj))
theorem NT (h0:0 < w) (h:Dr W w):Dr W (1 / w):=by
 have wn:0 < w.num:=qX.mp h0;have w0:w≠0:=λz=>by rw[z] at h0;exact absurd h0 ()
 have e:=Q4 (a:=(w.den:Int)) (b:=w.num) (q:=1 / w) wn (by rw[jt];exact Bi w) (by
  have e1:(w.num:Rat)=w*((w.den:Nat):Rat):=jU w;have e2:1 / w*w=1:=uI w0;rw[aS,e1,<- Rat.mul_assoc,e2,qQ])
 have e1:(w.den:Int)=(1 / w).num:=congrArg Prod.fst e;have e2:w.num=((1 / w).den:Int):=congrArg Prod.snd e;have h1:=h.1;have h2:=h.2;exact #[(),()]
def Ms (a1 a2 T:Nat):Nat:=a1*T+a2
def JO (a1 a2 T:Nat):Nat:=2*Ms a1 a2 T+42
def Cm (a1 a2 c T:Nat):Nat:=2*(c*(T+1))+28+JO a1 a2 T
def Mi (a1 a2 T b:Nat):Nat:=a1*T+a2+b+12
def Ld (a1 a2 c T b:Nat):Nat:=c*T+26+Mi a1 a2 T b
def zQ (n a1 a2 c T:Nat):Nat:=(Cm a1 a2 c T+4)*n
def RC (n a1 a2 c T b:Nat):Nat:=JO a1 a2 T+3+Ld a1 a2 c T b+(zQ n a1 a2 c T - Cm a1 a2 c T)
abbrev Z65 (n a1 a2 c T b:Nat):Prop:=n<=8/\T<=14/\zQ n a1 a2 c T<=8900000/\Cm a1 a2 c T<=4200000/\Cm a1 a2 c T+Mi a1 a2 T b+Ld a1 a2 c T b+JO a1 a2 T<=4200000/\n*(Cm a1 a2 c T+Mi a1 a2 T b+Ld a1 a2 c T b+JO a1 a2 T+5)<=8900000/\2*Mi a1 a2 T b+zQ n a1 a2 c T<=3900000/\3+RC n a1 a2 c T b+Ld a1 a2 c T b<=3900000/\Ms a1 a2 T+Mi a1 a2 T b+zQ n a1 a2 c T<=3900000/\3+c*(T+1)+Ms a1 a2 T+RC n a1 a2 c T b<=3900000/\a1*(T+2)+a2+b+c*(T+3)+22<=3900000
def Rch (mv pt:LR9) (u:Nat) (go:List Rat):Prop:=∀pr:List Rat,pr.9=mv.9->(∀xs∈kry mv pt u,cm xs pr=0)->cm pr go=0
section
variable {mv pt lk pus:LR9} {ws go g1 g2:List Rat} {M1 M2 V a1 a2 c T0 n0 b B u T E:Nat}
theorem p2 (h:a<=b):2^a<=2^b:=au () h
theorem NP:kry mv pt (u+1)=kry mv pt u++pt.map (jI mv u):=by
 rw[<- je,Ad,eY,je];simp
theorem Ur (X:Bd mv pt M1 M2 V a1 a2 c) (D:eQ mv pt lk) (hu:u<=T0+1):∀xs∈kry mv pt u,∀x∈xs,Fr (M1^T0*M2) (2^(c*(T0+1))) x:=λxs hx x hx' =>
 Fr.up (X.kry D u xs hx x hx') (oY (Ci _ ()) _) (p2 (ax _ hu))
theorem SS (hw:∀xs∈rows,xs.9=n) (lw:wT.9=rows.9) (h64:rows.9<=64) (hf:∀xs∈rows,∀x∈xs,Fr D1 V1 x) (hi:∀w∈wT,Fr B (2^22) (1 / w)):(∀ys∈cp rows n,(∀y∈ys,Fr D1 V1 y)/\∀y∈tT wT ys,Fr (D1*B) (V1*2^22) y)/\∀xs∈mN rows wT n,∀x∈xs,Fr (D1*(D1*B)) (64*(V1*(V1*2^22))) x:=by
 have h1:∀ys∈cp rows n,(∀y∈ys,Fr D1 V1 y)/\∀y∈tT wT ys,Fr (D1*B) (V1*2^22) y:=λys hy=>by
  have t:=Al (C:=Fr D1 V1) (λxs hx=>#[hw xs hx,hf xs hx]) ys hy;refine #[t,λy hy'=>?_];unfold tT at hy';obtain i|h|e:=bE hy';rw[dg] at e;rw[<- e,show ∀a b:Rat,a / b=a*(1 / b) from λa b=>by rw[gW,gW,qQ]];exact (t _ (aK _)).mul (hi _ (aK _))
 refine #[h1,λxs hx x hx'=>?_];unfold mN xx at hx;obtain pc|hp|rfl:=aE.mp hx;obtain ca|ha|rfl:=aE.mp hp;obtain cb|hb|rfl:=aE.mp hx';exact (Fr.dot (h1 cb hb).1 (h1 ca ha).2).mono (aD _ (by rw[gO cb hb];exact h64))
end
inductive JX (K:FG9) (vs:List V) (H:Hp) (Q:VK) (E9:XK):Prop
 | mk (b:Addr) (m:Nat):vs=[.ref b,.int m,.int 1]->gV H b->m<=8->(∀r ws H',H r=none->bV K H' r ws->ws.9=m->(∀w∈ws,0 < w/\Dr 1000 w)->gV H' b->cP b H H'->Q (.ref r) H')->JX K vs H Q E9
theorem SA {t b:Int} (h:z*(b:Rat)=(t:Rat)) (hb:0 < b) (ht:0 < t):0 < z:=by
 have h1:(0:Rat) < (b:Rat):=qX.mpr hb;have h2:(0:Rat) < (t:Rat):=qX.mpr ht;by_cases q:0 < z
 ·exact q
 ·have:=Rat.mul_le_mul_of_nonneg_right (Iz.mp q) (Rat.le_of_lt h1);rw[h,js] at this;exact absurd h2 (Iz.mpr this)
theorem Oo (lx:xs.9=n) (lg:gs.9=n) (n8:n<=8) (h1:∀x∈xs,Tp N (2^e) x) (h2:∀x∈gs,Tp D (2^f) x):Tp (N*D) (2^(3+e+f)) (cm xs gs):=by
 rw[c8 (by rw[lx,lg]),lx];refine (Tp.sum λj _=>(iE h1 j).mul (iE h2 j)).mono ?_;rw[aB 2 (3+e),aB 2 3,cu];exact aD _ (show n<=2^3 by lia)
def O5 (rows:LR9) (wT x:List Rat):List Rat:=tT wT (rows.map λr=>cm r x)
section
variable {mv pt lk pus a b rows:LR9} {ws wT st go x y:List Rat} {T n m:Nat}
theorem Og:∀{x y:LR9},x.9=y.9->(∀z∈x,z.9=m)->(∀z∈y,z.9=m)->x.flatten=y.flatten->x=y:=by
 intro x
 induction x with
 | nil=>intro y h _ _ _;cases y with | nil=>rfl | cons _ _=>cases h
 | cons r x ih =>
  intro y h hx hy e;cases y with
  | nil=>cases h
  | cons s y =>
   rw[dR,dR] at e;obtain e1|e2:=List.append_inj e (by rw[hx r (.head _),hy s (.head _)]);rw[e1,ih (by simpa using h) (λz hz=>hx z (.tail _ hz)) (λz hz=>hy z (.tail _ hz)) e2]
theorem TH (hl:wT.9=rows.9) (hk:k < rows.9):(O5 rows wT x).getD k 0=cm (rows.getD k []) x / wT.getD k 0:=by
 unfold O5 tT;rw[ae,bN,aF,af hk,af (show k < wT.9 by lia),ae (l:=rows),af hk,ae (l:=wT),af (show k < wT.9 by lia)];rfl
theorem IF (hl:wT.9=rows.9):(O5 rows wT x).9=rows.9:=by unfold O5 tT;rw[bD,aj,hl,fN]
theorem Sx (lw:ws.9=pt.9):mM mv pt ws T x=Ct (O5 (kry mv pt T) (tF ws T) x) T T pt.9:=by
 unfold mM Ct;rw[fM,List.replicate_zero,cY,List.map_reverse];congr 1;have lt:∀T,(tF ws T).9=(kry mv pt T).9:=λT=>by rw[zV,kM,lw]
 have fl:∀T:Nat,((CM mv pt T).map λrows=>tT ws (rows.map λr=>cm r x)).flatten=O5 (kry mv pt T) (tF ws T) x:=by
  intro T
  induction T with
  | zero=>rfl
  | succ T ih =>
   have e7:tF ws (T+1)=tF ws T++ws:=by unfold tF;rw[kh,eY];simp
   rw[Ad,cG,eY,ih,NP,e7];unfold O5 tT;rw[cG,FF (by rw[aj,lt T])];simp
 have wl:(O5 (kry mv pt T) (tF ws T) x).9=T*pt.9:=by rw[IF (lt T),kM]
 refine Og (m:=pt.9) (by unfold CM Hv;rw[aj,aj,aj]) (λz hz=>?_) (λz hz=>?_) (by rw[fl,BM wl])
 ·unfold CM at hz;obtain R|hR|rfl:=aE.mp hz;obtain t|_|rfl:=aE.mp hR;unfold tT;rw[bD,aj,aj,lw,fN]
 ·exact Q2 (T:=T) wl z (by unfold Ct;exact bH _ (kQ.mpr hz))
theorem Ez:(mM mv pt ws T x).9=T:=by unfold mM CM;rw[aj,jg,aj,bZ]
theorem Q3 (lw:ws.9=pt.9):∀xs∈mM mv pt ws T x,xs.9=pt.9:=λxs hx=>by
 unfold mM CM at hx;obtain R|hR|rfl:=aE.mp hx;obtain t|_|rfl:=aE.mp (kQ.mp hR);unfold tT;rw[bD,aj,aj,lw,fN]
theorem Lu (D:eQ mv pt lk) (ls:st.9=mv.9) (lg:go.9=mv.9) (lw:ws.9=pt.9) (h:Ro (kry mv pt T) (tF ws T) mv.9 (cQ mv T st go) x):qU mv pt st (mM mv pt ws T x) T=go:=by
 have kl:=kM (mv:=mv) (pt:=pt) T;have lt:(tF ws T).9=(kry mv pt T).9:=by rw[zV,kl,lw]
 have wk:=fj (mv:=mv) (pt:=pt) rfl D.pw T;rw[Sx lw];refine JC D ls lg (ao _) (IF lt) ?_;have wl:(O3 (kry mv pt T) (O5 (kry mv pt T) (tF ws T) x) mv.9).9=mv.9:=Mz;refine Jv (by rw[wl,h.2.1]) λc hc=>?_
 rw[wl] at hc;rw[zU hc,IF lt];obtain ⟨e,ee⟩:∃e:List Rat,e=(List.range mv.9).map λj=>if j=c then (1:Rat) else 0:=#[_,rfl]
 have le:e.9=mv.9:=by rw[ee,aj,bZ]
 have ea:∀j,j < mv.9->e.getD j 0=if j=c then 1 else 0:=λj hj=>by rw[ee,ae,aF,cJ hj];rfl
 have s:=h.2.2 e le;rw[c8 (by rw[le,h.2.1]),le,il hc λj hj ne=>by rw[ea j hj,if_neg ne,js],ea c hc,if_pos rfl,qQ] at s;rw[s];refine aY λk hk=>?_
 rw[TH lt hk,JA wk hk le,il hc λj hj ne=>by rw[ea j hj,if_neg ne,gM],ea c hc,if_pos rfl,xp];rw[gW,gW];grind
end
theorem JR {M W:Nat}:∀{l:List Rat},(∀x∈l,Tp M W x)->Tp M (l.9*W) l.sum
 | [],_=>by rw[List.length_nil,Nat.zero_mul];exact Tp.zero
 | x :: l,h=>by
  rw[List.sum_cons,bO,dw,nF];exact (h x (.head _)).add (JR λy hy=>h y (.tail _ hy))
theorem RJ (h1:∀x∈xs,Tp M A x) (h2:∀y∈ys,Tp N B y):Tp (M*N) (xs.9*(A*B)) (cm xs ys):=by
 unfold cm
 have t:=JR (M:=M*N) (W:=A*B) (l:=List.zipWith (λx y=>x*y) xs ys) λz hz=>by
  obtain i|hi|e:=bE hz;rw[dg] at e;rw[<- e];exact (h1 _ (aK _)).mul (h2 _ (aK _))
 exact t.mono (aD _ (by rw[bD];lia))
theorem OV.le (h:OV mv pt T) (hu:u<=T):OV mv pt u:=by
 obtain M1|M2|V|a1|a2|c|X|z:=h;have e1:a1*(u+1)<=a1*(T+1):=ax _ ();have e2:c*(u+2)<=c*(T+2):=ax _ ();exact #[M1,M2,V,a1,a2,c,X,()]
def GB (ν p:Nat) (rows:LR9):Prop:=∃N:Nat,0 < N/\N<=2^ν/\∀xs∈rows,∀x∈xs,Fr N (2^p) x
section
variable {mv pt lk pus a b rows:LR9} {ws st go x:List Rat} {M1 M2 V a1 a2 c B ν p ν' p' T w m:Nat}
theorem Bd.upA (X:Bd mv pt M1 M2 V a1 a2 c) (h1:a1<=a1') (h2:a2<=a2') (h3:c<=c'):Bd mv pt M1 M2 V a1' a2' c':=#[X.m1,X.m2,ag X.b1 (p2 h1),ag X.b2 (p2 h2),X.gm,X.gp,ag X.vc (p2 h3)]
theorem S9 (X:Bd mv pt M1 M2 V 80 160 33) (h:GB ν p pus) (h1:ν<=1000*40) (h2:p<=1000*40) (lp:pus.9<=12) (B0:0 < B) (Bb:B<=2^600) (hs:∀x∈st,Fr B (2^22) x):K9 mv pt pus st:=by
 obtain N|N0|Nb|f:=h;refine #[M1,M2,V,80,160,33,M2*N*B,N,p+22,160+ν+600,X,a7 (a7 X.m2 N0) B0,?_,xu _ _,λx hx=>Fr.up (hs x hx) (cM _ _) (p2 ()),λxs hx x hx'=>(f xs hx x hx').mono (p2 ()),(),()];rw[aB,aB];exact ay (ay X.b2 Nb) Bb
theorem Gk (R:Rg mv pt w) (D:eQ mv pt lk) (S:Tv mv pt T):∃M1 M2 V a1 a2 c b1 b2,Us mv pt w T M1 M2 V a1 a2 c b1 b2/\a1<=80/\a2<=160/\c<=33/\b1<=525:=by
 have i4:=D.i4;have n8:=D.n8;have small:w<=9->∀l:List Rat,(∀x∈l,Dr (max w 6) x)->∃B,0 < B/\6∣B/\(∀x∈l,Fr B (2^22) x)/\(l.9<=2*mv.9+T*pt.9->B<=2^12)/\(l.9<=2*mv.9+2*(T*pt.9)->B<=2^12):=λw9 l h=>#[2520,(),(),λx hx=>(Jz #[ag (h x hx).1 (),ag (h x hx).2 ()] (Ah _)).mono (),λ_=>(),λ_=>()]
 have wide:w=1000->∀t,T*pt.9<=t->mv.9<=2->∀l:List Rat,(∀x∈l,Dr (max w 6) x)->∃B,0 < B/\6∣B/\(∀x∈l,Fr B (2^22) x)/\(l.9<=2*mv.9+T*pt.9->B<=2^(45+10*t))/\(l.9<=2*mv.9+2*(T*pt.9)->B<=2^(45+20*t)):=λw9 t ht n2 l h=>by
  obtain B|h0|h1|h2:=yk (c:=10) (l:=l) (λx hx=>#[ag (h x hx).1 (by rw[w9];decide),ag (h x hx).2 (by rw[w9];decide)]) ()
  have up:∀k,3+(10*l.9+2)<=k->6*B<=2^k:=λk hk=>by
   refine ag ?_ (au () hk);rw[aB 2 3];exact ay () h1
  exact #[6*B,(),xu _ _,λx hx=>(h2 x hx).scaleL 6,λhl=>up _ (),λhl=>up _ ()]
 rcases R with ⟨w9,X⟩ | ⟨w9,n5,X⟩ | ⟨w9,n2,M1,M2,X⟩
 ·exact #[_,_,_,_,_,_,12,12,#[X,kI (n':=8) (T':=12) (b':=12) n8 S.1 (ao _) (),zT (n':=8) (T':=12) (b':=12) n8 S.1 (ao _) (),kI (n':=8) (T':=12) (b':=12) n8 S.1 (ao _) (),small w9],(),(),(),()]
 ·exact #[_,_,_,_,_,_,12,12,#[X,kI (n':=5) (T':=12) (b':=12) n5 S.1 (ao _) (),zT (n':=5) (T':=12) (b':=12) n5 S.1 (ao _) (),kI (n':=5) (T':=12) (b':=12) n5 S.1 (ao _) (),small w9],(),(),(),()]
 ·by_cases T3:T<=3
  ·have m:T*pt.9<=3*4:=ay T3 i4;exact #[_,_,_,_,_,_,165,285,#[X,kI (n':=2) (T':=3) (b':=165) n2 T3 (ao _) (),zT (n':=2) (T':=3) (b':=165) n2 T3 (ao _) (),kI (n':=2) (T':=3) (b':=285) n2 T3 (ao _) (),wide w9 12 m n2],(),(),(),()]
  ·obtain ⟨T12,z | ⟨hd,_⟩⟩:=S
   ·exact absurd z T3
   have m:T*pt.9<=12*4:=ay T12 i4
   have gf:∀l:LR9,(∀xs∈l,xs∈mv++pt)->GF 2520 1000 l:=λl hl xs hx x hx'=>by
    have:=hd xs (hl xs hx) x hx';exact (Fr.own x (be this.2)).dvd (KI this.1)
   have X2:Bd mv pt 2520 2520 1000 12 12 13:=#[(),(),(),(),gf mv λxs hx=>aA.mpr (.inl hx),gf pt λxs hx=>aA.mpr (.inr hx),ag (aD _ (show mv.9+4<=6 by lia)) ()];exact #[_,_,_,_,_,_,525,1005,#[X2,kI (n':=2) (T':=12) (b':=525) n2 T12 (ao _) (),zT (n':=2) (T':=12) (b':=525) n2 T12 (ao _) (),kI (n':=2) (T':=12) (b':=1005) n2 T12 (ao _) (),wide w9 48 m n2],(),(),(),()]
end
section
variable {X:Cx} {tg l:Expr} {tl:TE}
def NW (K:FG9) (tl:TE):TI:=λσ H R=>tl σ H λx H1=>∃a,x=.ref a/\((∃xs,bR K H1 a xs)/\R (OR K a) H1\/(∃xs,jB K H1 a xs)/\R (QJ K a) H1)
theorem SD (hl:PE X l tl):PI X tg l (NW X.K tl):=by
 intro pins s σ H R I h;refine gL (hl pins s σ H _ I h) λv s1 #[x,H1,I1,r1,q1]=>?_
 obtain a|e|q1:=q1;subst e;cases r1;rcases q1 with ⟨⟨xs,hq⟩,q⟩ | ⟨⟨xs,hq⟩,q⟩
 ·obtain its|rv|p|hz:=I1.list hq;refine wpAny_pyIter_list p.isList ?_;refine #[s1.6,[s1.6],_,_,H1,rfl,I1.kept (t':=s1.toks) λb o e=>Heap.get?_push_of_some _ e,C0 a _,#[_,Heap.get?_push_size _ rfl,rfl,rfl],λb hb=>?_,q];have e:b=s1.6:=by simpa using hb
  subst e;exact I1.fpOk (ao _) (I1.hok.fresh (ao _))
 ·obtain its|rv|p|hz:=I1.tuple hq;refine wpAny_pyIter_tuple (show s1.heap.IsTuple a its.toArray from p) ?_;refine #[s1.6,[s1.6],_,_,H1,rfl,I1.kept (t':=s1.toks) λb o e=>Heap.get?_push_of_some _ e,Ak a _,#[_,Heap.get?_push_size _ rfl,rfl,rfl],λb hb=>?_,q];have e:b=s1.6:=by simpa using hb
  subst e;exact I1.fpOk (ao _) (I1.hok.fresh (ao _))
end
section
variable {X:Cx} {pins:List (Addr×Obj)} {σ:St} {H:Hp} {s:Shared} {A:Around} {E:Value->Shared->Prop} {Q:Value->Shared->Prop} {b:Bool} {tp:Addr} {dd:Option Addr} {its:List Value} {n:Nat} {sl:Array (Option Value)}
theorem Jq (I:Inv X pins σ H s) (rx:RelV x u) (ty:vp X.K H x t) (htp:s.heap.get? tp=some #[.type "tuple",dd,.seq its.toArray n,sl]) (e:PySem.W.kitAny X.K t its=some b) (h:∀tk,Q (.bool b) { s with toks:=tk }) :
  wpAny (model X.prog X.w) A (call (.builtin "isinstance") [u,.ref tp]) Q E s:=by
 cases ty with
 | non=>cases (show u=Value.none from rx);exact dJ PySem.W.kitx_none I.kIn True.intro htp e (λz=>nomatch z) h
 | bl y=>cases (show u=Value.bool y from rx);exact dJ PySem.W.kitx_bool I.kIn True.intro htp e (λz=>nomatch z) h
 | int i=>obtain t|q:=(show ∃t,u=Value.int i t from rx);cases q;exact dJ PySem.W.kitx_int I.kIn True.intro htp e (λz=>nomatch z) h
 | str y=>obtain t|q:=(show ∃t,u=Value.str y t from rx);cases q;exact dJ PySem.W.kitx_str I.kIn True.intro htp e (λz=>nomatch z) h
 | flt y=>obtain t|q:=(show ∃t,u=Value.float y t from rx);cases q;exact dJ PySem.W.kitx_float I.kIn True.intro htp e (λz=>nomatch z) h
 | @lst a xs ea =>
  cases (show u=Value.ref a from rx);obtain _|_|n|_|h1:=(show gR X.prog X.w H s.heap a (.lst xs) from I.hok a _ ea);exact dJ xr I.kIn #[_,h1,rfl] htp e (λz=>nomatch z) h
 | @frz a ob xs ea =>
  cases (show u=Value.ref a from rx);obtain _|_|_|n|_|h1:=(show gR X.prog X.w H s.heap a (.frz ob (.lst xs)) from I.hok a _ ea);exact dJ xr I.kIn #[_,h1,rfl] htp e (λz=>nomatch z) h
 | @tup a xs ea =>
  cases (show u=Value.ref a from rx);obtain _|_|_|p:=(show gR X.prog X.w H s.heap a (.tup xs) from I.hok a _ ea);obtain o|h1|h2|_:=p;exact dJ uJ I.kIn #[o,h1,h2] htp e (λz=>nomatch z) h
 | @dK a kvs ea =>
  cases (show u=Value.ref a from rx);obtain _|_|vs|_|p:=(show gR X.prog X.w H s.heap a (.dK kvs) from I.hok a _ ea);obtain o|es|ep|h1|h2|_:=p;exact dJ xt I.kIn #[o,h1,h2.1] htp e (λz=>nomatch z) h
 | @dT a kvs ea =>
  cases (show u=Value.ref a from rx);obtain _|_|xs|_|o|es|ep|h1|h2|_:=(show gR X.prog X.w H s.heap a (.dT kvs) from I.hok a _ ea);exact dJ xt I.kIn #[o,h1,h2.1] htp e (λz=>nomatch z) h
 | @ins a C dx fs ea cl ha hn htk hm =>
  cases (show u=Value.ref a from rx);obtain mA|O|_:=vY I.hok ea;obtain od|J|_:=O.look;exact dJ (PySem.W.kitx_own (cl.get _) cl.hd ha hn htk hm) I.kIn J htp e (λz=>nomatch z) h
def Ul (K:FG9):List V->Hp->VK->Prop:=λvs H Q=>∃x tp,vs=[x,.ref tp]/\H tp=some (.tup [.ty "list",.ty "tuple"])/\((∃t b,vp K H x t/\PySem.W.kitAny K t [.type "list",.type "tuple"]=some b/\Q (.bl b) H)\/∃a xs,x=.ref a/\jB K H a xs/\Q (.bl true) H)
theorem L9:nB X (.builtin "isinstance") (Ul X.K):=by
 intro pins s σ H vs us Q I r h;obtain x|tp|rfl|et|q1:=h;obtain u|v|rfl|ru|rv:=vals2 r;cases rv;obtain _|its|rits|o|ho|hoc|n|hod:=(show gR X.prog X.w H s.heap tp (.tup [.ty "list",.ty "tuple"]) from I.hok tp _ et);obtain oc|od|dt|sl:=o
 dsimp only at hoc hod
 subst hoc hod
 obtain rfl:its=[.type "list",.type "tuple"]:=by
  cases rits with
  | cons a r=>cases r with
   | cons a2 r2=>cases r2;cases a;cases a2;rfl
 rcases q1 with ⟨t,b,ty,ek,q⟩ | ⟨ad,xs,rfl,hs,q⟩
 ·exact Jq I ru ty ho ek λtk=>#[.bl b,H,I.tok tk,rfl,q]
 ·cases ru;obtain _|_|⟨o,g1,g2,_⟩|_:=I.tuple hs;exact dJ uJ I.kIn #[o,g1,g2] ho (b:=true) rfl (λz=>nomatch z) λtk=>#[.bl true,H,I.tok tk,rfl,q]
end
inductive Ed where
 | fl (v:V)
 | row (qs:List Rat)
 | grid (rs:LR9)
def OT (K:FG9) (H0 H:Hp):Ed->V->Prop
 | .fl v,x=>x=v
 | .row qs,x=>∃p,x=.ref p/\H0 p=none/\bV K H p qs
 | .grid rs,x=>∃p,x=.ref p/\H0 p=none/\bL K H0 H p rs
section
variable {K:FG9} {a:Addr} {xs:List V} {g:TG} {tf:TT} {te:TE} {Q:VK} {σ₀:St} {H:Hp} {α β:Type}
theorem DH {F:Hp->α->V->Prop} (G:Hp->β->V->Prop) (f:α->β) (hx:jB K H a xs) (pf:Paired (F H) as xs) (hl:as.9<=1000)
  (hF:∀{H H' c x},F H c x->aH H H'->F H' c x) (hG:∀{H H' c x},G H c x->aH H H'->G H' c x)
  (hs:∀(i:Nat) c x H' NY NN,as[i]?=some c->aH H H'->F H' c x->(∀y H2,aH H' H2->G H2 (f c) y->NY y H2)->oF σ₀ g tf te x H' NY NN)
  (hd:∀ys H' p,H p=none->aH H H'->H' p=some (.lst ys)->Paired (G H') (as.map f) ys->(∃H2,H2 p=none/\Paired (G H2) (as.map f) ys)->Q (.ref p) H'):oW (QJ K a) σ₀ g tf te Q H:=by
 have lx:=pf.9;refine Oz (K:=K) (xs:=xs) (λi ys H'=>aH H H'/\Paired (G H') ((as.take i).map f) ys) (be (bC ())) #[aH.refl _,.nil] (λi ys H' _ #[s,_]=>s.sqt hx) ?_ ?_
 ·rintro i x ys H' hx' hlen ⟨s,pr⟩;obtain c|ec|hc:=b6 pf hx';refine hs i c x H' _ _ ec s (hF hc s) λy H2 s2 gy=>#[s.trans s2,?_]
  rw[take_snoc ec,cG];exact bX (Paired.imp' (λ_ _ z=>hG z s2) pr) (.cons gy .nil)
 ·rintro ys H' hy ⟨s,pr⟩ p hp;rw[aJ ()] at pr;exact hd ys _ p (s.none hp) (s.trans (aH.new hp)) aL (Paired.imp' (λ_ _ z=>hG z (aH.new hp)) pr) #[H',hp,pr]
end
def Kp (S:Addr->Prop) (H H':Hp):Prop:=∀a o,H a=some o->(¬S a\/∀zs,o≠.lst zs)->H' a=some o
section
variable {K:FG9} {S S':Addr->Prop} {H H' H'':Hp} {p:Addr} {q:Rat} {qs:List Rat} {x:V}
theorem Kp.of (s:aH H H'):Kp S H H':=λa o h _=>s a o h
theorem Kp.mono (h:Kp S H H') (hs:∀a,S a->S' a):Kp S' H H':=λa o e c=>h a o e (c.elim (λn=>.inl λz=>n (hs a z)) .inr)
theorem Kp.trans (h:Kp S H H') (h':Kp S H' H''):Kp S H H'':=λa o e c=>h' a o (h a o e c) c
theorem Kp.upd {ys:List V} {o:HO} (hl:H p=some (.lst ys)) (hS:S p):Kp S H (upd H p o):=λa o' e c=>by
 by_cases z:a=p
 ·subst z;rw[hl] at e;cases e;exact c.elim (λn=>absurd hS n) λn=>absurd rfl (n ys)
 ·rw[bM z];exact e
theorem Kp.sqt (h:Kp S H H') (s:jB K H a xs):jB K H' a xs:=by
 rcases s with (e | ⟨o,e⟩) | e
 ·exact .inl (.inl (h _ _ e (.inr λ_ z=>nomatch z)))
 ·exact .inl (.inr #[o,h _ _ e (.inr λ_ z=>nomatch z)])
 ·exact .inr e
theorem Kp.numR (h:Kp S H H') (m:xm K H x n):xm K H' x n:=by obtain p|e|s:=m;exact #[p,e,h.sqt s]
theorem Kp.num (h:Kp S H H') (n:bQ K H q x):bQ K H' q x:=by obtain p|e|s:=n;exact #[p,e,h.sqt s]
theorem Kp.row (h:Kp S H H') (n:¬S p) (r:bV K H p qs):bV K H' p qs:=by
 obtain xs|g|pr:=r;exact #[xs,h _ _ g (.inl n),Paired.imp' (λ_ _ z=>h.num z) pr]
end
def Mo (K:FG9) (W:Addr->Prop) (H:Hp):Ed->V->Prop
 | .fl v,x=>x=v
 | .row qs,x=>∃p,x=.ref p/\W p/\bV K H p qs
 | .grid rs,x=>∃p us,x=.ref p/\W p/\H p=some (.lst us)/\V.ref p∉us/\Paired (λqs v=>∃q,v=V.ref q/\W q/\bV K H q qs) rs us
theorem Mo.kp {K:FG9} (h:Mo K W H d x) (k:Kp S H H') (n:∀a,W a->¬S a):Mo K W H' d x:=by
 cases d with
 | fl v=>exact h
 | row qs=>obtain p|a|b|c:=h;exact #[p,a,b,k.row (n p b) c]
 | grid rs =>
  obtain p|us|a|b|c|d|e:=h;exact #[p,us,a,b,k _ _ c (.inl (n p b)),d,Paired.imp' (λ_ _ #[q,a,b,c]=>#[q,a,b,k.row (n q b) c]) e]
theorem OT.elW {K:FG9} (h:OT K H0 Hf d x) (s:aH Hf H):Mo K (λa=>H0 a=none/\Hf a≠none) H d x:=by
 cases d with
 | fl v=>exact h
 | row qs =>
  obtain p|a|b|c:=h;exact #[p,a,#[b,by obtain _|g|_:=c;rw[g];exact λz=>nomatch z],c.same s]
 | grid rs =>
  obtain p|a|b|us|c|d|e:=h;exact #[p,us,a,#[b,by rw[c];exact λz=>nomatch z],s _ _ c,e,Paired.imp' (λ_ _ #[q,a,b,c]=>#[q,a,#[b,by obtain _|g|_:=c;rw[g];exact λz=>nomatch z],c.same s]) d]
structure Vq (mv pt:LR9) (ws:List Rat) (T:Nat) (due:List Rat) (N X:Nat):Prop where
 lw:ws.9=pt.9
 wp:∀w∈ws,0 < w/\iI w
 ad:OV mv pt T
 t40:T<=20
 rk:∀xs∈kry mv pt T,Iv xs/\∀x∈xs,iI x
 rc:∀ys∈cp (kry mv pt T) mv.9,Iv ys/\Iv (tT (tF ws T) ys)
 sw:∃w,DY (c6 (mN (kry mv pt T) (tF ws T) mv.9) due) (mv.9+1) w
 sb:∃w,DY (Ea (mN (kry mv pt T) (tF ws T) mv.9) mv.9 due) (mv.9+1) w
 ok:∀R ps,cC (c6 (mN (kry mv pt T) (tF ws T) mv.9) due) (mv.9+1) R ps->mv.9∉ps->∀y∈ia R ps mv.9,Tp N X y
 n0:0 < N
 nb:N<=2^3900000
 xb:X<=2^3900000
 rd:Iv due
 pz:∀xs∈kry mv pt T,∀x:List Rat,x.9=mv.9->(∀y∈x,Tp N X y)->iI (cm xs x)
def OI (mv pt:LR9) (ws:List Rat) (T:Nat) (due pr:List Rat):Prop:=∃R ps,cC (c6 (mN (kry mv pt T) (tF ws T) mv.9) due) (mv.9+1) R ps/\mv.9∉ps/\pr=ia R ps mv.9
theorem OI.uniq (h:OI mv pt ws T due p) (h':OI mv pt ws T due p'):p=p':=by
 obtain R|ps|r|_|e:=h;obtain R'|ps'|r'|_|e':=h';obtain a|b:=cC.uniq r r' (λ_ hi=>fK.row hi) (λ_ hi=>fK.row hi);subst a;subst b;rw[e,e']
theorem P0 (wp:∀xs∈pt,xs.9=mv.9) (lL:L.9=mv.9) (hu:u<=T) (lw:ws.9=(kry mv pt u).9) (e:O3 (kry mv pt u) ws mv.9=L):Rch mv pt T L:=λpr lpr h2=>by
 obtain Z|eZ:=Bv (mv:=mv) (pt:=pt) (u:=u) (T - u);rw[show u+(T - u)=T by lia] at eZ;rw[c8 (),lpr];have wu:=fj (mv:=mv) rfl wp u
 have e1:(bS mv.9 λc=>pr.getD c 0*L.getD c 0)=bS ws.9 λi=>ws.getD i 0*bS mv.9 λc=>cL (kry mv pt u) i c*pr.getD c 0:=by
  have q:∀c,c < mv.9->pr.getD c 0*L.getD c 0=bS ws.9 λi=>ws.getD i 0*(cL (kry mv pt u) i c*pr.getD c 0):=λc hc=>by
   rw[<- e,zU hc,<- cW];exact aY λi _=>by grind
  rw[aY q,gP];exact aY λi _=>cW
 rw[e1];refine dm λi hi=>?_
 ·rw[lw] at hi;have w1:=wu _ (aK hi);have:=h2 _ (by rw[eZ];exact dG _ (aK hi));rw[c8 (),w1] at this
  have q:(bS mv.9 λc=>cL (kry mv pt u) i c*pr.getD c 0)=0:=by
   refine Eq.trans (aY λc _=>?_) this;unfold cL;rw[ae (l:=kry mv pt u),af hi];rfl
  rw[q,gM]
inductive MM (K:FG9) (vs:List V) (H:Hp) (Q:VK) (E9:XK):Prop
 | mk (p q:Addr) (n w w':Nat) (H0:Hp) (rows:LR9) (row:List Rat):vs=[.ref p,.int n,.ref q]->bL K H0 H p rows->bV K H q row->row.9=n->rows.9<=90->n<=90->(∀xs∈rows,xs.9=n)->DY (c6 (cp rows n) row) (rows.9+1) w->DY (c6 (rows++[row]) (List.replicate rows.9 0++[1])) (n+1) w'->(∀R ps,cC (c6 (cp rows n) row) (rows.9+1) R ps->rows.9∈ps)->(∀t x R' ps' H',cC (c6 (rows++[row]) (List.replicate rows.9 0++[1])) (n+1) R' ps'->n∉ps'->H' t=some (.tup [.str (Str.ofString "out"),.ref x])->H x=none->aH H H'->bV K H' x (ia R' ps' n)->Q (.ref t) H')->MM K vs H Q E9
inductive F7 (K:FG9) (C:Addr) (vs:List V) (H:Hp) (Q:VK) (E9:XK):Prop
 | mk (x s g:Addr) (T a c D W0 E W1:Nat) (H0:Hp) (mv pt lk:LR9) (st go:List Rat):vs=[.ref x,.ref s,.ref g,.int T]->T<=20->kg K H0 H C x mv pt lk->eQ mv pt lk->Iu mv pt lk->qV mv pt a c->OV mv pt T->bV K H s st->st.9=mv.9->bV K H g go->go.9=mv.9->CU mv pt st (List.replicate T (List.replicate pt.9 0))->(∀x∈go,iI x)->Tz mv pt (cQ mv T st go) D W0 E W1->¬Rch mv pt T (cQ mv T st go)->(∀t p pr q H',H' t=some (.tup [.str (Str.ofString "never"),.ref p])->H p=none->aH H H'->bV K H' p pr->pr.9=mv.9->(∀xs∈kry mv pt T,cm xs pr=0)->cm pr (cQ mv T st go)=1->0 < q->q<=(16*W0)^mv.9*(16*(W1+E))->(∀y∈pr,Tp q ((16*W0)^mv.9*(16*(W1+E))) y)->Q (.ref t) H')->F7 K C vs H Q E9
inductive F0 (K:FG9) (C:Addr) (vs:List V) (H:Hp) (Q:VK) (E9:XK):Prop
 | mk (x q s g:Addr) (T N X a c D W0 E W1:Nat) (H0:Hp) (mv pt lk:LR9) (ws st go:List Rat):vs=[.ref x,.ref q,.ref s,.ref g,.int T]->kg K H0 H C x mv pt lk->eQ mv pt lk->Iu mv pt lk->qV mv pt a c->bV K H q ws->bV K H s st->st.9=mv.9->bV K H g go->go.9=mv.9->CU mv pt st (List.replicate T (List.replicate pt.9 0))->(∀x∈go,iI x)->Vq mv pt ws T (cQ mv T st go) N X->Tz mv pt (cQ mv T st go) D W0 E W1->(∀t e p y pr H',H' t=some (.tup [.str (Str.ofString "puts"),.ref e,.ref p,.ref y])->H y=none->(∃Hm,aH H Hm/\Hm y≠none/\Hm p=none/\bL K Hm H' p (mM mv pt ws T pr))->aH H H'->bQ K H' (cm pr (cQ mv T st go)) (.ref e)->bV K H' y pr->Ro (kry mv pt T) (tF ws T) mv.9 (cQ mv T st go) pr->OI mv pt ws T (cQ mv T st go) pr->(∀z∈pr,Tp N X z)->Q (.ref t) H')->(∀t p pr q H',H' t=some (.tup [.str (Str.ofString "never"),.ref p])->H p=none->aH H H'->(∀pr,¬OI mv pt ws T (cQ mv T st go) pr)->bV K H' p pr->pr.9=mv.9->(∀xs∈kry mv pt T,cm xs pr=0)->cm pr (cQ mv T st go)=1->0 < q->q<=(16*W0)^mv.9*(16*(W1+E))->(∀y∈pr,Tp q ((16*W0)^mv.9*(16*(W1+E))) y)->Q (.ref t) H')->F0 K C vs H Q E9
def Wi (mv pt:LR9) (ws st go:List Rat) (lim:Rat) (k:Nat):Prop:=∃pr,OI mv pt ws k (cQ mv k st go) pr/\cm pr (cQ mv k st go)<=lim
theorem NB:((nm x).1*(nm y).2 < (nm y).1*(nm x).2)↔x < y:=by
 show x.num*(y.den:Int) < y.num*(x.den:Int)↔x < y
 exact (Rat.lt_iff x y).symm
theorem Ql (h:0 < x):(nm x).1 > 0:=by
 have q:=NB.mpr h;rw[show (nm (0:Rat)).1=0 from rfl,show (nm (0:Rat)).2=1 from rfl,Int.zero_mul,Int.mul_one] at q;exact q
inductive Ap (K:FG9) (vs:List V) (H:Hp) (Q:VK) (E9:XK):Prop
 | mk (u v:V) (x y:Rat):vs=[u,v]->bQ K H x u->bQ K H y v->iI x->iI y->Q (.bl (decide (x < y))) H->Ap K vs H Q E9
structure OH (mv pt:LR9) (ws st go:List Rat) (T:Nat):Prop where
 cf:CU mv pt st (List.replicate T (List.replicate pt.9 0))
 ls:∃N X,Vq mv pt ws T (cQ mv T st go) N X/\∀x:List Rat,x.9=mv.9->(∀z∈x,Tp N X z)->iI (cm x (cQ mv T st go))/\∀r,Dr 9 r->iI (cm x (cQ mv T st go)+r)
 co:∃D W0 E W1,Tz mv pt (cQ mv T st go) D W0 E W1/\∀(pr:List Rat) (q:Nat),pr.9=mv.9->0 < q->q<=(16*W0)^mv.9*(16*(W1+E))->(∀y∈pr,Tp q ((16*W0)^mv.9*(16*(W1+E))) y)->Vp mv pt T st go pr
inductive xF (K:FG9) (C:Addr) (vs:List V) (H:Hp) (Q:VK) (E9:XK):Prop
 | mk (x q s g lm:Addr) (m a c:Nat) (H0:Hp) (mv pt lk:LR9) (ws st go:List Rat) (lim:Rat):vs=[.ref x,.ref q,.ref s,.ref g,.int m,.ref lm]->m<=12->kg K H0 H C x mv pt lk->eQ mv pt lk->Iu mv pt lk->qV mv pt a c->bV K H q ws->bV K H s st->st.9=mv.9->bV K H g go->go.9=mv.9->(∀x∈go,iI x)->bQ K H lim (.ref lm)->iI lim->(∀k,k<=m->OH mv pt ws st go k)->(∀H',aH H H'->(∀k,k<=m->¬Wi mv pt ws st go lim k)->Q .non H')->(∀(k:Nat) t u e p y pr H',k<=m->(∀j,j < k->¬Wi mv pt ws st go lim j)->H' t=some (.tup [.int k,.ref u])->H' u=some (.tup [.str (Str.ofString "puts"),.ref e,.ref p,.ref y])->H y=none->(∃Hm,aH H Hm/\Hm y≠none/\Hm p=none/\bL K Hm H' p (mM mv pt ws k pr))->aH H H'->bQ K H' (cm pr (cQ mv k st go)) (.ref e)->bV K H' y pr->Ro (kry mv pt k) (tF ws k) mv.9 (cQ mv k st go) pr->OI mv pt ws k (cQ mv k st go) pr->cm pr (cQ mv k st go)<=lim->Q (.ref t) H')->xF K C vs H Q E9
theorem j8 (hc:c<=1000) (h:Dr c x):iI x:=Ky x.den_pos (ag (ag h.2 hc) (ag (show 1000<=2^10 by decide) (au () ()))) (ag (show 1000<=2^10 by decide) (au () ())) (Fr.own x (ag h.1 hc))
inductive Aw (K:FG9) (C:Addr) (vs:List V) (H:Hp) (Q:VK) (E9:XK):Prop
 | mk (b x q s g:Addr) (m a c:Nat) (H0:Hp) (mv pt lk:LR9) (ws st go:List Rat):vs=[.ref b,.ref x,.ref q,.ref s,.ref g,.int m]->m<=12->gV H b->H0 b≠none->q≠b->s≠b->g≠b->kg K H0 H C x mv pt lk->eQ mv pt lk->Iu mv pt lk->qV mv pt a c->bV K H q ws->bV K H s st->st.9=mv.9->bV K H g go->go.9=mv.9->(∀x∈go,iI x)->(∀k,k<=m->OH mv pt ws st go k)->(∀t L H',bQ K H' L (.ref t)->iI L->gV H' b->cP b H H'->Q (.ref t) H')->Aw K C vs H Q E9
inductive C7 (K:FG9) (C:Addr) (vs:List V) (H:Hp) (Q:VK) (E9:XK):Prop
 | mk (r x q s g lm:Addr) (k a c:Nat) (H0 H1:Hp) (mv pt lk:LR9) (ws st go:List Rat) (lim:Rat):vs=[.ref r,.ref x,.ref q,.ref s,.ref g,.int k,.ref lm]->k<=12->eT K H1 H r mv pt lk->kg K H0 H C x mv pt lk->eQ mv pt lk->Iu mv pt lk->qV mv pt a c->bV K H q ws->bV K H s st->st.9=mv.9->bV K H g go->go.9=mv.9->(∀x∈go,iI x)->bQ K H lim (.ref lm)->iI lim->OH mv pt ws st go k->¬Wi mv pt ws st go lim k->(∀H',aH H H'->Q (.bl true) H')->C7 K C vs H Q E9
section
variable {mv pt lk pus:LR9} {ws go g1 g2:List Rat} {M1 M2 V a1 a2 c T0 n0 b B u T E:Nat}
theorem Qp (X:Bd mv pt M1 M2 V a1 a2 c) (D:eQ mv pt lk) (Z:Z65 n0 a1 a2 c T0 b) (zB:(n0+1)*(Cm a1 a2 c T0+Mi a1 a2 T0 b+Ld a1 a2 c T0 b+JO a1 a2 T0+1+4)<=8900000) (hn:mv.9<=n0) (hu:u<=T0+1) (lw:ws.9=pt.9) (hw:∀w∈ws,0 < w/\Dr 1000 w) (E0:0 < E) (hE:E<=2^Mi a1 a2 T0 b):∃q:Nat,0 < q/\q<=2^zQ n0 a1 a2 c T0/\∀go:List Rat,go.9=mv.9->(∀x∈go,Fr E (2^(c*T0+26)) x)->Vq mv pt ws u go (E*q) (2^RC n0 a1 a2 c T0 b):=by
 obtain n8|t14|z1|z2|z3|z4|z5|z6|z7|z8|z9:=Z;have i4:=D.i4;have kl:=kM (mv:=mv) (pt:=pt) u;have kl2:u*pt.9<=15*4:=ay () i4;have wk:=fj (mv:=mv) (pt:=pt) rfl D.pw u;have lwt:(tF ws u).9=(kry mv pt u).9:=by rw[zV,kl,lw]
 have hk:=Ur X D hu
 obtain Bw|b0|b1|hB:=yk (c:=10) (l:=ws.map λw=>1 / w) (λx hx=>by
  obtain w|h|rfl:=aE.mp hx;have:=NT (hw w h).1 (hw w h).2;exact #[ag this.1 (),ag this.2 ()]) ()
 have b1:Bw<=2^42:=ag b1 (p2 (by rw[aj,lw];lia));obtain ⟨D1,eD⟩:∃d,M1^T0*M2=d:=#[_,rfl];rw[eD] at hk;have D10:0 < D1:=by rw[<- eD];exact a7 (dq X.m1) X.m2
 have D1b:D1<=2^Ms a1 a2 T0:=by rw[<- eD];exact fV X.b1 X.b2
 obtain ⟨Vk,eV⟩:∃v,2^(c*(T0+1))=v:=#[_,rfl];rw[eV] at hk;have V1:1<=Vk:=by rw[<- eV];exact dh
 obtain f1|f2:=SS (n:=mv.9) wk lwt () hk (λw h=>hB _ (aE.mpr #[w,IE h,rfl]));obtain ⟨Dl,eL⟩:∃d,D1*(D1*Bw)=d:=#[_,rfl];rw[eL] at f2;have L0:0 < Dl:=by rw[<- eL];exact a7 D10 (a7 D10 b0)
 have Lb:Dl<=2^JO a1 a2 T0:=by
  rw[<- eL,show JO a1 a2 T0=Ms a1 a2 T0+(Ms a1 a2 T0+42) by unfold JO;lia,aB,aB];exact ay D1b (ay D1b b1)
 have tk:∀xs∈mN (kry mv pt u) (tF ws u) mv.9,∀x∈xs,Tp Dl (2^Cm a1 a2 c T0) x:=λxs hx x hx'=>by
  refine Tp.of (f2 xs hx x hx') ?_;rw[<- eV,show Cm a1 a2 c T0=6+(c*(T0+1)+(c*(T0+1)+22))+JO a1 a2 T0 by unfold Cm;lia,aB 2 (6+_),aB 2 6,aB 2 (c*(T0+1)),aB 2 (c*(T0+1))];exact ax _ Lb
 have SW:∀m:Nat,m<=mv.9->m*(Cm a1 a2 c T0+4)<=8900000:=λm hm=>ag (by rw[bY];exact ax _ (ag hm hn)) z1
 obtain ⟨G,eG⟩:∃g,mN (kry mv pt u) (tF ws u) mv.9=g:=#[_,rfl];have lG:G.9=mv.9:=by rw[<- eG];exact qj
 have wG:∀xs∈G,xs.9=mv.9:=by rw[<- eG];exact vV
 have tt:cp (cp G mv.9) mv.9=G:=by
  have:=CZ wG;rwa [lG] at this
 rw[eG] at tk;have lt:(cp G mv.9).9=mv.9:=cx;have tkt:∀xs∈cp G mv.9,∀x∈xs,Tp Dl (2^Cm a1 a2 c T0) x:=Al λxs hx=>#[wG xs hx,tk xs hx]
 obtain q|q0|qb|hq:=Pe (K0:=cp G mv.9) (n:=mv.9) (D:=Dl) (wl:=Cm a1 a2 c T0) (λxs hx=>by rw[gO xs hx,lG]) () L0 tkt #[Cm a1 a2 c T0,Dl,2^Cm a1 a2 c T0,L0,ag Lb (p2 ()),dh,ao _,by rw[tt];exact tk,(),by rw[tt,lG,lt];lia,by rw[tt,lG,lt];exact SW _ ()];rw[tt,lt] at hq;have Qm:(Cm a1 a2 c T0+4)*mv.9<=zQ n0 a1 a2 c T0:=ax _ hn;have qb:q<=2^zQ n0 a1 a2 c T0:=ag qb (p2 Qm);refine #[q,q0,qb,λgo lg hg=>?_];have Nb:E*q<=2^(Mi a1 a2 T0 b+zQ n0 a1 a2 c T0):=by rw[aB];exact ay hE qb
 have N0:0 < E*q:=a7 E0 q0
 have tg:∀x∈go,Tp E (2^Ld a1 a2 c T0 b) x:=λx hx=>Tp.of (hg x hx) (by
  rw[show Ld a1 a2 c T0 b=c*T0+26+Mi a1 a2 T0 b from rfl,aB 2 (c*T0+26)];exact ax _ hE)
 have up:∀{a b:Nat},a<=b->(2:Nat)^a<=2^b:=p2;have rk:∀xs∈kry mv pt u,∀x∈xs,Tp D1 (2^(c*(T0+1)+Ms a1 a2 T0)) x:=λxs hx x hx'=>Tp.of (hk xs hx x hx') (by rw[<- eV,aB];exact ax _ D1b)
 refine #[lw,λw h=>#[(hw w h).1,?_],#[M1,M2,V,a1,a2,c,X,?_],(),λxs hx=>#[AV D10 (ag D1b (up ())) (up ()) (rk xs hx),λx hx'=>xy (rk xs hx x hx') D10 (ag D1b (up ())) (up ())],λys hy=>#[?_,?_],?_,?_,λR ps RR hn'=>?_,N0,ag Nb (up ()),up (),AV E0 (ag hE (up ())) (up ()) tg,λxs hx x lx hx'=>?_]
 ·exact xy (Tp.of (Fr.own w (hw w h).2.1) (ao _)) w.den_pos (ag (hw w h).2.2 (ag (show 1000<=2^10 by decide) (up ()))) (ag (ay (ao _) (hw w h).2.2) (ag (show 1000*1000<=2^20 by decide) (up ())))
 ·have e1:a1*(u+1)<=a1*(T0+2):=ax _ ();have e2:c*(u+2)<=c*(T0+3):=ax _ ()
  lia
 ·exact AV D10 (ag D1b (up ())) (W:=2^(c*(T0+1)+Ms a1 a2 T0)) (up ()) λy hy'=>Tp.of ((f1 ys hy).1 y hy') (by rw[<- eV,aB];exact ax _ D1b)
 ·have e1:D1*Bw<=2^(Ms a1 a2 T0+42):=by rw[aB];exact ay D1b b1
  refine AV (a7 D10 b0) (ag e1 (up ?_)) (W:=2^(c*(T0+1)+22+(Ms a1 a2 T0+42))) (up ?_) λy hy'=>Tp.of ((f1 ys hy).2 y hy') ?_
  ·unfold Cm JO at z2;lia
  ·unfold Cm JO at z2;lia
  ·rw[<- eV,aB 2 (_+22),aB 2 (c*(T0+1))];exact ax _ e1
 ·rw[eG];obtain ⟨w,ew⟩:∃w,Cm a1 a2 c T0+Mi a1 a2 T0 b+Ld a1 a2 c T0 b+JO a1 a2 T0+1=w:=#[_,rfl];have hj:go.9=G.9:=by rw[lg,lG]
  have c1:2^Cm a1 a2 c T0*E<=2^(w - 1):=ag (ax _ hE) (by rw[<- aB];exact up ());have c2:2^Ld a1 a2 c T0 b*Dl<=2^(w - 1):=ag (ax _ Lb) (by rw[<- aB];exact up ());refine #[w,Dl*E,2^w,a7 L0 E0,ag (ay Lb hE) (by rw[<- aB];exact up ()),dh,ao _,λxs hx x hx'=>?_,(),by rw[kF hj,lG];lia,by rw[kF hj,lG];exact ag (ay (show min mv.9 (mv.9+1)<=n0 by lia) ()) z4];unfold c6 at hx;obtain i|hi|rfl:=bE hx;rw[dg] at hx';rcases aA.mp hx' with z | z
  ·exact (tk _ (aK _) x z).up E (ag c1 (up ()))
  ·rw[bA.mp z,bY Dl E];exact (tg _ (aK _)).up Dl (ag c2 (up ()))
 ·rw[eG];obtain ⟨w,ew⟩:∃w,Cm a1 a2 c T0+Mi a1 a2 T0 b+Ld a1 a2 c T0 b+JO a1 a2 T0+1=w:=#[_,rfl];rw[ew] at zB;have c1:2^Cm a1 a2 c T0*E<=2^(w - 1):=ag (ax _ hE) (by rw[<- aB];exact up ());have c2:2^Ld a1 a2 c T0 b*Dl<=2^(w - 1):=ag (ax _ Lb) (by rw[<- aB];exact up ());have DE:Dl*E<=2^w:=ag (ay Lb hE) (by rw[<- aB];exact up ());have hd:(List.replicate mv.9 (0:Rat)++[1]).9=(cp G mv.9++[go]).9:=by rw[aw,aw,aQ,cx];rfl
  have lj:(Ea G mv.9 go).9=mv.9+1:=by
   unfold Ea;rw[kF hd,aw,cx];rfl
  refine #[w,Dl*E,2^w,a7 L0 E0,ag (ay Lb hE) (by rw[<- aB];exact up ()),dh,ao _,λxs hx x hx'=>?_,(),by rw[lj];lia,by rw[lj];exact ag (ay (show min (mv.9+1) (mv.9+1)<=n0+1 by lia) (ao _)) zB];unfold Ea c6 at hx;obtain i|hi|rfl:=bE hx;rw[dg] at hx';rcases aA.mp hx' with z | z
  ·rcases aA.mp (aK (l:=cp G mv.9++[go]) (n:=i) (by rw[bD] at hi;lia)) with y | y
   ·exact (tkt _ y x z).up E (ag c1 (up ()))
   ·rw[bA.mp y] at z;rw[bY Dl E];exact (tg _ z).up Dl (ag c2 (up ()))
  ·rw[bA.mp z];rcases aA.mp (aK (l:=List.replicate mv.9 (0:Rat)++[1]) (n:=i) (by rw[bD] at hi;lia)) with y | y
   ·rw[fP y];exact Tp.zero
   ·rw[bA.mp y];exact #[((Dl*E:Nat):Int),by rw[qQ,aS],by rw[bW];exact DE]
 ·rw[eG] at RR;refine λy hy=>(hq E _ go R ps E0 lg tg RR hn' y hy).mono ?_
  rw[show RC n0 a1 a2 c T0 b=JO a1 a2 T0+(3+(Ld a1 a2 c T0 b+(zQ n0 a1 a2 c T0 - Cm a1 a2 c T0))) by unfold RC;lia,aB,aB 2 3,aB 2 (Ld a1 a2 c T0 b)];exact ay Lb (ay (show mv.9<=2^3 by lia) (ax _ (up ())))
 ·have t:=Tp.sum (k:=mv.9) (M:=D1*(E*q)) (W:=2^(c*(T0+1)+Ms a1 a2 T0)*2^RC n0 a1 a2 c T0 b) (f:=λj=>xs.getD j 0*x.getD j 0) λj _=>(iE (rk xs hx) j).mul (iE hx' j)
  rw[c8 (by rw[wk xs hx,lx]),wk xs hx];refine xy t (a7 D10 N0) (ag (ay D1b Nb) (by rw[<- aB];exact up ())) ?_;rw[<- aB];refine ag (aD _ (show mv.9<=2^3 by lia)) ?_;rw[<- aB];exact up ()
end
theorem O1 {n a1 a2 c T u b g:Nat} (hu:u<=T) (h:ZS n a1 a2 c T b g):ZS n a1 a2 c u (b+a1*(T - u)) (g+c*(T - u)):=by
 obtain ⟨k,rfl⟩:∃k,T=u+k:=#[T - u,()];rw[show u+k - u=k by lia];have e1:a1*(u+k)=a1*u+a1*k:=dC ..;have e2:c*(u+k)=c*u+c*k:=dC ..;have e3:a1*(u+1)<=a1*(u+k+1):=ax _ ();have e4:c*(u+1)<=c*(u+k+1):=ax _ ();have e5:c*(u+2)<=c*(u+k+2):=ax _ ();have z1:ze a1 a2 u (b+a1*k)=ze a1 a2 (u+k) b:=by unfold ze;lia
 have z2:zu a1 a2 c u (b+a1*k) (g+c*k)=zu a1 a2 c (u+k) b g:=by unfold zu;rw[z1];lia
 obtain h1|h2|h3|h4|h5|h6|h7:=h;unfold ZS;rw[z1,z2];exact #[h1,(),h3,h4,(),h6,()]
theorem O2 {n a1 a2 c T u b g:Nat} (hu:u<=T) (h:ZP n a1 a2 c T b g):ZP n a1 a2 c u (b+a1*(T - u)) (g+c*(T - u)):=by
 obtain ⟨k,rfl⟩:∃k,T=u+k:=#[T - u,()];rw[show u+k - u=k by lia];have e1:a1*(u+k)=a1*u+a1*k:=dC ..;have e2:c*(u+k)=c*u+c*k:=dC ..;have e4:c*(u+1)<=c*(u+k+1):=ax _ ();have z1:ze a1 a2 u (b+a1*k)=ze a1 a2 (u+k) b:=by unfold ze;lia
 have z2:zu a1 a2 c u (b+a1*k) (g+c*k)=zu a1 a2 c (u+k) b g:=by unfold zu;rw[z1];lia
 obtain h1|h2:=h;unfold ZP;rw[z2];exact #[h1,()]
section
variable {mv pt lk:LR9} {st go:List Rat} {M1 M2 V a1 a2 c B b g T u w b1 b2:Nat}
def GoB (mv pt:LR9) (M1 M2 c b1 T:Nat) (st go:List Rat):Prop:=∃B,0 < B/\B<=2^b1/\(∀x∈st,Fr B (2^22) x)/\∀x∈go,Fr (M1^T*(M2*B)) (2^(c*T+23)) x
theorem Us.gob (U:Us mv pt w T M1 M2 V a1 a2 c b1 b2) (D:eQ mv pt lk) (ls:st.9=mv.9) (lg:go.9=mv.9) (hs:∀x∈st,Dr (max w 6) x) (hT:T'<=T) (hg:Vs mv pt T' w st go):GoB mv pt M1 M2 c b1 T st go:=by
 have up:2^(c*T+22)+1<=2^(c*T+23):=by
  rw[show c*T+23=1+(c*T+22) by lia,aB 2 1];have:0 < 2^(c*T+22):=dq ()
  lia
 rcases hg with hg | ⟨pus,hp,hg⟩
 ·obtain B|h0|h6|h|h1|_:=U.dr (st++go) λx hx=>(aA.mp hx).elim (hs x) (hg x)
  exact #[B,h0,h1 (by rw[aw,ls,lg];lia),λx hx=>h x (dG _ hx),λx hx=>Fr.up (h x (bH _ hx)) (gX (cM _ _) (cM _ _)) (au () ())]
 ·obtain B|h0|h6|h|h1|_:=U.dr (st++pus.flatten) λx hx=>by
   rcases aA.mp hx with hx | hx
   ·exact hs x hx
   ·obtain xs|m1|m2:=eo.mp hx;exact (hp.2 xs m1).2 x m2
  have hm:T'*pt.9<=T*pt.9:=aD _ hT
  have h1:=h1 (by
   rw[aw,tK λxs hx=>(hp.2 xs hx).1,hp.1,ls]
   lia)
  have f1:∀x∈st,Fr B (2^22) x:=λx hx=>h x (dG _ hx)
  have f2:∀xs∈pus,∀x∈xs,Fr B (2^22) x:=λxs hx x hx'=>h x (bH _ (eo.mpr #[xs,hx,hx']))
  have fe0:=(U.bd.end D ls hp.1 (λxs hx=>(hp.2 xs hx).1) h0 h1 f1 f2 (kI (ao _) hT (ao _) (TF U.z1))).2 T' (ao _);have fe:∀x∈qU mv pt st pus T',Fr (M1^T*(M2*B)) (2^(c*T+22)) x:=λx hx=>Fr.up (fe0 x hx) (oY (Ci _ hT) _) (au () (Nat.add_le_add_right (ax _ hT) _))
  refine #[B,h0,h1,f1,λx hx=>?_];rcases hg with rfl | ⟨a,v,v3,rfl⟩
  ·exact (fe x hx).mono ()
  ·rcases cv hx with hx | rfl
   ·exact (fe x hx).mono ()
   ·have u1:Fr (M1^T*(M2*B)) 1 (O6 v):=(QN v3).dvd (gX h6 (gX (cM _ _) (cM _ _)))
    have u2:Fr (M1^T*(M2*B)) (2^(c*T+22)) ((qU mv pt st pus T').getD a 0):=by
     rw[ae];cases h:(qU mv pt st pus T')[a]? with
     | none=>exact Fr.zero
     | some y=>exact fe y (av h)
    exact (u2.add u1).mono up
end
theorem LW {ws st go:List Rat} (RG:Rg mv pt w) (D:eQ mv pt lk) (hT:Tv mv pt T) (ls:st.9=mv.9) (lg:go.9=mv.9) (ds:∀x∈st,Dr (max w 6) x) (hg:Vs mv pt T w st go) (lw:ws.9=pt.9) (hw:∀w∈ws,0 < w/\Dr 1000 w) :
  (∀x∈go,iI x)/\∀u,u<=T->OH mv pt ws st go u/\∀pr,OI mv pt ws u (cQ mv u st go) pr->K9 mv pt (mM mv pt ws u pr) st:=by
 have n8:=D.n8;have t12:=hT.1;obtain M1|M2|V|a1|a2|c|b1|b2|U|ha1|ha2|hc|hb:=Gk RG D hT;obtain B|B0|Bb|f1|fg:=U.gob D ls lg ds (ao T) hg;have X:=U.bd.upA ha1 ha2 hc;have B6:B<=2^600:=ag Bb (p2 ());have hN:M2*B<=2^(160+525):=by rw[aB];exact ay X.b2 (ag Bb (p2 hb))
 obtain ⟨E,eE⟩:∃E,M1^T*(M2*B)=E:=#[_,rfl];have E0:0 < E:=by rw[<- eE];exact a7 (dq X.m1) (a7 X.m2 B0)
 have Eb:E<=2^1645:=by
  rw[<- eE];exact ag (fV X.b1 hN) (p2 ())
 have cT:c*T<=33*12:=ay hc t12;have sg:∀x∈go,iI x:=(U.bd.ctf D ls B0 Bb (SM f1) fg U.z1).sg;refine #[sg,λu hu=>?_];have b0':0 < M1^(T - u)*B:=a7 (dq X.m1) B0;have b1':M1^(T - u)*B<=2^(b1+a1*(T - u)):=by rw[nF];exact fV U.bd.b1 Bb
 have hs':∀x∈st,Fr (M1^(T - u)*B) (2^(23+c*(T - u))) x:=λx hx=>((f1 x hx).scaleL _).mono (p2 ())
 have e1:M1^u*(M2*(M1^(T - u)*B))=M1^T*(M2*B):=by
  rw[Nat.mul_left_comm M2,<- cu,<- aB,show u+(T - u)=T by lia]
 have e2:c*u+(23+c*(T - u))=c*T+23:=by
  have:c*u+c*(T - u)=c*T:=by rw[<- dC,show u+(T - u)=T by lia]
  lia
 have hg':∀x∈go,Fr (M1^u*(M2*(M1^(T - u)*B))) (2^(c*u+(23+c*(T - u)))) x:=by rw[e1,e2];exact fg
 have Z':=O1 hu U.z1;have P':=O2 hu U.zp;have CT:=U.bd.ctf D ls b0' b1' hs' hg' Z';have hl:=U.bd.lack D ls hs' hg';rw[e1,e2,eE] at hl;have hl':∀x∈cQ mv u st go,Fr E (2^(33*12+26)) x:=λx hx=>(hl x hx).mono (p2 ())
 have ll:=vX (T:=u) ls lg;have hE:E<=2^Mi 80 160 12 600:=ag Eb (p2 ());obtain q|q0|qb|hq:=Qp X D (show Z65 8 80 160 33 12 600 by decide) () n8 (u:=u) () lw hw E0 hE;have LS:=hq _ ll hl'
 have Nb:E*q<=2^(1645+1000*25+376):=by
  rw[show 1645+1000*25+376=1645+(1000*25+376) from rfl,aB 2 1645];exact ay Eb (ag qb (p2 ()))
 have N0:0 < E*q:=a7 E0 q0;refine #[#[CT.cf,#[_,_,LS,λx lx hpx=>?_],#[_,_,_,_,CT.co,λpr q lp q0 q1 tp=>(U.bd.prf D ls b0' b1' hs' hg' Z' P' q0 q1 tp).1]],λpr lt=>?_]
 ·have t:=Oo lx ll n8 hpx (f:=33*12+26+1645) (D:=E) λz hz=>Tp.of (hl' z hz) (by rw[aB 2 (33*12+26)];exact ax _ Eb)
  have bb:E*q*E<=2^(1645+1000*25+376+1645):=by rw[aB];exact ay Nb Eb
  refine #[xy t (a7 N0 E0) (ag bb (p2 ())) (p2 ()),λr dr=>?_];have NE:0 < E*q*E*2520:=a7 (a7 N0 E0) ();have b2:E*q*E*2520<=2^(1645+1000*25+376+1645+12):=by rw[aB];exact ay bb ()
  have t1:=t.up 2520 (x:=2^(1000*60)) (ag (ax _ (show 2520<=2^12 by decide)) (by rw[<- aB];exact p2 ()));have t2:=Tp.of (Jz dr (cM 2520 (E*q*E))) (W:=2^(1000*60)) (ag (ay (show 9<=2^4 by decide) b2) (by rw[<- aB];exact p2 ()));refine xy (t1.add t2) NE (ag b2 (p2 ())) ?_;rw[<- Nat.two_mul,<- Nat.pow_succ'];exact p2 ()
 ·obtain R|ps|RR|hn|epr:=lt;have hpx:∀z∈pr,Tp (E*q) (2^RC 8 80 160 33 12 600) z:=by rw[epr];exact LS.ok R ps RR hn
  have lx:pr.9=mv.9:=by rw[epr];exact ib
  refine S9 (ν:=1000*28+300) (p:=1000*28+300) X ?_ () () (by rw[Ez];lia) B0 B6 f1;have hk:=Ur X D (u:=u) (T0:=12) ();obtain ⟨D1,eD⟩:∃d,M1^12*M2=d:=#[_,rfl];rw[eD] at hk;have D10:0 < D1:=by rw[<- eD];exact a7 (dq X.m1) X.m2
  have D1b:D1<=2^1120:=by rw[<- eD];exact fV X.b1 X.b2
  obtain Bw|b0|b1'|hB:=yk (c:=10) (l:=ws.map λw=>1 / w) (λx hx=>by
   obtain w|h|rfl:=aE.mp hx;have:=NT (hw w h).1 (hw w h).2;exact #[ag this.1 (),ag this.2 ()]) ()
  have b1':Bw<=2^42:=ag b1' (p2 (by rw[aj,lw];have:=D.i4;lia));have wk:=fj (mv:=mv) (pt:=pt) rfl D.pw u;refine #[D1*(E*q)*Bw,a7 (a7 D10 N0) b0,?_,λxs hx z hz=>?_]
  ·refine ag (ay (ay D1b Nb) b1') ?_;rw[<- aB,<- aB];exact p2 ()
  ·unfold mM at hx;obtain R|hR|rfl:=aE.mp hx;have hR:=kQ.mp hR;unfold tT at hz;obtain j|hj|rfl:=bE hz;rw[dg,oZ,show ∀a b:Rat,a / b=a*(1 / b) from λa b=>by rw[gW,gW,qQ]];have hj':j < R.9/\j < ws.9:=by rw[bD,aj] at hj;lia
   have mr:R[j]'hj'.1∈kry mv pt u:=by rw[<- je];exact eo.mpr #[R,hR,aK _]
   have t1:=(RJ (M:=D1) (A:=2^(33*13)*D1) (λy hy=>Tp.of (hk _ mr y hy) (ao _)) hpx).mul (Tp.of (hB _ (aE.mpr #[ws[j]'hj'.2,aK _,rfl])) (ao _));refine (t1.fr (a7 (a7 D10 N0) b0)).mono ?_;rw[wk _ mr];refine ag (ay (ay (show mv.9<=2^3 by lia) (ay (ax _ D1b) (ao _))) (ax _ b1')) ?_;rw[<- aB,<- aB,<- aB,<- aB,<- aB];exact p2 ()
inductive Ip where
 | fl (v:V)
 | nm (q:Rat)
 | row (qs:List Rat)
 | grid (rs:LR9)
 | inn (e:Rat) (rs:LR9) (qs:List Rat)
def Ip.lv:Ip->Nat
 | .fl _=>0
 | .nm _=>1
 | .row _=>2
 | .grid _=>3
 | .inn _ _ _=>4
def Ip.ok:Ip->Prop
 | .fl v=>oK v=true
 | .nm _=>True
 | .row qs=>qs.9<=100
 | .grid rs=>rs.9<=100/\∀qs∈rs,qs.9<=100
 | .inn _ rs qs=>(rs.9<=100/\∀qs∈rs,qs.9<=100)/\qs.9<=100
def Mn (K:FG9) (H0 H:Hp):Ip->V->Prop
 | .fl v,x=>x=v
 | .nm q,x=>bQ K H q x
 | .row qs,x=>∃p,x=.ref p/\H0 p=none/\bV K H p qs
 | .grid rs,x=>∃p,x=.ref p/\H0 p=none/\bL K H0 H p rs
 | .inn e rs qs,x=>∃t a p y,x=.ref t/\H t=some (.tup [.str (Str.ofString "puts"),.ref a,.ref p,.ref y])/\bQ K H e (.ref a)/\(H0 p=none/\bL K H0 H p rs)/\H0 y=none/\bV K H y qs
theorem Mn.same {K:FG9} (h:Mn K H0 H d x) (s:aH H H'):Mn K H0 H' d x:=by
 cases d with
 | fl v=>exact h
 | nm q=>exact bQ.same h s
 | row qs=>obtain p|a|b|c:=h;exact #[p,a,b,c.same s]
 | grid rs=>obtain p|a|b|c:=h;exact #[p,a,b,c.same s]
 | inn e rs qs=>obtain t|a|p|y|e|g|n|⟨b,c⟩|d|r:=h;exact #[t,a,p,y,e,s _ _ g,n.same s,#[b,c.same s],d,r.same s]
def xH (K:FG9) (n:Nat):Sp:=match n with
 | 0=>λ_ _ _ _=>False
 | i+1=>λvs H Q _=>∃x,vs=[x] /\
  ((oK x=true/\∀H',aH H H'->Q x H')
  \/ (1<=i/\∃q,bQ K H q x/\∀r H',aH H H'->bQ K H' q (.ref r)->Q (.ref r) H')
  \/ (2<=i/\∃p qs,x=.ref p/\bV K H p qs/\qs.9<=100/\∀r H',H r=none->aH H H'->bV K H' r qs->Q (.ref r) H')
  \/ (3<=i/\∃p H0 rs,x=.ref p/\bL K H0 H p rs/\rs.9<=100/\(∀qs∈rs,qs.9<=100)/\∀r H',H r=none->aH H H'->bL K H H' r rs->Q (.ref r) H')
  \/ (∃m,m+1<=i/\∃t xs H0 ds,x=.ref t/\jB K H t xs/\Paired (Mn K H0 H) ds xs/\ds.9<=10/\(∀d∈ds,Ip.ok d/\Ip.lv d<=m)/\∀r ys H',aH H H'->H' r=some (.tup ys)->Paired (Mn K H H') ds ys->Q (.ref r) H'))
theorem Sy {α:Type} {R:α->V->Prop} {a b c d:α}:∀{us:List V},Paired R [a,b,c,d] us->∃x y z w,us=[x,y,z,w]/\R a x/\R b y/\R c z/\R d w
 | _,.cons h1 (.cons h2 (.cons h3 (.cons h4 .nil)))=>#[_,_,_,_,rfl,h1,h2,h3,h4]
def Mh (K:FG9) (W:Addr->Prop) (H:Hp):Ip->V->Prop
 | .fl v,x=>x=v
 | .nm q,x=>bQ K H q x
 | .row qs,x=>Mo K W H (.row qs) x
 | .grid rs,x=>Mo K W H (.grid rs) x
 | .inn e rs qs,x=>∃(t a p y:Addr) (W1 W2:Addr->Prop),x=.ref t/\H t=some (.tup [.str (Str.ofString "puts"),.ref a,.ref p,.ref y])/\bQ K H e (.ref a)/\(∀a,W1 a->W a)/\(∀a,W2 a->W a)/\(∀a,W2 a->¬W1 a)/\Mo K W1 H (.grid rs) (.ref p)/\Mo K W2 H (.row qs) (.ref y)
theorem Mh.kp {K:FG9} (h:Mh K W H d x) (k:Kp S H H') (n:∀a,W a->¬S a):Mh K W H' d x:=by
 cases d with
 | fl v=>exact h
 | nm q=>exact k.num h
 | row qs=>exact Mo.kp (d:=.row qs) h k n
 | grid rs=>exact Mo.kp (d:=.grid rs) h k n
 | inn e rs qs =>
  obtain t|a|p|y|W1|W2|e1|g|ne|u1|u2|dj|h1|h2:=h;exact #[t,a,p,y,W1,W2,e1,k _ _ g (.inr λ_ z=>nomatch z),k.num ne,u1,u2,dj,Mo.kp h1 k λa z=>n a (u1 a z),Mo.kp h2 k λa z=>n a (u2 a z)]
def uO (K:FG9) (n:Nat):Sp:=match n with
 | 0=>λ_ _ _ _=>False
 | i+1=>λvs H Q _=>∃x,vs=[x] /\
  ((oK x=true/\∀H',aH H H'->Q .non H')
  \/ (1<=i/\∃n,xm K H x n/\∀H',aH H H'->Q .non H')
  \/ (2<=i/\∃p zs,x=.ref p/\H p=some (.lst zs)/\zs.9<=500/\(∀z∈zs,∃n,xm K H z n)/\∀t H',Kp (λa=>a=p) H H'->H' t=some (.tup [.int 7,.int 1])->H' p=some (.lst (zs++[.ref t]))->Q .non H')
  \/ (3<=i/\∃p us,x=.ref p/\H p=some (.lst us)/\us.9<=100/\V.ref p∉us/\(∀y∈us,∃q zs,y=.ref q/\H q=some (.lst zs)/\zs.9<=100/\∀z∈zs,∃n,xm K H z n)/\∀H',Kp (λa=>a=p\/V.ref a∈us) H H'->Q .non H')
  \/ (∃m,m+1<=i/\∃(t:Addr) (xs:List V) (ews:List (Ip×(Addr->Prop))),x=.ref t/\jB K H t xs/\Paired (λ(e:Ip×(Addr->Prop)) v=>Mh K e.2 H e.1 v) ews xs/\ews.9<=10/\(∀e∈ews,Ip.ok e.1/\Ip.lv e.1<=m)/\(∀(i j:Nat) (e e':Ip×(Addr->Prop)),i < j->ews[i]?=some e->ews[j]?=some e'->∀a,e'.2 a->¬e.2 a)/\∀H',Kp (λa=>∃e∈ews,e.2 a) H H'->Q .non H'))
def Vh:Kind Unit where
 R:=λ_ _ x _=>x=.non
 d:=0
 inj:=λ_ _ _=>rfl
 rc:=λ{X pins σ H s x y v u a b A} I rx ry h1 h2 _=>by
  subst h1 h2;cases rx;cases ry;exact SeqAt.RcAt.none_none
 ne:=λ{X pins σ H s x y v u a b A} I rx ry h1 h2 _=>by
  subst h1 h2;cases rx;cases ry;exact SeqAt.RcNeAt.none_none
 eq:=λ{X pins σ H s x y v u a b A} I rx ry h1 h2 _=>by
  subst h1 h2;cases rx;cases ry;exact SeqAt.EqAt.same _
section
variable {α β γ δ:Type} [DecidableEq α] [DecidableEq β] [DecidableEq γ] [DecidableEq δ] (k1:Kind α) (k2:Kind β) (k3:Kind γ) (k4:Kind δ)
theorem FL (r:cV [x1,x2,x3,x4] us):∃u1 u2 u3 u4,us=[u1,u2,u3,u4]/\RelV x1 u1/\RelV x2 u2/\RelV x3 u3/\RelV x4 u4:=by
 cases r with
 | cons a r =>
  cases r with
  | cons b r =>
   cases r with
   | cons c r =>
    cases r with
    | cons d r =>
     cases r;exact #[_,_,_,_,rfl,a,b,c,d]
def GV (a b:α×β×γ×δ) (j:Nat):Bool:=if j=0 then decide (a.1=b.1) else if j=1 then decide (a.2.1=b.2.1) else if j=2 then decide (a.2.2.1=b.2.2.1) else decide (a.2.2.2=b.2.2.2)
theorem yg {X:Cx} {pins:List (Addr×Obj)} {σ:St} {H:Hp} {s:Shared} {A:Around} (I:Inv X pins σ H s) (h1:A.units+k1.d < cLine) (h2:A.units+k2.d < cLine) (h3:A.units+k3.d < cLine) (h4:A.units+k4.d < cLine) {x1 x2 x3 x4 y1 y2 y3 y4:V} {us ws:List Value} {a b:α×β×γ×δ}
  (rx:cV [x1,x2,x3,x4] us) (ry:cV [y1,y2,y3,y4] ws) (a1:k1.R X.K H x1 a.1) (a2:k2.R X.K H x2 a.2.1) (a3:k3.R X.K H x3 a.2.2.1) (a4:k4.R X.K H x4 a.2.2.2) (b1:k1.R X.K H y1 b.1) (b2:k2.R X.K H y2 b.2.1) (b3:k3.R X.K H y3 b.2.2.1) (b4:k4.R X.K H y4 b.2.2.2) :
  ∀j (h1:j < us.5.7) (h2:j < ws.5.7),SeqAt.EqAt A s us.5[j] ws.5[j] (GV a b j):=λj l1 l2=>by
 obtain u1|u2|u3|u4|rfl|r1|r2|r3|r4:=FL rx;obtain w1|w2|w3|w4|rfl|q1|q2|q3|q4:=FL ry;have hj:j < 4:=by simpa using l1
 rcases (show j=0\/j=1\/j=2\/j=3 by lia) with rfl | rfl | rfl | rfl
 ·exact k1.eq (A:=A) I r1 q1 a1 b1 h1
 ·exact k2.eq (A:=A) I r2 q2 a2 b2 h2
 ·exact k3.eq (A:=A) I r3 q3 a3 b3 h3
 ·exact k4.eq (A:=A) I r4 q4 a4 b4 h4
theorem Fh {a b:α×β×γ×δ}:(List.range 4).all (GV a b)=decide (a=b):=by
 have e:List.range 4=[0,1,2,3]:=rfl;rw[e];simp only[Iq,List.all_nil,Bool.and_true];show (decide (a.1=b.1) && (decide (a.2.1=b.2.1) && (decide (a.2.2.1=b.2.2.1) && decide (a.2.2.2=b.2.2.2))))=_
 rw[<- Ck,<- Ck,<- Ck];exact decide_eq_decide.mpr #[λ#[h1,h2,h3,h4]=>Prod.ext h1 (Prod.ext h2 (Prod.ext h3 (h4))),λh=>by rw[h];exact #[rfl,rfl,rfl,rfl]]
def Q6:Kind (α×β×γ×δ) where
 R:=λK H x a=>∃p u1 u2 u3 u4,x=.ref p/\jB K H p [u1,u2,u3,u4]/\k1.R K H u1 a.1/\k2.R K H u2 a.2.1/\k3.R K H u3 a.2.2.1/\k4.R K H u4 a.2.2.2
 d:=max k1.d (max k2.d (max k3.d (k4.d)))+1
 inj:=λ{X pins σ H s x a b} I h1 h2=>by
  obtain p|u1|u2|u3|u4|rfl|hp|a1|a2|a3|a4:=h1;obtain q|v1|v2|v3|v4|e|hq|b1|b2|b3|b4:=h2;cases e;have e:=I.tuple_inj hp hq;cases e;exact Prod.ext (k1.inj I a1 b1) (Prod.ext (k2.inj I a2 b2) (Prod.ext (k3.inj I a3 b3) (k4.inj I a4 b4)))
 rc:=λ{X pins σ H s x y v u a b A} I rx ry h1 h2 hA=>by
  obtain p|x1|x2|x3|x4|rfl|hp|a1|a2|a3|a4:=h1;obtain q|y1|y2|y3|y4|rfl|hq|b1|b2|b3|b4:=h2;cases rx;cases ry;obtain us|r1|t1|_:=I.tuple hp;obtain ws|r2|t2|_:=I.tuple hq;have l1:=r1.9;have l2:=r2.9;have z:=SeqAt.RcAt.tuples (A:=A) (e:=GV a b) (show s.heap.IsTuple p us.toArray from t1) (show s.heap.IsTuple q ws.toArray from t2) () (yg k1 k2 k3 k4 (A:=A.in1) I (by show A.units+1+k1.d < cLine;lia) (by show A.units+1+k2.d < cLine;lia) (by show A.units+1+k3.d < cLine;lia) (by show A.units+1+k4.d < cLine;lia)   r1 r2 a1 a2 a3 a4 b1 b2 b3 b4);have e1:us.5.7=4:=by rw[aI,<- l1];rfl
  have e2:ws.5.7=4:=by rw[aI,<- l2];rfl
  rw[e1,e2,fN,Fh] at z;simpa using z
 ne:=λ{X pins σ H s x y v u a b A} I rx ry h1 h2 hA=>by
  obtain p|x1|x2|x3|x4|rfl|hp|a1|a2|a3|a4:=h1;obtain q|y1|y2|y3|y4|rfl|hq|b1|b2|b3|b4:=h2;cases rx;cases ry;obtain us|r1|t1|_:=I.tuple hp;obtain ws|r2|t2|_:=I.tuple hq;have l1:=r1.9;have l2:=r2.9;have z:=SeqAt.RcNeAt.tuples (A:=A) (e:=GV a b) (show s.heap.IsTuple p us.toArray from t1) (show s.heap.IsTuple q ws.toArray from t2) () (yg k1 k2 k3 k4 (A:=A.in1) I (by show A.units+1+k1.d < cLine;lia) (by show A.units+1+k2.d < cLine;lia) (by show A.units+1+k3.d < cLine;lia) (by show A.units+1+k4.d < cLine;lia)   r1 r2 a1 a2 a3 a4 b1 b2 b3 b4);have e1:us.5.7=4:=by rw[aI,<- l1];rfl
  have e2:ws.5.7=4:=by rw[aI,<- l2];rfl
  rw[e1,e2,fN,Fh] at z;simpa using z
 eq:=λ{X pins σ H s x y v u a b A} I rx ry h1 h2 hA=>by
  obtain p|x1|x2|x3|x4|rfl|hp|a1|a2|a3|a4:=h1;obtain q|y1|y2|y3|y4|rfl|hq|b1|b2|b3|b4:=h2;cases rx;cases ry;by_cases e:p=q
  ·subst e;have e:=I.tuple_inj hp hq;cases e;have e2:a=b:=Prod.ext (k1.inj I a1 b1) (Prod.ext (k2.inj I a2 b2) (Prod.ext (k3.inj I a3 b3) (k4.inj I a4 b4)));rw[decide_eq_true e2];exact SeqAt.EqAt.same _
  ·obtain us|r1|t1|_:=I.tuple hp;obtain ws|r2|t2|_:=I.tuple hq;have l1:=r1.9;have l2:=r2.9;have z:=SeqAt.RcAt.tuples (A:=A) (e:=GV a b) (show s.heap.IsTuple p us.toArray from t1) (show s.heap.IsTuple q ws.toArray from t2) () (yg k1 k2 k3 k4 (A:=A.in1) I (by show A.units+1+k1.d < cLine;lia) (by show A.units+1+k2.d < cLine;lia) (by show A.units+1+k3.d < cLine;lia) (by show A.units+1+k4.d < cLine;lia)   r1 r2 a1 a2 a3 a4 b1 b2 b3 b4);have e1:us.5.7=4:=by rw[aI,<- l1];rfl
   have e2:ws.5.7=4:=by rw[aI,<- l2];rfl
   rw[e1,e2,fN,Fh] at z;exact .of_refs e (by simpa using z)
end
section
variable {mv pt lk:LR9} {st:List Rat} {w T M1 M2 V a1 a2 c b1 b2:Nat}
theorem Us.enf (U:Us mv pt w T M1 M2 V a1 a2 c b1 b2) (D:eQ mv pt lk) (ls:st.9=mv.9) (hs:∀x∈st,Dr (max w 6) x) (hT:T'<=T) (hp:U4 pt T' w pus):K9 mv pt pus st:=by
 obtain B|h0|h6|h|h1|_:=U.dr (st++pus.flatten) λx hx=>by
  rcases aA.mp hx with hx | hx
  ·exact hs x hx
  ·obtain xs|m1|m2:=eo.mp hx;exact (hp.2 xs m1).2 x m2
 have hm:T'*pt.9<=T*pt.9:=aD _ hT
 have h1:=h1 (by
  rw[aw,tK λxs hx=>(hp.2 xs hx).1,hp.1,ls]
  lia)
 exact (U.bd.end D ls hp.1 (λxs hx=>(hp.2 xs hx).1) h0 h1 (λx hx=>h x (dG _ hx)) (λxs hx x hx'=>h x (bH _ (eo.mpr #[xs,hx,hx']))) (kI (ao _) hT (ao _) (TF U.z1))).1
end
theorem Qn (h:x<=0):¬(nm x).1 > 0:=λz=>by
 refine absurd h (Rat.not_le.mpr (NB.mp ?_));rw[show (nm (0:Rat)).1=0 from rfl,show (nm (0:Rat)).2=1 from rfl,Int.zero_mul,Int.mul_one];exact z
theorem Tv.less (h:Tv mv pt T) (l:T'<=T):Tv mv pt T':=by
 obtain a|b:=h;refine #[(),?_];rcases b with b | ⟨b,c,d⟩
 ·exact .inl ()
 ·exact .inr #[b,λz=>by have:=c z;lia,λz y=>by have:=d z y;lia]
theorem OT.kp {K:FG9} (h:OT K H0 H d x) (k:Kp S H H') (n:∀a,H0 a=none->¬S a):OT K H0 H' d x:=by
 cases d with
 | fl v=>exact h
 | row qs=>obtain p|a|b|c:=h;exact #[p,a,b,k.row (n p b) c]
 | grid rs =>
  obtain p|a|b|us|c|d|e:=h;exact #[p,a,b,us,k _ _ c (.inl (n p b)),Paired.imp' (λ_ _ #[q,a,b,c]=>#[q,a,b,k.row (n q b) c]) d,e]
theorem Mn.kp {K:FG9} (h:Mn K H0 H d x) (k:Kp S H H') (n:∀a,H0 a=none->¬S a):Mn K H0 H' d x:=by
 cases d with
 | fl v=>exact h
 | nm q=>exact k.num h
 | row qs=>exact OT.kp (d:=.row qs) h k n
 | grid rs=>exact OT.kp (d:=.grid rs) h k n
 | inn e rs qs =>
  obtain t|a|p|y|e1|g|ne|h1|h2|h3:=h;obtain _|e2|h4:=OT.kp (H0:=H0) (d:=.grid rs) #[p,rfl,h1] k n;obtain _|e3|h5:=OT.kp (H0:=H0) (d:=.row qs) #[y,rfl,h2,h3] k n;cases e2;cases e3;exact #[t,a,p,y,e1,k _ _ g (.inr λ_ z=>nomatch z),k.num ne,h4,h5]
inductive Ce (K:FG9) (H H':Hp) (mv pt:LR9) (ws st go:List Rat) (lim:Rat) (m:Nat):Option (Nat×List Rat)->V->Prop
 | non:(∀k,k<=m->¬Wi mv pt ws st go lim k)->Ce K H H' mv pt ws st go lim m none .non
 | som {k:Nat} {t u e p y:Addr} {pr:List Rat}:k<=m->(∀j,j < k->¬Wi mv pt ws st go lim j)->H' t=some (.tup [.int k,.ref u])->H' u=some (.tup [.str (Str.ofString "puts"),.ref e,.ref p,.ref y])->H y=none->(∃Hm,aH H Hm/\Hm y≠none/\Hm p=none/\bL K Hm H' p (mM mv pt ws k pr))->bQ K H' (cm pr (cQ mv k st go)) (.ref e)->bV K H' y pr->Ro (kry mv pt k) (tF ws k) mv.9 (cQ mv k st go) pr->OI mv pt ws k (cQ mv k st go) pr->cm pr (cQ mv k st go)<=lim->Ce K H H' mv pt ws st go lim m (some (k,pr)) (.ref t)
section
variable {K:FG9} {C:Addr} {H H1 H2 H3:Hp} {mv pt lk:LR9} {ws st go:List Rat} {lim:Rat} {m:Nat} {o o':Option (Nat×List Rat)} {v v':V} {Q:VK} {E9:XK}
theorem Ce.uniq (h:Ce K H H1 mv pt ws st go lim m o v) (h':Ce K H2 H3 mv pt ws st go lim m o' v'):o=o':=by
 cases h with
 | non n =>
  cases h' with
  | non _=>rfl
  | som k1 _ _ _ _ _ _ _ _ l1 d1=>exact absurd #[_,l1,d1] (n _ k1)
 | @som k _ _ _ _ _ pr k1 n1 _ _ _ _ _ _ _ l1 d1 =>
  cases h' with
  | non n=>exact absurd #[_,l1,d1] (n _ k1)
  | @som k' _ _ _ _ _ pr' k2 n2 _ _ _ _ _ _ _ l2 d2 =>
   rcases nE k k' with z | z | z
   ·exact absurd #[_,l1,d1] (n2 _ z)
   ·subst z;rw[l1.uniq l2]
   ·exact absurd #[_,l2,d2] (n1 _ z)
theorem Ce.same (h:Ce K H H1 mv pt ws st go lim m o v) (s:aH H1 H2):Ce K H H2 mv pt ws st go lim m o v:=by
 cases h with
 | non n=>exact .non n
 | som hk n gt gu ny hm ne ry sl lt le =>
  obtain Hm|sm|my|np|Gp:=hm;exact .som hk n (s _ _ gt) (s _ _ gu) ny #[Hm,sm,my,np,Gp.same s] (ne.same s) (ry.same s) sl lt le
theorem JP {x q s g lm:Addr} (m12:m<=12) (S:kg K H0 H C x mv pt lk) (D:eQ mv pt lk) (F:Iu mv pt lk) (KF:qV mv pt a c) (Rw:bV K H q ws) (Rs:bV K H s st) (ls:st.9=mv.9) (Rg:bV K H g go) (lg:go.9=mv.9) (sg:∀x∈go,iI x) (NL:bQ K H lim (.ref lm)) (sL:iI lim) (Z:∀k,k<=m->OH mv pt ws st go k) (k:∀o v H',aH H H'->Ce K H H' mv pt ws st go lim m o v->Q v H'):xF K C [.ref x,.ref q,.ref s,.ref g,.int m,.ref lm] H Q E9 :=
 #[x,q,s,g,lm,m,a,c,H0,mv,pt,lk,ws,st,go,lim,rfl,m12,S,D,F,KF,Rw,Rs,ls,Rg,lg,sg,NL,sL,Z,λH' s' n=>k _ _ H' s' (.non n),λ_ _ _ _ _ _ _ H' hk n gt gu ny hm s' ne ry sl lt le=>k _ _ H' s' (.som hk n gt gu ny hm ne ry sl lt le)]
def JI (K:FG9) (mv pt:LR9) (ws st go:List Rat) (H H':Hp):Option (Nat×List Rat)->V->Prop
 | none,r=>r=.non
 | some (k,pr),r=>∃t w,r=.ref t/\H' t=some (.tup [.int k,w])/\Mn K H H' (.inn (cm pr (cQ mv k st go)) (mM mv pt ws k pr) pr) w
theorem JI.kp (h:JI K mv pt ws st go H H1 o r) (k:Kp S H1 H2) (n:∀a,H a=none->¬S a):JI K mv pt ws st go H H2 o r:=by
 match o with
 | none=>exact h
 | some (kk,pr) =>
  obtain t|w|e|g|er:=h;exact #[t,w,e,k _ _ g (.inr λ_ z=>nomatch z),er.kp k n]
theorem JI.same (h:JI K mv pt ws st go H H1 o r) (s:aH H1 H2):JI K mv pt ws st go H H2 o r:=h.kp (S:=λ_=>False) (.of s) λ_ _ z=>z
theorem Uq (D:eQ mv pt lk) (hk:k<=12) (lw:ws.9=pt.9) (sl:Ro (kry mv pt k) (tF ws k) mv.9 (cQ mv k st go) pr):Ip.ok (.inn (cm pr (cQ mv k st go)) (mM mv pt ws k pr) pr):=by
 have:=D.n8;have:=D.i4;refine #[#[by rw[Ez];lia,λqs hq=>?_],by rw[sl.1];lia];rw[Q3 lw qs hq]
 lia
theorem Qq (h:Ce K H H1 mv pt ws st go lim m o v) (D:eQ mv pt lk) (m12:m<=12) (lw:ws.9=pt.9) (k:∀r H',aH H1 H'->JI K mv pt ws st go H1 H' o r->Q r H'):xH K 6 [v] H1 Q E9:=by
 cases h with
 | non n=>exact #[_,rfl,.inl #[rfl,λH' s=>k _ _ s rfl]]
 | @som kk t u e p y pr hk n gt gu ny hm ne ry sl lt le =>
  obtain Hm|sm|my|np|Gp:=hm;refine #[_,rfl,.inr (.inr (.inr (.inr #[4,(),t,_,H,[.fl (.int kk),.inn (cm pr (cQ mv kk st go)) (mM mv pt ws kk pr) pr],rfl,jB.of gt,.cons rfl (.cons #[u,e,p,y,rfl,gu,ne,#[sm.none np,Gp.weak sm],ny,ry] .nil),(show 2<=10 by decide),λd hd=>?_,λr ys H' s' g' pr'=>?_])))]
  ·simp only[aG,aP,or_false] at hd;rcases hd with rfl | rfl
   ·exact #[rfl,bg _]
   ·exact #[Uq D () lw sl,ao _]
  ·cases pr' with
   | cons h1 t'=>cases t' with
    | cons h2 t'' =>
     cases t'';obtain rfl:=h1;exact k _ _ s' #[r,_,rfl,g',h2]
theorem ML (h:Ce K H H1 mv pt ws st go lim m o v) (D:eQ mv pt lk) (m12:m<=12) (lw:ws.9=pt.9) (s:aH H1 H2) (k:∀H',Kp (λa=>H a=none/\H1 a≠none) H2 H'->Q .non H'):uO K 6 [v] H2 Q E9:=by
 cases h with
 | non n=>exact #[_,rfl,.inl #[rfl,λH' s=>k _ (.of s)]]
 | @som kk t u e p y pr hk n gt gu ny hm ne ry sl lt le =>
  obtain Hm|sm|my|np|Gp:=hm;have E1:=OT.elW (d:=.grid (mM mv pt ws kk pr)) #[p,rfl,np,Gp] s;have y1:H1 y≠none:=by obtain _|g|_:=ry;rw[g];exact λz=>nomatch z
  refine #[_,rfl,.inr (.inr (.inr (.inr #[4,(),t,_,[(.fl (.int kk),λ_=>False),(.inn (cm pr (cQ mv kk st go)) (mM mv pt ws kk pr) pr,λa=>H a=none/\H1 a≠none)],rfl,jB.of (s _ _ gt),.cons rfl (.cons #[u,e,p,y,(λa=>Hm a=none/\H1 a≠none),(λa=>a=y),rfl,s _ _ gu,ne.same s,λa z=>#[sm.none z.1,z.2],λa z=>by subst z;exact #[ny,y1],λa z h=>by subst z;exact my h.1,E1,#[y,rfl,rfl,ry.same s]] .nil),(show 2<=10 by decide),λd hd=>?_,λi j f f' hij hf hf' a h1 h2=>?_,λH' k'=>k _ (k'.mono λa z=>?_)])))]
  ·simp only[aG,aP,or_false] at hd;rcases hd with rfl | rfl
   ·exact #[rfl,bg _]
   ·exact #[Uq D () lw sl,ao _]
  ·match i,j,hij,hf,hf' with
   | 0,_,_,hf,_=>cases hf;exact h2
   | 1,j+2,_,_,hf'=>cases hf'
   | i+2,_,_,hf,_=>cases hf
  ·obtain f|mf|wf:=z;simp only[aG,aP,or_false] at mf;rcases mf with rfl | rfl
   ·exact wf.elim
   ·exact wf
end
end L2
open L2
local macro_rules | `(tactic| walk_at "hl") => `(tactic| first | (show _ ≤ sizeLine; with_unfolding_all decide) | (with_unfolding_all exact (by decide)))
local macro_rules | `(tactic| walk_at "sq") => `(tactic| first | with_reducible assumption | with_reducible exact jB.of (by assumption) | with_reducible exact bR.of (by assumption) | with_reducible exact jB.of aL | with_reducible exact bR.of aL | assumption)
local macro_rules | `(tactic| walk_at "sc") => `(tactic| first | (with_reducible show (0 : Int) < _; decide) | with_reducible exact Qx (by decide) (by decide) | with_reducible exact KU (by decide) (by decide) | with_reducible exact cpow_of (by decide) (by decide) (by decide))
local macro_rules | `(tactic| walk_at "rd") => `(tactic| first
  | with_reducible refine Sa ?_
  | with_reducible refine PB ?_
  | with_reducible refine Ss ?_
  | with_reducible refine Nh ?_
  | ((with_reducible refine' RZ ?hx1 ?_); (case hx1 => with_unfolding_all rfl))
  | with_reducible refine U8 ?_
  | with_reducible refine Ue ?_
  | with_reducible refine Ui ?_
  | with_reducible refine Ua ?_
  | with_reducible refine U9 ?_
  | with_reducible refine Sr ?_
  | with_reducible refine Sh ?_
  | with_reducible refine Sq ?_
  | with_reducible refine Sg ?_
  | with_reducible refine rd_eqB ?_
  | with_reducible refine rd_neB ?_
  | with_reducible refine PH ?_
  | with_reducible refine IU ?_
  | with_reducible refine So ?_
  | with_reducible refine Px ?_
  | with_reducible refine PC ?_
  | with_reducible refine PD ?_
  | with_reducible refine Ng ?_
  | with_reducible refine Pw ?_
  | with_reducible refine Ub ?_
  | with_reducible refine Sb ?_
  | with_reducible refine rd_retN ?_
  | with_reducible refine Sk ?_
  | with_reducible refine Su ?_
  | with_reducible refine Ud ?_
  | with_reducible refine Se ?_
  | with_reducible refine PZ ?_
  | with_reducible refine rd_orV ?_
  | with_reducible refine Pz ?_
  | with_reducible refine Sl ?_
  | with_reducible refine RY ?_
  | with_reducible refine NS ?_
  | with_reducible refine Uy ?_
  | with_reducible refine Uz ?_
  | with_reducible refine UA ?_
  | with_reducible refine QZ ?_
  | with_reducible refine Sf ?_
  | with_reducible refine PU ?_
  | with_reducible refine R8 ?_
  | with_reducible refine Si ?_
  | with_reducible refine PX ?_
  | with_reducible refine Ug ?_
  | with_reducible refine PR ?_
  | with_reducible refine Sd ?_
  | with_reducible refine PY ?_
  | ((with_reducible refine' rd_aug ?hx1 ?_); (case hx1 => with_unfolding_all rfl))
  | with_reducible refine Sj ?_
  | with_reducible refine PL ?_
  | with_reducible refine Ni ?_
  | with_reducible refine PM ?_
  | with_reducible refine Uc ?_
  | with_reducible refine Ls ?_
  | with_reducible refine Py ?_
  | with_reducible refine Sm ?_
  | with_reducible refine Nd ?_
  | with_reducible refine PJ ?_
  | with_reducible refine Nc ?_
  | with_reducible refine Na ?_
  | ((with_reducible refine' PV ?hx1 ?_); (case hx1 => with_unfolding_all rfl))
  | with_reducible refine Pu ?_
  | with_reducible refine Uh ?_
  | with_reducible refine rd_bm0 ?_
  | with_reducible refine rd_brk ?_
  | ((with_reducible refine' PK ?hx1 ?hx2 ?_); (case hx1 => walk_at "sq"); (case hx2 => with_unfolding_all rfl))
  | with_reducible refine rd_cont ?_
  | ((with_reducible refine' fU ?hx1 ?_); (case hx1 => walk_at "sc"))
  | ((with_reducible refine' IV ?hx1 ?hx2 ?_); (case hx1 => walk_at "sq"); (case hx2 => with_unfolding_all rfl))
  | ((with_reducible refine' cH ?hx1 ?hx2 ?_); (case hx1 => walk_at "sq"); (case hx2 => with_unfolding_all rfl))
  | ((with_reducible refine' PN ?hx1 ?hx2 ?_); (case hx1 => walk_at "sq"); (case hx2 => with_unfolding_all rfl))
  | ((with_reducible refine' fI ?hx1 ?hx2 ?hx3 ?_); (case hx1 => with_reducible first | assumption | exact aL); (case hx2 => with_unfolding_all rfl); (case hx3 => with_unfolding_all rfl))
  | with_reducible refine ⟨_, rfl, ?_⟩
  | with_reducible refine ⟨_, _, rfl, ?_⟩)
local macro_rules | `(tactic| walk_at "w") => `(tactic| repeat walk_at "rd")
local macro_rules | `(tactic| walk_at "d") => `(tactic| exact ⟨rfl,rfl,rfl,by decide +kernel,rfl,by decide +kernel,by decide +kernel⟩)
namespace Lw
open PySem PySem.Spec PyProof.Rows L2 Nm
local macro_rules | `(tactic| exists $e) => `(tactic| (walk_at "w";refine $e))
set_option maxHeartbeats 4000000
def top (i:Nat):Stmt:=PySem.Challenge.pw_helmsum_k66_within.main.body.getD i (.Pass #[0,0,0,0])
abbrev uX:Stmt:=top 64
abbrev rK:Stmt:=top 65
abbrev lJ:Stmt:=top 80
abbrev rT:Stmt:=top 82
abbrev uU:Stmt:=top 66
abbrev uR:Stmt:=top 67
abbrev rN:Stmt:=top 73
abbrev rM:Stmt:=top 69
abbrev xU:Stmt:=top 75
abbrev pG:Stmt:=top 77
abbrev kj:Stmt:=top 83
abbrev nU:Stmt:=top 70
abbrev uS:Stmt:=top 71
abbrev rR:Stmt:=top 76
abbrev pF:Stmt:=top 78
abbrev nQ:Stmt:=top 84
abbrev rC:Stmt:=top 60
abbrev uQ:Stmt:=top 10
abbrev ki:Stmt:=top 11
abbrev rH:Stmt:=top 13
abbrev AS:Stmt:=top 19
abbrev nP:Stmt:=top 61
abbrev eN:Stmt:=inClass (top 62) 0
abbrev nW:Stmt:=top 79
abbrev rS:Stmt:=top 85
abbrev mj:Stmt:=top 98
abbrev pC:Stmt:=top 86
abbrev uW:Stmt:=top 72
abbrev xT:Stmt:=top 81
abbrev rQ:Stmt:=top 88
abbrev uV:Stmt:=top 89
abbrev rL:Stmt:=top 87
abbrev rX:Stmt:=top 97
abbrev jO:Stmt:=top 12
abbrev lB:Stmt:=top 21
abbrev rD:Stmt:=top 22
abbrev AQ:Stmt:=top 14
abbrev xN:Stmt:=top 23
abbrev xR:Stmt:=top 26
abbrev ph:Stmt:=top 44
abbrev rJ:Stmt:=top 45
abbrev Ex:Stmt:=top 15
abbrev rE:Stmt:=top 20
abbrev nO:Stmt:=top 27
abbrev gQ:Stmt:=inClass (top 62) 1
abbrev AU:Stmt:=top 32
abbrev pe:Stmt:=top 24
abbrev nN:Stmt:=top 47
abbrev xQ:Stmt:=top 48
abbrev pA:Stmt:=top 34
abbrev xS:Stmt:=top 36
abbrev pB:Stmt:=top 35
abbrev Eu:Stmt:=top 37
abbrev AN:Stmt:=top 40
abbrev Ew:Stmt:=top 41
abbrev IQ:Stmt:=top 29
abbrev pk:Stmt:=top 28
abbrev AO:Stmt:=top 16
abbrev rF:Stmt:=top 51
abbrev AR:Stmt:=top 53
abbrev xO:Stmt:=top 38
abbrev nM:Stmt:=top 46
abbrev nK:Stmt:=top 42
abbrev MW:Stmt:=top 30
abbrev IS:Stmt:=top 49
abbrev xP:Stmt:=top 52
abbrev Ey:Stmt:=top 54
abbrev pJ:Stmt:=top 102
abbrev Et:Stmt:=top 17
abbrev AM:Stmt:=top 55
abbrev rW:Stmt:=top 99
abbrev pE:Stmt:=top 100
abbrev ko:Stmt:=top 90
abbrev nV:Stmt:=top 91
abbrev mo:Stmt:=top 92
abbrev pK:Stmt:=top 96
abbrev rV:Stmt:=top 68
abbrev pM:Stmt:=top 93
abbrev pH:Stmt:=top 74
abbrev pL:Stmt:=top 94
abbrev nR:Stmt:=top 95
abbrev rO:Stmt:=top 101
abbrev MV:Stmt:=top 103
set_option genInjectivity false in
set_option genSizeOf false in
structure Ads where
 BX:Addr
 BL:FuncData
 zi:Addr
 yP:FuncData
 xc:Addr
 wF:FuncData
 zC:Addr
 yX:FuncData
 BU:Addr
 BI:FuncData
 BR:Addr
 BG:FuncData
 zo:Addr
 yS:FuncData
 zm:Addr
 yR:FuncData
 DW:Addr
 DD:FuncData
 xg:Addr
 wI:FuncData
 oS:Addr
 oN:FuncData
 uE:Addr
 uq:FuncData
 BS:Addr
 BH:FuncData
 zy:Addr
 yV:FuncData
 xf:Addr
 wH:FuncData
 uC:Addr
 uk:FuncData
 y8:Addr
 yJ:FuncData
 BQ:Addr
 BF:FuncData
 oR:Addr
 oM:FuncData
 zg:Addr
 yN:FuncData
 HX:Addr
 Hs:FuncData
 uB:Addr
 uj:FuncData
 kb:Addr
 ka:FuncData
 uG:Addr
 uu:FuncData
 zA:Addr
 yW:FuncData
 sZ:Addr
 sT:FuncData
 xa:Addr
 wD:FuncData
 BW:Addr
 BK:FuncData
 DV:Addr
 DC:FuncData
 zx:Addr
 yU:FuncData
 BV:Addr
 BJ:FuncData
 zj:Addr
 yQ:FuncData
 zE:Addr
 yZ:FuncData
 mY:Addr
 mV:FuncData
 qP:Addr
 qO:FuncData
 za:Addr
 yK:FuncData
 HV:Addr
 Ho:FuncData
 yr:Addr
 yl:FuncData
 yt:Addr
 ym:FuncData
 wX:Addr
 wg:FuncData
 zh:Addr
 yO:FuncData
 K5:Addr
 KR:FuncData
 zb:Addr
 yL:FuncData
 uA:Addr
 ui:FuncData
 mK:Addr
 mJ:FuncData
 HY:Addr
 Ht:FuncData
 wW:Addr
 we:FuncData
 uy:Addr
 uh:FuncData
 DT:Addr
 DA:FuncData
 wZ:Addr
 wA:FuncData
 DU:Addr
 DB:FuncData
 w5:Addr
 wC:FuncData
 K3:Addr
 KP:FuncData
 HS:Addr
 G7:FuncData
 K4:Addr
 KQ:FuncData
 OF:Addr
 Ou:FuncData
 wY:Addr
 wo:FuncData
 HU:Addr
 G9:FuncData
 zf:Addr
 yM:FuncData
 HW:Addr
 Hq:FuncData
 DR:Addr
 Dy:FuncData
 uw:Addr
 ug:FuncData
 uv:Addr
 uf:FuncData
 Rn:Addr
 Rl:FuncData
 OG:Addr
 Ov:FuncData
 DS:Addr
 Dz:FuncData
 K6:Addr
 KS:FuncData
 xi:Addr
 wK:FuncData
 K2:Addr
 KO:FuncData
 HR:Addr
 GY:FuncData
 td:Addr
 sU:FuncData
 qE:Addr
 qv:FuncData
 oT:Addr
 oO:FuncData
 uF:Addr
 ur:FuncData
 tm:Addr
 sV:FuncData
 xj:Addr
 wL:FuncData
 zD:Addr
 yY:FuncData
 xl:Addr
 wN:FuncData
 xh:Addr
 wJ:FuncData
 xk:Addr
 wM:FuncData
 uD:Addr
 uo:FuncData
 zv:Addr
 yT:FuncData
 Rm:Addr
 Rk:FuncData
 a_NOUGHT:Addr
 a_ONE:Addr
 t_MOST_STATES:Tok
 t_MOST_PUTS:Tok
 t_MOST_LOOKS:Tok
 a_System:Addr
structure Txt (K:W.Frag) (mg:Str->Option Value) (Z:Ads):Prop where
 sH:Df K mg "_law_bag" uX ["_law_script"] Z.BX Z.BL
 aR:Df K mg "_law_take" rK ["_law_bag_here","_law_many"] Z.zi Z.yP
 oj:Df K mg "_law_sizes" lJ ["_law_bag_here"] Z.xc Z.wF
 j3:Df K mg "_law_line" rT ["_law_bag_here","_law_n"] Z.zC Z.yX
 fX:Df K mg "_law_low" uU ["_law_top","_law_bottom"] Z.BU Z.BI
 gZ:Df K mg "_law_sum" uR ["_law_one","_law_other"] Z.BR Z.BG
 lO:Df K mg "_law_plus" rN ["_law_one","_law_other"] Z.zo Z.yS
 jb:Df K mg "_law_prod" rM ["_law_one","_law_other"] Z.zm Z.yR
 qh:Df K mg "_law_by" xU ["_law_by_here","_law_row_here"] Z.DW Z.DD
 kL:Df K mg "_law_mixed" pG ["_law_bag_here","_law_move_here","_law_put","_law_look"] Z.xg Z.wI
 jY:Df K mg "_law_two_lines" kj ["_law_bag_here"] Z.oS Z.oN
 jZ:Df K mg "_law_number" nU ["_law_bag_here","_law_wide"] Z.uE Z.uq
 hJ:Df K mg "_law_row" uS ["_law_bag_here","_law_many","_law_wide"] Z.BS Z.BH
 p9:Df K mg "_law_move" rR ["_law_bag_here","_law_n","_law_way","_law_first","_law_wide"] Z.zy Z.yV
 oo:Df K mg "_law_parts" pF ["_law_bag_here","_law_n","_law_ins","_law_outs","_law_wide"] Z.xf Z.wH
 mF:Df K mg "_law_system" nQ ["_law_bag_here"] Z.uC Z.uk
 jW:Df K mg "want_list" rC ["thing","at","most"] Z.y8 Z.yJ
 mS:Df K mg "is_whole" uQ ["thing"] Z.BQ Z.BF
 fW:Df K mg "common_divisor" ki ["one","other"] Z.oR Z.oM
 pX:Df K mg "is_number" rH ["thing"] Z.zg Z.yN
 yc:Df K mg "is_row" AS ["thing","many"] Z.HX Z.Hs
 iU:Df K mg "copied_rows" nP ["things","wide"] Z.uB Z.uj
 mX:Binds K Z.ka ["self","move","put","look"] []
 ni:OS K "__init__" "System.__init__" eN Z.kb Z.ka
 iV:Df K mg "_law_copied" nW ["_law_grid"] Z.uG Z.uu
 qe:Df K mg "_law_made" rS ["_law_parts_here"] Z.zA Z.yW
 lC:Df K mg "_law_weights" mj ["_law_bag_here","_law_many","_law_begin"] Z.sZ Z.sT
 oi:Df K mg "_law_steps" pC ["_law_bag_here","_law_parts_here"] Z.xa Z.wD
 kX:Df K mg "_law_dot" uW ["_law_one","_law_other"] Z.BW Z.BK
 mH:Df K mg "_law_on" xT ["_law_grid","_law_row_here"] Z.DV Z.DC
 p7:Df K mg "_law_next" rQ ["_law_parts_here","_law_state","_law_puts_here"] Z.zx Z.yU
 mT:Df K mg "_law_end" uV ["_law_parts_here","_law_start","_law_rows"] Z.BV Z.BJ
 pY:Df K mg "_law_puts" rL ["_law_bag_here","_law_parts_here","_law_steps_here","_law_wide"] Z.zj Z.yQ
 qg:Df K mg "_law_goal" rX ["_law_bag_here","_law_parts_here","_law_start","_law_steps_here","_law_wide"] Z.zE Z.yZ
 jz:Df K mg "common_multiple" jO ["wholes"] Z.mY Z.mV
 d7:Df K mg "common_bottom" lB ["row"] Z.qP Z.qO
 ig:Df K mg "tops_over" rD ["row","bottom"] Z.za Z.yK
 jF:Df K mg "lowest" AQ ["top","bottom"] Z.HV Z.Ho
 jy:Df K mg "row_dot" xN ["one","other"] Z.yr Z.yl
 kD:Df K mg "grid_on" xR ["grid","row"] Z.yt Z.ym
 kK:Df K mg "moved_rows" ph ["system","rows"] Z.wX Z.wg
 lN:Df K mg "additions" rJ ["system","steps"] Z.zh Z.yO
 Bm:Df K mg "minus" Ex ["one","other"] Z.K5 Z.KR
 pV:Df K mg "row_minus" rE ["one","other"] Z.zb Z.yL
 fH:Df K mg "grid_turned" nO ["grid","wide"] Z.uA Z.ui
 qN:Th K Z.a_System "moved" Z.mK
 sY:Binds K Z.mJ ["self","state","puts"] []
 tE:OS K "moved" "System.moved" gQ Z.mK Z.mJ
 yd:Df K mg "course" AU ["system","start","puts"] Z.HY Z.Ht
 jq:Df K mg "nought_row" pe ["many"] Z.wW Z.we
 jX:Df K mg "nothing_for" nN ["system","steps"] Z.uy Z.uh
 pW:Df K mg "lacking" xQ ["system","start","goal","steps"] Z.DT Z.DA
 og:Df K mg "first_with" pA ["lines","begin","place"] Z.wZ Z.wA
 vm:Df K mg "cleared" xS ["lines","at","place","before"] Z.DU Z.DB
 oh:Df K mg "brought_up" pB ["lines","at","to"] Z.w5 Z.wC
 vS:Df K mg "swept" Eu ["rows","wide"] Z.K3 Z.KP
 tJ:Df K mg "solved" AN ["rows","wide","due"] Z.HS Z.G7
 vT:Df K mg "solve" Ew ["rows","wide","due"] Z.K4 Z.KQ
 vU:Df K mg "flat" IQ ["lists"] Z.OF Z.Ou
 oa:Df K mg "grid_times" pk ["one","other","wide"] Z.wY Z.wo
 ya:Df K mg "parted" AO ["one","other"] Z.HU Z.G9
 lM:Df K mg "parted_by" rF ["weights","row"] Z.zf Z.yM
 yb:Df K mg "led_to" AR ["weights","lists","wide"] Z.HW Z.Hq
 vg:Df K mg "reduced" xO ["rows","wide"] Z.DR Z.Dy
 mE:Df K mg "reach_grown" nM ["system","steps"] Z.uw Z.ug
 mD:Df K mg "weights_for" nK ["rows","wide","row"] Z.uv Z.uf
 Jk:Df K mg "cut" MW ["row","many","wide"] Z.Rn Z.Rl
 ET:Df K mg "come" IS ["system","start","goal","steps"] Z.OG Z.Ov
 vh:Df K mg "puts_at" xP ["price","weights","lists"] Z.DS Z.Dz
 oJ:Df K mg "least" Ey ["system","weights","start","goal","steps"] Z.K6 Z.KS
 ot:Df K mg "_law_limit" pJ ["_law_bag_here","_law_system_here","_law_weights_here","_law_start","_law_goal_here","_law_most"] Z.xi Z.wK
 Bl:Df K mg "under" Et ["one","other"] Z.K2 Z.KO
 tI:Df K mg "within" AM ["system","weights","start","goal","most","limit"] Z.HR Z.GY
 eH:Df K mg "_law_kept" rW ["_law_thing"] Z.td Z.sU
 gE:Df K mg "_law_spoil" pE ["_law_thing"] Z.qE Z.qv
 j6:Df K mg "_law_is_number" ko ["_law_thing"] Z.oT Z.oO
 j5:Df K mg "_law_is_row" nV ["_law_thing","_law_many"] Z.uF Z.ur
 lD:Df K mg "_law_is_grid" mo ["_law_thing","_law_many","_law_wide"] Z.tm Z.sV
 ou:Df K mg "_law_leads" pK ["_law_parts_here","_law_start","_law_goal_here","_law_steps_here","_law_puts_here"] Z.xj Z.wL
 j4:Df K mg "_law_less" rV ["_law_one","_law_other"] Z.zD Z.yY
 ox:Df K mg "_law_added" pM ["_law_parts_here","_law_steps_here"] Z.xl Z.wN
 oq:Df K mg "_law_minus" pH ["_law_one","_law_other"] Z.xh Z.wJ
 ow:Df K mg "_law_alone" pL ["_law_parts_here","_law_start","_law_steps_here"] Z.xk Z.wM
 mG:Df K mg "_law_priced" nR ["_law_parts_here","_law_start","_law_goal_here","_law_steps_here","_law_price"] Z.uD Z.uo
 pZ:Df K mg "_law_over" rO ["_law_parts_here","_law_system_here","_law_weights_here","_law_start","_law_goal_here","_law_steps_here","_law_limit_here"] Z.zv Z.yT
 RA:OS K "law" "law" MV Z.Rm Z.Rk
 abs:mg "abs"=none
 len:mg "len"=none
 min:mg "min"=none
 int:mg "int"=none
 range:mg "range"=none
 isinstance:mg "isinstance"=none
 list:mg "list"=none
 bool:mg "bool"=none
 tuple:mg "tuple"=none
 all:mg "all"=none
 enumerate:mg "enumerate"=none
 max:mg "max"=none
 zip:mg "zip"=none
 sum:mg "sum"=none
 reversed:mg "reversed"=none
 mg_NOUGHT:mg "NOUGHT"=some (.ref Z.a_NOUGHT)
 sq_NOUGHT:∀H,jB K H Z.a_NOUGHT [.int 0,.int 1]
 mg_ONE:mg "ONE"=some (.ref Z.a_ONE)
 sq_ONE:∀H,jB K H Z.a_ONE [.int 1,.int 1]
 mg_MOST_STATES:mg "MOST_STATES"=some (.int 8 Z.t_MOST_STATES)
 mg_MOST_PUTS:mg "MOST_PUTS"=some (.int 4 Z.t_MOST_PUTS)
 mg_MOST_LOOKS:mg "MOST_LOOKS"=some (.int 4 Z.t_MOST_LOOKS)
 mg_System:mg "System"=some (.ref Z.a_System)
 cl_System:Mp K Z.a_System
 na_move:kd K Z.a_System "move"
 na_states:kd K Z.a_System "states"
 na_put:kd K Z.a_System "put"
 na_ins:kd K Z.a_System "ins"
 na_look:kd K Z.a_System "look"
 na_outs:kd K Z.a_System "outs"
 mk_System:Mk K Z.a_System Z.kb
section
variable {P:Program} {w:World} {K:W.Frag} {mg:Str->Option Value} {base:Heap} {Z:Ads}
theorem Gg:ba ["_law_script"] ["_law_script"] (aN uX):=by walk_at "d"
theorem GG (T:Txt K mg Z) (ptree:P.given.tree=none):cB P w K mg base fL 1 Z.BX Z.BL ["_law_script"] (MR K):=by
 refine T.sH.F.ok Gg (λvs H Q E h=>?_) (λcdv A outer s H vs Q E hr h=>?_)
 ·obtain a|ns|rfl|_:=h;rfl
 ·obtain a|ns|rfl|hS|hlen|k:=h;refine #[_,(az (aV (du (aa ak (aa ak (aa ak (aa (b9 ["_law_cell"] [] [] (cE (Gz Kc (pv 0) Ki (Kh ak))) (λ_=>(aU (i:=0) (show ND9 ["_law_cell"] by decide +kernel))) (λ_=>cw) (λ_=>(bB wU (by rfl) T.abs PyProof.Rows.boot_abs (aa (pv 0) ai)))) ai))))))),?_];refine aT (σ:=[some (.ref a)]) rfl ?_;exists #[a,_,rfl,hS,λl hl=>?_];have hcl:(wO (ns.map V.int) none (some 63)).9<=63:=ag (y7 _ _ _) (by simpa using hlen);refine #[l,rfl,#[_,bR.of aL],?_];refine fR (K:=K) (a:=l) (xs:=wO (ns.map V.int) none (some 63)) (λi ys H'=>H'=upd H l (.lst (wO (ns.map V.int) none (some 63)))/\∃cs:List Int,ys=cs.map V.int/\∀x∈cs,0<=x) (ag hcl ()) #[rfl,[],rfl,λ_ z=>nomatch z] (λi ys H' _ #[e,_]=>by subst e;exact bR.of aL) ?_ ?_
  ·rintro i x ys H' hx hi ⟨rfl,cs,rfl,hcs⟩
   obtain ⟨z,rfl⟩:∃z,x=V.int z:=by
    have hm:x∈ns.map V.int:=List.mem_of_mem_drop (cK (av hx));obtain z|_|e:=aE.mp hm;exact #[z,e.symm]
   exists #[rfl,cs++[if z < 0 then -z else z],by simp,λx hx=>?_];rcases aA.mp hx with hx | hx
   ·exact hcs x hx
   ·have e:x=if z < 0 then -z else z:=by simpa using hx
    subst e
    split <;> lia
  ·rintro ys H' hy ⟨rfl,cs,rfl,hcs⟩ p hp;exists #[by show 4<=sizeLine;decide,λb hb=>?_];have n1:b≠p:=λz=>by rw[z,aL] at hb;cases hb
   have hb1:(upd H l (.lst (wO (ns.map V.int) none (some 63)))) b=none:=by rw[bM n1] at hb;exact hb
   have s1:aH H (upd H l (.lst (wO (ns.map V.int) none (some 63)))):=aH.new hl;refine k b _ (s1.free hb1) #[p,0,1234567891,0,cs,aL,by rw[bM n1.symm];exact aL,(),(),(),hcs] ((s1.trans (aH.new hp)).trans (aH.new hb))
theorem fo:ba ["_law_bag_here","_law_many","_law_more","_law_cell","_law_value","_law_first","_law_second"] ["_law_bag_here","_law_many"] (aN rK):=by walk_at "d"
theorem dn (T:Txt K mg Z) (ptree:P.given.tree=none):cB P w K mg base fL 1 Z.zi Z.yP ["_law_bag_here","_law_many"] Pb:=by
 refine T.aR.F.ok fo (λvs H Q E h=>?_) (λcdv A outer s H vs Q E hr h=>?_)
 ·obtain p|n|rfl|_:=h;rfl
 ·obtain p|n|rfl|⟨q,a,b,c,cs,hp,hq,ha,hc,hcl,hcs⟩|hn|hn2|k:=h;have nqp:q≠p:=Mb hp hq
  refine #[_,(fA (cD (br dS (aX bT (pv 0) ak) ak (bw _)) (ar (aW (i:=2) fo.nd rfl (Or.inl rfl) ak)
   (fA (cD (br rZ (aX bT (pv 0) ak) (bB bf (by rfl) T.len aZ (aa (aX bT (pv 0) ak) ai)) (bw _)) (ar (aW (i:=3) fo.nd rfl (Or.inl rfl) (aX bT (aX bT (pv 0) ak) (aX bT (pv 0) ak)))
   (ar (Qa (pv 0) ak N9 ak S3 set_list)
   (ar (cD (br Ds (pv 3) ak (bw _)) (az (gv (pv 3) (iB (pv 0) ak set_list))) bK)
   (az (aW (i:=2) fo.nd rfl (Or.inl rfl) (bJ eJ (bJ nX (pv 3) ak) ak)))))) bK)
   (az (gv (bJ nX (bJ eJ (bJ c5 (aX bT (pv 0) ak) ak) (pv 2)) ak) (iB (pv 0) ak set_list))))) bK)
   (ar (cD (br oI (aX bT (pv 0) ak) ak (bw _)) (ar (aW (i:=4) fo.nd rfl (Or.inl rfl) (bJ nX (aX bT (pv 0) ak) (pv 1)))
   (ar (gv (bJ (iQ rfl fo rfl rfl rfl ptree (sQ hr)) (aX bT (pv 0) ak) (pv 1)) (iB (pv 0) ak set_list))
   (az (aV (pv 4))))) bK)
   (ar (aW (i:=5) fo.nd rfl (Or.inl rfl) (bJ nX (bJ c5 (aX bT (pv 0) ak) ak) ak))
   (ar (aW (i:=6) fo.nd rfl (Or.inl rfl) (bJ nX (bJ c5 (pv 5) ak) ak))
   (ar (cD (br oI (pv 1) ak (bw _)) (az (aV (bJ nX (bJ eJ (bJ c5 (pv 6) ak) (pv 5)) (pv 1)))) bK)
   (az (aV (bJ nX (bJ (iQ rfl fo rfl rfl rfl ptree (sQ hr)) (pv 6) ak) (pv 1))))))))),?_]
  refine aT (σ:=[some (.ref p),some (.int n),none,none,none,none,none]) rfl ?_;refine #[λσ' H'=>∃(x y:Option V) (a' b' c':Int),σ'=[some (.ref p),some (.int n),x,y,none,none,none]/\H' p=some (.lst [.int a',.int b',.int c',.ref q])/\0<=a'/\0<=c'/\c'<=cs.9/\cP p H H',?_,?_]
  ·exists gY (λh0=>?_) (λh0=>?_)
   ·exists #[λσ' H'=>∃(m:Int) (y:Option V) (a' c':Int),σ'=[some (.ref p),some (.int n),some (.int m),y,none,none,none]/\H' p=some (.lst [.int a',.int b,.int c',.ref q])/\0<=a'/\0<=c'/\c'<=cs.9/\cP p H H',?_,?_]
    ·exists #[_,_,rfl,.inl (bR.of hq),?_];exists gY (λh1=>?_) (λh1=>?_)
     ·have h1':c < cs.9:=by simpa using of_decide_eq_true h1
      obtain ⟨z,hz⟩:∃z,cs[c.toNat]?=some z:=#[_,af ()];have hz0:0<=z:=hcs z (av hz);exists cH (bR.of hq) (v:=.int z) ?_ ?_
      ·have:=iH (xs:=cs.map V.int) (j:=c.toNat) (v:=.int z) (by rw[aF,hz];rfl);rwa [Int.toNat_of_nonneg hc] at this
      exists gY (λh2=>?_) (λh2=>?_)
      ·exists #[_,_,z,c+1,rfl,aL,hz0,(),(),(cP.set hp).trans (cP.set aL)]
      ·exists #[_,_,a,c+1,rfl,aL,ha,(),(),cP.set hp]
     ·exists #[_,_,a,c,rfl,hp,ha,hc,hcl,cP.refl _]
    ·rintro σ' H' ⟨m,y,a',c',rfl,hp',ha',hc',hcl',u'⟩;exists #[_,_,a',_,c',rfl,aL,ha',hc',hcl',u'.trans (cP.set hp')]
   ·exists #[_,_,a,b,c,rfl,hp,ha,hc,hcl,cP.refl _]
  ·rintro σ' H' ⟨x,y,a',b',c',rfl,hp',ha',hc',hcl',u'⟩;have hq':H' q=some (.lst (cs.map V.int)):=u'.1 q _ hq nqp
   have sn:Sz 8999000 n:=by
    show n.natAbs < 2^8999000
    exact bF (show n.natAbs < 2^64 by lia) (au () ())
   exists gY (λh0=>?_) (λh0=>?_)
   ·exists fU (show (0:Int) < n from hn) ?_;exists fU (show nD _ _ from #[(),sn]) ?_;exists k _ _ (lV _ ()) (ju _ hn) #[q,_,b',c',cs,aL,by rw[bM nqp];exact hq',?_,hc',hcl',hcs] (u'.trans (cP.set hp'));rw[ck _ ()];exact Int.ediv_nonneg ha' ()
   ·exists gY (λh1=>?_) (λh1=>?_)
    ·exists fU (show (0:Int) < n from hn) ?_;exact k _ _ (lV _ ()) (ju _ hn) #[q,a',b',c',cs,hp',hq',ha',hc',hcl',hcs] u'
    ·exists fU (show nD _ _ from #[(),by show (3:Nat) < 2^8999000;exact bF (show 3 < 2^2 by decide) (au () ())]) ?_;exists fU (show (0:Int) < n from hn) ?_;exact k _ _ (lV _ ()) (ju _ hn) #[q,a',b',c',cs,hp',hq',ha',hc',hcl',hcs] u'
theorem CL:∃x1 x2 x3 x4 x5 x6 x7 x8 x9 x10 x11 x12 x13 x14 x15 x16:Expr,x1=(Expr.Constant (Const.int 0) 0 #[341,16,341,17])/\x2=(Expr.Constant (Const.int 1) 0 #[341,19,341,20])/\x3=(Expr.Constant (Const.int 1) 0 #[341,22,341,23])/\x4=(Expr.Constant (Const.int 1) 0 #[341,25,341,26])/\x5=(Expr.Constant (Const.int 2) 0 #[341,28,341,29])/\x6=(Expr.Constant (Const.int 2) 0 #[341,31,341,32])/\x7=(Expr.Constant (Const.int 3) 0 #[341,34,341,35])/\x8=(Expr.Constant (Const.int 4) 0 #[341,37,341,38])/\x9=(Expr.Constant (Const.int 0) 0 #[342,17,342,18])/\x10=(Expr.Constant (Const.int 1) 0 #[342,20,342,21])/\x11=(Expr.Constant (Const.int 1) 0 #[342,23,342,24])/\x12=(Expr.Constant (Const.int 1) 0 #[342,26,342,27])/\x13=(Expr.Constant (Const.int 2) 0 #[342,29,342,30])/\x14=(Expr.Constant (Const.int 2) 0 #[342,32,342,33])/\x15=(Expr.Constant (Const.int 3) 0 #[342,35,342,36])/\x16=(Expr.Constant (Const.int 4) 0 #[342,38,342,39])/\j9 lJ=[ (Stmt.Assign (targets:=[(Expr.Name "_law_n" #[338,4,338,10])]) (value:=(Expr.Call (func:=(Expr.Name "_law_take" #[338,13,338,22])) (args:=[ (Expr.Name "_law_bag_here" #[338,23,338,36]),(Expr.Constant (Const.int 5) 0 #[338,38,338,39])]) (keywords:=[]) (pos:=#[338,13,338,40]))) (pos:=#[338,4,338,40])),(Stmt.If (test:=(Expr.Compare (left:=(Expr.Call (func:=(Expr.Name "_law_take" #[339,7,339,16])) (args:=[ (Expr.Name "_law_bag_here" #[339,17,339,30]),(Expr.Constant (Const.int 8) 0 #[339,32,339,33])]) (keywords:=[]) (pos:=#[339,7,339,34]))) (ops:=[PySem.CmpOp.Eq]) (comparators:=[(Expr.Constant (Const.int 7) 0 #[339,38,339,39])]) (pos:=#[339,7,339,39]))) (body:=[ (Stmt.Assign (targets:=[(Expr.Name "_law_n" #[340,8,340,14])]) (value:=(Expr.Constant (Const.int 5) 0 #[340,17,340,18])) (pos:=#[340,8,340,18]))]) (orelse:=[]) (pos:=#[339,4,340,18])),(Stmt.Assign (targets:=[(Expr.Name "_law_ins" #[341,4,341,12])]) (value:=(Expr.Subscript (value:=(Expr.List (elts:=[x1,x2,x3,x4,x5,x6,x7,x8]) (pos:=#[341,15,341,39]))) (slice:=(Expr.Call (func:=(Expr.Name "_law_take" #[341,40,341,49])) (args:=[ (Expr.Name "_law_bag_here" #[341,50,341,63]),(Expr.Constant (Const.int 8) 0 #[341,65,341,66])]) (keywords:=[]) (pos:=#[341,40,341,67]))) (pos:=#[341,15,341,68]))) (pos:=#[341,4,341,68])),(Stmt.Assign (targets:=[(Expr.Name "_law_outs" #[342,4,342,13])]) (value:=(Expr.Subscript (value:=(Expr.List (elts:=[x9,x10,x11,x12,x13,x14,x15,x16]) (pos:=#[342,16,342,40]))) (slice:=(Expr.Call (func:=(Expr.Name "_law_take" #[342,41,342,50])) (args:=[ (Expr.Name "_law_bag_here" #[342,51,342,64]),(Expr.Constant (Const.int 8) 0 #[342,66,342,67])]) (keywords:=[]) (pos:=#[342,41,342,68]))) (pos:=#[342,16,342,69]))) (pos:=#[342,4,342,69])),(Stmt.If (test:=(Expr.Compare (left:=(Expr.Name "_law_n" #[343,7,343,13])) (ops:=[PySem.CmpOp.Eq]) (comparators:=[(Expr.Constant (Const.int 5) 0 #[343,17,343,18])]) (pos:=#[343,7,343,18]))) (body:=[ (Stmt.Assign (targets:=[ (Expr.Tuple (elts:=[(Expr.Name "_law_ins" #[344,8,344,16]),(Expr.Name "_law_outs" #[344,18,344,27])]) (k:=0) (pos:=#[344,8,344,27]))]) (value:=(Expr.Tuple (elts:=[ (Expr.Call (func:=(Expr.Name "min" #[344,31,344,34])) (args:=[ (Expr.Name "_law_ins" #[344,35,344,43]),(Expr.Constant (Const.int 2) 0 #[344,45,344,46])]) (keywords:=[]) (pos:=#[344,31,344,47])),(Expr.Call (func:=(Expr.Name "min" #[344,49,344,52])) (args:=[ (Expr.Name "_law_outs" #[344,53,344,62]),(Expr.Constant (Const.int 2) 0 #[344,64,344,65])]) (keywords:=[]) (pos:=#[344,49,344,66]))]) (k:=0) (pos:=#[344,30,344,67]))) (pos:=#[344,8,344,67]))]) (orelse:=[]) (pos:=#[343,4,344,67])),(Stmt.Assign (targets:=[(Expr.Name "_law_wide" #[345,4,345,13])]) (value:=(Expr.Subscript (value:=(Expr.List (elts:=[ (Expr.Constant (Const.int 4) 0 #[345,17,345,18]),(Expr.Constant (Const.int 4) 0 #[345,20,345,21]),(Expr.Constant (Const.int 9) 0 #[345,23,345,24]),(Expr.Constant (Const.int 1000000) 0 #[345,26,345,33])]) (pos:=#[345,16,345,34]))) (slice:=(Expr.Call (func:=(Expr.Name "_law_take" #[345,35,345,44])) (args:=[ (Expr.Name "_law_bag_here" #[345,45,345,58]),(Expr.Constant (Const.int 4) 0 #[345,60,345,61])]) (keywords:=[]) (pos:=#[345,35,345,62]))) (pos:=#[345,16,345,63]))) (pos:=#[345,4,345,63])),(Stmt.If (test:=(Expr.Compare (left:=(Expr.Name "_law_wide" #[346,7,346,16])) (ops:=[PySem.CmpOp.Gt]) (comparators:=[(Expr.Constant (Const.int 9) 0 #[346,19,346,20])]) (pos:=#[346,7,346,20]))) (body:=[ (Stmt.Assign (targets:=[(Expr.Name "_law_n" #[347,8,347,14])]) (value:=(Expr.Call (func:=(Expr.Name "min" #[347,17,347,20])) (args:=[ (Expr.Name "_law_n" #[347,21,347,27]),(Expr.Constant (Const.int 2) 0 #[347,29,347,30])]) (keywords:=[]) (pos:=#[347,17,347,31]))) (pos:=#[347,8,347,31]))]) (orelse:=[]) (pos:=#[346,4,347,31])),(Stmt.Return (value:=(some (Expr.Tuple (elts:=[ (Expr.Name "_law_n" #[348,12,348,18]),(Expr.Name "_law_ins" #[348,20,348,28]),(Expr.Name "_law_outs" #[348,30,348,39]),(Expr.Name "_law_wide" #[348,41,348,50])]) (k:=0) (pos:=#[348,11,348,51])))) (pos:=#[348,4,348,51]))]:=#[_,_,_,_,_,_,_,_,_,_,_,_,_,_,_,_,rfl,rfl,rfl,rfl,rfl,rfl,rfl,rfl,rfl,rfl,rfl,rfl,rfl,rfl,rfl,rfl,by with_unfolding_all rfl]
theorem fv:ba ["_law_bag_here","_law_n","_law_ins","_law_outs","_law_wide"] ["_law_bag_here"] (aN lJ):=by walk_at "d"
theorem CA (T:Txt K mg Z) (ptree:P.given.tree=none):cB P w K mg base fL 2 Z.xc Z.wF ["_law_bag_here"] Lj:=by
 have aO:=dn (P:=P) (w:=w) (base:=base) T ptree;refine T.oj.F.ok fv (λvs H Q E h=>?_) (λcdv A outer s H vs Q E hr h=>?_)
 ·obtain b|rfl|_:=h;rfl
 ·obtain b|rfl|hB|k:=h;obtain x1|x2|x3|x4|x5|x6|x7|x8|x9|x10|x11|x12|x13|x14|x15|x16|hx1|hx2|hx3|hx4|hx5|hx6|hx7|hx8|hx9|hx10|hx11|hx12|hx13|hx14|hx15|hx16|hbd:=CL;rw[hbd]
  refine #[_,(ar (aW (i:=1) fv.nd rfl (Or.inl rfl) (cy aO hr T.aR (aa (pv 0) (aa ak ai))))
   (fA (cD (br dS (cy aO hr T.aR (aa (pv 0) (aa ak ai))) ak (bw _)) (az (aW (i:=1) fv.nd rfl (Or.inl rfl) ak)) bK)
   (ar (aW (i:=2) fv.nd rfl (Or.inl rfl) (aX bT (du (fh hx1 ak (fh hx2 ak (fh hx3 ak (fh hx4 ak (fh hx5 ak (fh hx6 ak (fh hx7 ak (fh hx8 ak ai))))))))) (cy aO hr T.aR (aa (pv 0) (aa ak ai)))))
   (ar (aW (i:=3) fv.nd rfl (Or.inl rfl) (aX bT (du (fh hx9 ak (fh hx10 ak (fh hx11 ak (fh hx12 ak (fh hx13 ak (fh hx14 ak (fh hx15 ak (fh hx16 ak ai))))))))) (cy aO hr T.aR (aa (pv 0) (aa ak ai)))))
   (fA (cD (br dS (pv 1) ak (bw _)) (az (Nk (i:=2) (j:=3) rfl fv.nd rfl rfl () rfl rfl (aa (bB (oQ rfl) (by rfl) T.min PyProof.Rows.boot_min (aa (pv 2) (aa ak ai))) (aa (bB (oQ rfl) (by rfl) T.min PyProof.Rows.boot_min (aa (pv 3) (aa ak ai))) ai)) rfl)) bK)
   (ar (aW (i:=4) fv.nd rfl (Or.inl rfl) (aX bT (du (aa ak (aa ak (aa ak (aa ak ai))))) (cy aO hr T.aR (aa (pv 0) (aa ak ai)))))
   (fA (cD (br oI (pv 4) ak (bw _)) (az (aW (i:=1) fv.nd rfl (Or.inl rfl) (bB (oQ rfl) (by rfl) T.min PyProof.Rows.boot_min (aa (pv 1) (aa ak ai))))) bK)
   (az (aV (cI (aa (pv 1) (aa (pv 2) (aa (pv 3) (aa (pv 4) ai)))))))))))))),?_]
  refine aT (σ:=[some (.ref b),none,none,none,none]) rfl ?_;exists #[b,5,rfl,hB,(),(),λn H1 n0 n1 B1 u1=>?_];obtain n|rfl:=b8 n0;exists #[λσ' H'=>(∃n:Nat,σ'=[some (.ref b),some (.int n),none,none,none]/\n<=5)/\gV H' b/\cP b H H',?_,?_]
  ·exists #[b,8,rfl,B1,(),(),λv H2 v0 v1 B2 u2=>?_];exists gY (λ_=>?_) (λ_=>?_)
   ·exists #[#[5,rfl,()],B2,u1.trans u2]
   ·exists #[#[n,rfl,()],B2,u1.trans u2]
  clear n0 n1 u1 B1;rintro σ' H1 ⟨⟨n,rfl,n5⟩,B1,u1⟩;exists cU λl0 H2 s2 n2 g2=>?_
  exists #[b,8,rfl,B1.same s2,(),(),λv H3 v0 v1 B3 u3=>?_];have g3:=u3.other (λz=>B1.at (by rw[<- z];exact n2)) g2;obtain x|ex|mx|_:=ir (xs:=[V.int 0,V.int 1,V.int 1,V.int 1,V.int 2,V.int 2,V.int 3,V.int 4]) v0 (by simpa using v1)
  obtain ⟨i,rfl,hi⟩:∃z:Nat,x=.int z/\z<=4:=by
   simp only[aG,aP,or_false] at mx;rcases mx with rfl | rfl | rfl | rfl | rfl | rfl | rfl | rfl
   ·exact #[0,rfl,()]
   ·exact #[1,rfl,()]
   ·exact #[1,rfl,()]
   ·exact #[1,rfl,()]
   ·exact #[2,rfl,()]
   ·exact #[2,rfl,()]
   ·exact #[3,rfl,()]
   ·exact #[4,rfl,()]
  exists cH (bR.of g3) ex ?_;clear ex mx g3 g2;exists cU λl1 H4 s4 n4 g4=>?_
  exists #[b,8,rfl,B3.same s4,(),(),λt H5 t0 t1 B5 u5=>?_];have g5:=u5.other (λz=>B3.at (by rw[<- z];exact n4)) g4;obtain x|ex|mx|_:=ir (xs:=[V.int 0,V.int 1,V.int 1,V.int 1,V.int 2,V.int 2,V.int 3,V.int 4]) t0 (by simpa using t1)
  obtain ⟨o,rfl,ho⟩:∃z:Nat,x=.int z/\z<=4:=by
   simp only[aG,aP,or_false] at mx;rcases mx with rfl | rfl | rfl | rfl | rfl | rfl | rfl | rfl
   ·exact #[0,rfl,()]
   ·exact #[1,rfl,()]
   ·exact #[1,rfl,()]
   ·exact #[1,rfl,()]
   ·exact #[2,rfl,()]
   ·exact #[2,rfl,()]
   ·exact #[3,rfl,()]
   ·exact #[4,rfl,()]
  exists cH (bR.of g5) ex ?_;clear ex mx g5 g4;have u15:=(((u1.same s2).trans u3).same s4).trans u5;exists #[λσ' H'=>(∃i o:Nat,σ'=[some (.ref b),some (.int n),some (.int i),some (.int o),none]/\i<=4/\o<=4/\(n=5->i<=2/\o<=2))/\gV H' b/\cP b H H',?_,?_]
  ·exists gY (λh0=>?_) (λh0=>?_)
   ·exists #[#[min i 2,min o 2,?_,(),(),λ_=>#[(),()]],B5,u15];have e1:(if (2:Int) < (i:Int) then (2:Int) else (i:Int))=((min i 2:Nat):Int):=by split <;> lia
    have e2:(if (2:Int) < (o:Int) then (2:Int) else (o:Int))=((min o 2:Nat):Int):=by split <;> lia
    rw[<- e1,<- e2];rfl
   ·exists #[#[i,o,rfl,hi,ho,λz=>absurd (decide_eq_true (show (n:Int)=5 by lia)) h0],B5,u15]
  clear hi ho u15 B5 u5 u3 u1;rintro σ' H5 ⟨⟨i,o,rfl,hi,ho,h5⟩,B5,u5⟩;exists cU λl2 H6 s6 n6 g6=>?_
  exists #[b,4,rfl,B5.same s6,(),(),λv H7 v0 v1 B7 u7=>?_];have g7:=u7.other (λz=>B5.at (by rw[<- z];exact n6)) g6;obtain x|ex|mx|_:=ir (xs:=[V.int 4,V.int 4,V.int 9,V.int 1000000]) v0 (by simpa using v1)
  obtain ⟨w,rfl,hw⟩:∃w:Nat,x=.int w/\(w=4\/w=9\/w=1000000):=by
   simp only[aG,aP,or_false] at mx;rcases mx with rfl | rfl | rfl | rfl
   ·exact #[4,rfl,.inl rfl]
   ·exact #[4,rfl,.inl rfl]
   ·exact #[9,rfl,.inr (.inl rfl)]
   ·exact #[1000000,rfl,.inr (.inr rfl)]
  exists cH (bR.of g7) ex ?_;have u07:=(u5.same s6).trans u7;exists #[λσ' H'=>(∃n:Nat,σ'=[some (.ref b),some (.int n),some (.int i),some (.int o),some (.int w)]/\n<=5/\(w=4\/w=9\/(w=1000000/\n<=2))/\(n=5->i<=2/\o<=2))/\gV H' b/\cP b H H',?_,?_]
  ·exists gY (λh0=>?_) (λh0=>?_)
   ·exists #[#[min n 2,?_,(),(),λz=>()],B7,u07];have e1:(if (2:Int) < (n:Int) then (2:Int) else (n:Int))=((min n 2:Nat):Int):=by split <;> lia
    rw[<- e1];rfl
   ·exists #[#[n,rfl,n5,?_,h5],B7,u07];rcases hw with z | z | z
    ·exact .inl z
    ·exact .inr (.inl z)
    ·exact absurd (decide_eq_true (show (9:Int) < (w:Int) by lia)) h0
  ·clear h5 n5;rintro σ' H8 ⟨⟨n',rfl,n5,hwn,h5⟩,B8,u8⟩;exists bU λr H9 s9 g9=>?_
   exact k r n' i o w H9 g9 n5 hi ho hwn h5 (B8.same s9) (u8.same s9)
theorem i5:ba ["_law_bag_here","_law_n","_law_move_here","_law_at","_law_put","_law_first","_law_look"] ["_law_bag_here","_law_n"] (aN rT):=by walk_at "d"
theorem vQ (T:Txt K mg Z) (ptree:P.given.tree=none):cB P w K mg base fL 2 Z.zC Z.yX ["_law_bag_here","_law_n"] (FZ K):=by
 have aO:=dn (P:=P) (w:=w) (base:=base) T ptree;refine T.j3.F.ok i5 (λvs H Q E h=>?_) (λcdv A outer s H vs Q E hr h=>?_)
 ·obtain b|n|rfl|_:=h;rfl
 ·obtain b|n|rfl|hB|n1|n8|k:=h
  refine #[_,(ar (pN 2 ["_law_i"] ["_law_n"] [1] i5.nd rfl rfl (cz rfl T.range (aa (pv 1) ai)) (λ_=>(aU (i:=0) (show ND9 ["_law_i","_law_n"] by decide +kernel) rfl (Or.inr rfl) (Or.inl rfl))) (λ_=>cw) (λ_=>(b9 ["_law_j"] ["_law_i"] [0] (cz rfl T.range (aa (pv 1) ai)) (λ_=>(aU (i:=0) (show ND9 ["_law_j","_law_i"] by decide +kernel))) (λ_=>cw) (λ_=>(cI (aa (dN lZ (by rfl) T.int PyProof.Rows.boot_int (aa (iG dS (pv 0) (bJ eJ (pv 1) ak) (bw _)) ai)) (aa ak ai)))))))
   (ar (gv (b9 ["_law_j"] ["_law_bag_here"] [0] (cz rfl T.range (aa (pv 1) ai)) (λ_=>(aU (i:=0) (show ND9 ["_law_j","_law_bag_here"] by decide +kernel))) (λ_=>cw) (λ_=>(cI (aa (bJ kB (cy aO hr T.aR (aa (pv 1) (aa ak ai))) ak) (aa ak ai))))) (iB (pv 2) (bJ kB (pv 1) ak) set_list))
   (ar (aW (i:=3) i5.nd rfl (Or.inr rfl) (aX bT (du (aa (bJ kB (pv 1) ak) (aa (cy aO hr T.aR (aa (pv 0) (aa (pv 1) ai))) ai))) (cy aO hr T.aR (aa (pv 0) (aa ak ai)))))
   (ar (aW (i:=4) i5.nd rfl (Or.inl rfl) (du (aa (b9 ["_law_j"] ["_law_at"] [3] (cz rfl T.range (aa (pv 1) ai)) (λ_=>(aU (i:=0) (show ND9 ["_law_j","_law_at"] by decide +kernel))) (λ_=>cw) (λ_=>(cI (aa (dN lZ (by rfl) T.int PyProof.Rows.boot_int (aa (iG dS (pv 0) (pv 1) (bw _)) ai)) (aa ak ai))))) ai)))
   (ar (aW (i:=5) i5.nd rfl (Or.inr rfl) (aX bT (du (aa ak (aa ak (aa (cy aO hr T.aR (aa (pv 0) (aa (pv 1) ai))) ai)))) (cy aO hr T.aR (aa (pv 0) (aa ak ai)))))
   (ar (aW (i:=6) i5.nd rfl (Or.inl rfl) (du (aa (b9 ["_law_j"] ["_law_first"] [5] (cz rfl T.range (aa (pv 1) ai)) (λ_=>(aU (i:=0) (show ND9 ["_law_j","_law_first"] by decide +kernel))) (λ_=>cw) (λ_=>(cI (aa (dN lZ (by rfl) T.int PyProof.Rows.boot_int (aa (iG dS (pv 0) (pv 1) (bw _)) ai)) (aa ak ai))))) ai)))
   (az (aV (cI (aa (pv 2) (aa (pv 4) (aa (pv 6) ai)))))))))))),?_]
  refine aT (σ:=[some (.ref b),some (.int n),none,none,none,none,none]) rfl ?_
  have bit:∀{z:Int},∀y∈(List.range n).map (λ(j:Nat)=>(((if decide ((j:Int)=z)=true then 1 else 0:Int)):Rat)),Fr 1 1 y:=λy hy=>by
   obtain j|_|rfl:=aE.mp hy;exact T6 (by split <;> simp)
  exists #[(),(),?_];refine jc (n:=n) (dB K H) (λ(i:Nat)=>(List.range n).map λ(j:Nat)=>(((if decide ((j:Int)=(i:Int)+1)=true then 1 else 0:Int)):Rat)) () (λa b=>a.same b) ?_ ?_
  ·rintro i Hb NY NN hi sa k1;exists #[(),(),?_];refine jc (n:=n) (bQ K) (λ(j:Nat)=>(((if decide ((j:Int)=(i:Int)+1)=true then 1 else 0:Int)):Rat)) () (λa b=>a.same b) ?_ ?_
   ·rintro j Hz NY2 NN2 hj sz k2;exists bU λt Hy sy gy=>?_
    exact k2 _ _ sy (bQ.mk gy rfl)
   ·rintro ys Hz t ht sz g pr nx;exact k1 _ _ sz #[t,rfl,sa.none ht,ys,g,pr]
  rintro ys H1 mm hm s1 g1 pr1 nx1;have G1:bL K H H1 mm ((List.range n).map λ(i:Nat)=>(List.range n).map λ(j:Nat)=>(((if decide ((j:Int)=(i:Int)+1)=true then 1 else 0:Int)):Rat)):=#[ys,g1,pr1,jV nx1];clear g1 pr1 nx1;have B1:=hB.same s1;have mb:mm≠b:=λz=>hB.at (by rw[<- z];exact hm)
  obtain q0|I0|xq|gq0:=hB.inner;have mq:mm≠q0:=λz=>by rw[<- z,hm] at gq0;cases gq0
  exists #[(),(),?_];refine yo (n:=n) (b:=b) (bQ K) (Fr 1 1) B1 () (λa u B=>a.upto u B) ?_ ?_
  ·rintro j Ha NY NN hj ua Ba k1;exists #[b,3,rfl,Ba,(),(),λv Hb v0 v1 Bb ub=>?_];exists bU λt Hc sc gc=>?_
   exact k1 _ ((v - 1:Int):Rat) _ (ub.same sc) (Bb.same sc) (Fr.int ()) (bQ.mk gc rfl)
  rintro ys2 cs H2 q2 hq2 u2 B2 g2 lc hc pr2 _;have u02:=(s1.upto (p:=b)).trans u2;have nq2:H q2=none:=s1.none hq2;obtain us|gu|pu:=(G1.upto u2 B1 mb hB.at).toE;have lu:=pu.9;rw[aj,bZ] at lu
  have q2m:q2≠mm:=λz=>by
   obtain _|gg|_:=id G1;rw[z,gg] at hq2;cases hq2
  walk_at "w";rw[show ((n:Int) - 1)=((n - 1:Nat):Int) by lia];refine fI gu (fZ ()) rfl ?_;have G3:bL K H (upd H2 mm (.lst (us.set (n - 1) (.ref q2)))) mm (((List.range n).map λ(i:Nat)=>(List.range n).map λ(j:Nat)=>(((if decide ((j:Int)=(i:Int)+1)=true then 1 else 0:Int)):Rat)).set (n - 1) cs):=bL.ofE aL (kx (Paired.imp' (λ_ _ z=>Mc.updL z gu (λq h=>h.2)) pu) (n - 1) #[q2,rfl,#[nq2,q2m],bV.updL #[ys2,g2,pr2] gu q2m]) (λq h=>h.1) (λq h=>h.2);have B3:gV (upd H2 mm (.lst (us.set (n - 1) (.ref q2)))) b:=B2.upd (u02.2 _ I0) mb mq;have u03:cP b H (upd H2 mm (.lst (us.set (n - 1) (.ref q2)))):=u02.after hm;obtain ⟨mv,emv⟩:∃mv,mv=((List.range n).map λ(i:Nat)=>(List.range n).map λ(j:Nat)=>(((if decide ((j:Int)=(i:Int)+1)=true then 1 else 0:Int)):Rat)).set (n - 1) cs:=#[_,rfl];have lmv:mv.9=n:=by rw[emv,d6,aj,bZ]
  have hmv:∀xs∈mv,xs.9=n/\∀y∈xs,Fr 1 1 y:=λxs hx=>by
   rw[emv] at hx;rcases cv hx with hx | rfl
   ·obtain i|_|rfl:=aE.mp hx;exact #[by rw[aj,bZ],bit]
   ·exact #[lc,hc]
  rw[<- emv] at G3;generalize upd H2 mm (.lst (us.set (n - 1) (.ref q2)))=H3 at G3 B3 u03 ⊢;clear emv pu gu G1 u2 pr2 g2 B2;exists #[b,n,rfl,B3,(),(),λa1 H4 a10 a11 B4 u4=>?_];exists cU λl1 H5 s5 nl1 g5=>?_
  exists #[b,2,rfl,B4.same s5,(),(),λv H6 v0 v1 B6 u6=>?_];have g6:=u6.other (λz=>B4.at (by rw[<- z];exact nl1)) g5;obtain x|ex|mx|_:=ir (xs:=[V.int ((n:Int) - 1),V.int a1]) v0 (by simpa using v1)
  obtain ⟨at',rfl⟩:∃a:Int,x=.int a:=by
   simp only[aG,aP,or_false] at mx;rcases mx with rfl | rfl
   ·exact #[_,rfl]
   ·exact #[_,rfl]
  exists cH (bR.of g6) ex ?_;have u36:=(u4.same s5).trans u6;have G6:=G3.upto u36 B3 mb hB.at;have u06:=u03.trans u36;clear ex mx g6 g5 G3 u4 u6;exists #[(),(),?_];refine jc (n:=n) (bQ K) (λ(j:Nat)=>(((if decide ((j:Int)=at')=true then 1 else 0:Int)):Rat)) () (λa b=>a.same b) ?_ ?_
  ·rintro j Hz NY2 NN2 hj sz k2;exists bU λt Hy sy gy=>?_
   exact k2 _ _ sy (bQ.mk gy rfl)
  rintro ys7 H7 q7 hq7 s7 g7 pr7 _;have R7:bV K H7 q7 _:=#[ys7,g7,pr7];exists cU λp8 H8 s8 n8' g8=>?_
  have s68:=s7.trans s8;have q78:q7≠p8:=λz=>by rw[z,n8'] at g7;cases g7
  have np8:H p8=none:=u06.none B6 (s7.none n8');have nq7:H q7=none:=u06.none B6 hq7
  have GP:bL K H H8 p8 [(List.range n).map λ(j:Nat)=>(((if decide ((j:Int)=at')=true then 1 else 0:Int)):Rat)]:=#[_,g8,.cons #[q7,rfl,nq7,R7.same s8] .nil,λz=>by
   rw[bA] at z;cases z;exact q78 rfl]
  have B8:=B6.same s68;have u08:=u06.same s68;have G8:=G6.same s68;have pb:p8≠b:=λz=>hB.at (by rw[<- z];exact np8)
  exists #[b,n,rfl,B8,(),(),λa2 H9 a20 a21 B9 u9=>?_];exists cU λl2 Ha sa nl2 ga=>?_
  exists #[b,3,rfl,B9.same sa,(),(),λv' Hb v0' v1' Bb ub=>?_];have gb:=ub.other (λz=>B9.at (by rw[<- z];exact nl2)) ga;obtain x|ex|mx|_:=ir (xs:=[V.int 0,V.int 0,V.int a2]) v0' (by simpa using v1')
  obtain ⟨fi,rfl⟩:∃a:Int,x=.int a:=by
   simp only[aG,aP,or_false] at mx;rcases mx with rfl | rfl | rfl
   ·exact #[_,rfl]
   ·exact #[_,rfl]
   ·exact #[_,rfl]
  exists cH (bR.of gb) ex ?_;have u8b:=(u9.same sa).trans ub;have Gb:=G8.upto u8b B8 mb hB.at;have GPb:=GP.upto u8b B8 pb hB.at;have u0b:=u08.trans u8b;clear ex mx gb ga G8 GP u9 ub;exists #[(),(),?_];refine jc (n:=n) (bQ K) (λ(j:Nat)=>(((if decide ((j:Int)=fi)=true then 1 else 0:Int)):Rat)) () (λa b=>a.same b) ?_ ?_
  ·rintro j Hz NY2 NN2 hj sz k2;exists bU λt Hy sy gy=>?_
   exact k2 _ _ sy (bQ.mk gy rfl)
  rintro ysc Hc qc hqc sc gc prc _;have Rc:bV K Hc qc _:=#[ysc,gc,prc];exists cU λpd Hd sd nd gd=>?_
  have sbd:=sc.trans sd;have qcd:qc≠pd:=λz=>by rw[z,nd] at gc;cases gc
  have npd:H pd=none:=u0b.none Bb (sc.none nd);have nqc:H qc=none:=u0b.none Bb hqc
  have GL:bL K H Hd pd [(List.range n).map λ(j:Nat)=>(((if decide ((j:Int)=fi)=true then 1 else 0:Int)):Rat)]:=#[_,gd,.cons #[qc,rfl,nqc,Rc.same sd] .nil,λz=>by
   rw[bA] at z;cases z;exact qcd rfl]
  exists bU λr He se ge=>?_
  have sbe:=sbd.trans se;refine k r mv _ _ He #[mm,p8,pd,ge,hm,np8,npd,Gb.same sbe,GPb.same sbe,GL.same se] lmv rfl rfl #[(),by simp,by simp,λxs hx=>by rw[(hmv xs hx).1,lmv],λxs hx=>?_,λxs hx=>?_] (λxs hx=>(hmv xs hx).2) (λxs hx=>?_) (λxs hx=>?_) (Bb.same sbe) (u0b.same sbe)
  ·rw[bA.mp hx,aj,bZ,lmv]
  ·rw[bA.mp hx,aj,bZ,lmv]
  ·rw[bA.mp hx];exact bit
  ·rw[bA.mp hx];exact bit
theorem jC:ba ["_law_top","_law_bottom","_law_one","_law_other"] ["_law_top","_law_bottom"] (aN uU):=by walk_at "d"
theorem jD (T:Txt K mg Z) (ptree:P.given.tree=none):cB P w K mg base fL 1 Z.BU Z.BI ["_law_top","_law_bottom"] RS:=by
 refine T.fX.F.ok jC (λvs H Q E h=>?_) (λcdv A outer s H vs Q E hr h=>?_)
 ·obtain t|b|rfl|_:=h;rfl
 ·obtain t|b|rfl|hb|hs|k:=h
  refine #[_,(ar (aW (i:=2) jC.nd rfl (Or.inl rfl) (bB wU (by rfl) T.abs PyProof.Rows.boot_abs (aa (pv 0) ai)))
   (ar (aW (i:=3) jC.nd rfl (Or.inl rfl) (pv 1))
   (ar (AZ PassesOwn.never (br tW (pv 2) ak (bw _))
    (az (Nk (i:=2) (j:=3) rfl jC.nd rfl rfl () rfl rfl (aa (bJ nX (pv 3) (pv 2)) (aa (pv 2) ai)) rfl)))
   (az (aV (cI (aa (bJ (iQ rfl jC rfl rfl rfl ptree (sQ hr)) (pv 0) (pv 3)) (aa (bJ (iQ rfl jC rfl rfl rfl ptree (sQ hr)) (pv 1) (pv 3)) ai)))))))),?_]
  refine aT (σ:=[some (.int t),some (.int b),none,none]) rfl ?_;walk_at "w"
  refine D5 (λσ' H'=>∃(u v:Int),σ'=[some (.int t),some (.int b),some (.int u),some (.int v)]/\H'=H/\0<=u/\0 < v/\Int.gcd u v=Int.gcd t b) (λσ' _=>match σ' with | [_,_,some (.int u),_]=>u.natAbs | _=>0) #[_,b,rfl,rfl,by split <;> lia,hb,by
   split
   ·rw[Int.neg_gcd]
   ·rfl] ?_
  rintro σ' H' ⟨u,v,rfl,rfl,hu,hv,hg⟩;exists gY (λh=>?_) (λh=>?_)
  ·have hu0:u≠0:=λz=>by subst z;simp at h
   exists fU (show (0:Int) < u by lia) ?_;walk_at "w";have h1:=lV v hu0;have h2:=ju v (show 0 < u by lia);exact #[#[v % u,u,rfl,rfl,h1,(),by rw[jt,Ob,jt];exact hg],by show (v % u).natAbs < u.natAbs;lia]
  ·have hu0:u=0:=by
    by_cases z:u=0
    ·exact z
    ·exfalso;apply h;simp [z]
   subst hu0
   have e:v=g t b:=by
    unfold g;rw[<- hg,Int.gcd_zero_left]
    lia
   have hgs:Sz 8999000 v:=hs.le (by
    rw[e];have h1:(g t b).natAbs=Int.gcd t b:=by unfold g;simp
    rw[h1];exact jJ () (by have:=gi (a:=t) (b:=b);exact ij.mpr this |> λz=>by simpa using z))
   exists fU (show nD _ _ from #[(),hgs]) ?_;exists fU (show nD _ _ from #[(),hgs]) ?_;exists bU λr H' s' h'=>?_
   rw[ck _ (),ck _ (),e] at h';exact k r H' s' h'
theorem Ge:ba ["_law_one","_law_other"] ["_law_one","_law_other"] (aN uR):=by walk_at "d"
theorem kT (T:Txt K mg Z) (ptree:P.given.tree=none):cB P w K mg base fL 2 Z.BR Z.BG ["_law_one","_law_other"] (o8 K (λx y=>x+y)):=by
 have eX:=jD (P:=P) (w:=w) (base:=base) T ptree;refine T.gZ.F.ok Ge (λvs H Q E h=>?_) (λcdv A outer s H vs Q E hr h=>?_)
 ·obtain p|q|a|b|c|d|rfl|hp|hq|hb|hd|sa|sb|sc|sd|k:=KZ h;rfl
 ·obtain p|q|a|b|c|d|rfl|hp|hq|hb|hd|sa|sb|sc|sd|k:=KZ h;refine #[_,(az (aV (cy eX hr T.fX (aa (bJ eJ (bJ c5 (aX bu (pv 0) ak) (aX bu (pv 1) ak)) (bJ c5 (aX bu (pv 1) ak) (aX bu (pv 0) ak))) (aa (bJ c5 (aX bu (pv 0) ak) (aX bu (pv 1) ak)) ai))))),?_];refine aT (σ:=[some (.ref p),some (.ref q)]) rfl ?_;have hbd:0 < b*d:=jr hb hd;have sbd:Sz 8999000 (b*d):=(sb.mul sd).mono ();exists fU (show gJ _ _ from .inr #[_,_,sa,sd,()]) ?_;exists fU (show gJ _ _ from .inr #[_,_,sc,sb,()]) ?_;exists fU (show gJ _ _ from .inr #[_,_,sb,sd,()]) ?_;walk_at "w";exists #[_,_,rfl,hbd,sbd,k]
theorem Ep:ba ["_law_one","_law_other"] ["_law_one","_law_other"] (aN rN):=by walk_at "d"
theorem vP (T:Txt K mg Z) (ptree:P.given.tree=none):cB P w K mg base fL 3 Z.zo Z.yS ["_law_one","_law_other"] (FV K):=by
 have gH:=kT (P:=P) (w:=w) (base:=base) T ptree;refine T.lO.F.ok Ep (λvs H Q E h=>?_) (λcdv A outer s H vs Q E hr h=>?_)
 ·obtain p|q|xs|ys|rfl|_:=h;rfl
 ·obtain p|q|xs|ys|rfl|hp|hq|hl|hz|h1|h2|kk:=h;refine #[_,(az (aV (b9 ["_law_k"] ["_law_one","_law_other"] [0,1] (cz rfl T.range (aa (bB bf (by rfl) T.len aZ (aa (pv 0) ai)) ai)) (λ_=>(aU (i:=0) (show ND9 ["_law_k","_law_one","_law_other"] by decide +kernel))) (λ_=>cw) (λ_=>(cy gH hr T.gZ (aa (aX (mI K (by rfl)) (pv 1) (pv 0)) (aa (aX (mI K (by rfl)) (pv 2) (pv 0)) ai))))))),?_];refine aT (σ:=[some (.ref p),some (.ref q)]) rfl ?_;obtain us|gu|qu:=id hp;obtain ws|gw|qw:=id hq;have lu:=qu.9;exists #[_,_,rfl,.inl (bR.of gu),?_];exists #[(),(),?_];refine jc (n:=us.9) (bQ K) (λi=>xs.getD i 0+ys.getD i 0) () (λa b=>a.same b) ?_ ?_
  ·rintro i H' NY NN hi s k1;have ix:i < xs.9:=()
   have iy:i < ys.9:=()
   obtain vx|ex|nx:=LX (Paired.imp' (λ_ _ z=>z.same s) qu) ix;obtain vy|ey|ny:=LX (Paired.imp' (λ_ _ z=>z.same s) qw) iy;exists cH (bR.of (s _ _ gu)) ex ?_;exists cH (bR.of (s _ _ gw)) ey ?_;exists #[_,_,_,_,rfl,nx,ny,h1 _ (getD_mem ix),h2 _ (getD_mem iy),λr3 H3 s3 n3=>k1 _ _ s3 n3]
  ·rintro ys' H' l hl' s g pr nx;exact kk l H' hl' s #[ys',g,by rw[CV ()];rw[<- lu] at pr;exact pr]
theorem Eo:ba ["_law_one","_law_other"] ["_law_one","_law_other"] (aN rM):=by walk_at "d"
theorem pS (T:Txt K mg Z) (ptree:P.given.tree=none):cB P w K mg base fL 2 Z.zm Z.yR ["_law_one","_law_other"] (o8 K (λx y=>x*y)):=by
 have eX:=jD (P:=P) (w:=w) (base:=base) T ptree;refine T.jb.F.ok Eo (λvs H Q E h=>?_) (λcdv A outer s H vs Q E hr h=>?_)
 ·obtain p|q|a|b|c|d|rfl|hp|hq|hb|hd|sa|sb|sc|sd|k:=Kl h;rfl
 ·obtain p|q|a|b|c|d|rfl|hp|hq|hb|hd|sa|sb|sc|sd|k:=Kl h;refine #[_,(az (aV (cy eX hr T.fX (aa (bJ c5 (aX bu (pv 0) ak) (aX bu (pv 1) ak)) (aa (bJ c5 (aX bu (pv 0) ak) (aX bu (pv 1) ak)) ai))))),?_];refine aT (σ:=[some (.ref p),some (.ref q)]) rfl ?_;have hbd:0 < b*d:=jr hb hd;have sbd:Sz 8999000 (b*d):=(sb.mul sd).mono ();exists fU (show gJ _ _ from .inr #[_,_,sa,sc,()]) ?_;exists fU (show gJ _ _ from .inr #[_,_,sb,sd,()]) ?_;walk_at "w";exists #[_,_,rfl,hbd,sbd,k]
theorem IP:ba ["_law_by_here","_law_row_here"] ["_law_by_here","_law_row_here"] (aN xU):=by walk_at "d"
theorem Bh (T:Txt K mg Z) (ptree:P.given.tree=none):cB P w K mg base fL 3 Z.DW Z.DD ["_law_by_here","_law_row_here"] (MQ K):=by
 have jH:=pS (P:=P) (w:=w) (base:=base) T ptree;refine T.qh.F.ok IP (λvs H Q E h=>?_) (λcdv A outer s H vs Q E hr h=>?_)
 ·obtain u|q|c|ys|rfl|_:=h;rfl
 ·obtain u|q|c|ys|rfl|hc|sc|hq|hz|h2|kk:=h;refine #[_,(az (aV (b9 ["_law_one"] ["_law_by_here"] [0] (cE (pv 1)) (λ_=>(aU (i:=0) (show ND9 ["_law_one","_law_by_here"] by decide +kernel))) (λ_=>cw) (λ_=>(cy jH hr T.jb (aa (pv 1) (aa (pv 0) ai))))))),?_];refine aT (σ:=[some u,some (.ref q)]) rfl ?_;obtain us|gu|qu:=id hq;exists #[#[_,bR.of gu],?_];refine dy (K:=K) (F:=bQ K) (bQ K) (λy=>c*y) gu qu hz (λa b=>a.same b) (λa b=>a.same b) ?_ ?_
  ·rintro i y x H' NY NN en s hx k;exists #[_,_,_,_,rfl,hc.same s,hx,sc,h2 y (av en),λr H2 s2 h2'=>k _ _ s2 h2']
  ·rintro ys' H' r hr s g pr nx;exact kk r H' hr s #[ys',g,pr]
theorem eF:ba ["_law_bag_here","_law_move_here","_law_put","_law_look","_law_n","_law_turn","_law_i","_law_j","_law_by_here","_law_less_here","_law_row_here"] ["_law_bag_here","_law_move_here","_law_put","_law_look"] (aN pG):=by walk_at "d"
theorem t8 (T:Txt K mg Z) (ptree:P.given.tree=none):cB P w K mg base fL 4 Z.xg Z.wI ["_law_bag_here","_law_move_here","_law_put","_law_look"] (Dc K):=by
 have aO:=dn (P:=P) (w:=w) (base:=base) T ptree;have tD:=vP (P:=P) (w:=w) (base:=base) T ptree;have yA:=Bh (P:=P) (w:=w) (base:=base) T ptree;have gH:=kT (P:=P) (w:=w) (base:=base) T ptree;have jH:=pS (P:=P) (w:=w) (base:=base) T ptree;refine T.kL.F.ok eF (λvs H Q E h=>?_) (λcdv A outer s H vs Q E hr h=>?_)
 ·obtain b|m|p|l|q0|n|WV|μ|A|us|ws|vs|rfl|_:=h;rfl
 ·obtain b|m|p|l|q0|n|WV|μ|A|us|ws|vs|rfl|MA|X|n8|i4|o4|M0|M1|⟨M,eM⟩|V1|hA|k:=h
  refine #[_,(ar (aW (i:=4) eF.nd rfl (Or.inl rfl) (bB bf (by rfl) T.len aZ (aa (pv 1) ai)))
   (ar (cD (PW.pt (lE (br rZ (pv 4) ak (bw _)) (jw (br dS (cy aO hr T.aR (aa (pv 0) (aa ak ai))) ak (bw _))))) (az (aV (cI (aa (pv 1) (aa (pv 2) (aa (pv 3) ai)))))) bK)
   (ar (dY PassesOwn.never rfl (cz rfl T.range (aa (bJ eJ ak (cy aO hr T.aR (aa (pv 0) (aa ak ai)))) ai)) (aU (i:=5) eF.nd)
    (ar (aW (i:=6) eF.nd rfl (Or.inl rfl) (cy aO hr T.aR (aa (pv 0) (aa (pv 4) ai))))
   (ar (aW (i:=7) eF.nd rfl (Or.inl rfl) (bJ nX (bJ eJ (bJ eJ (pv 6) ak) (cy aO hr T.aR (aa (pv 0) (aa (bJ kB (pv 4) ak) ai)))) (pv 4)))
   (ar (aW (i:=8) eF.nd rfl (Or.inl rfl) (cI (aa (aX bT (du (aa ak (aa (tU nH ak) (aa ak (aa (tU nH ak) ai))))) (cy aO hr T.aR (aa (pv 0) (aa ak ai)))) (aa ak ai))))
   (ar (aW (i:=9) eF.nd rfl (Or.inl rfl) (cI (aa (bJ kB ak (aX bu (pv 8) ak)) (aa ak ai))))
   (ar (gv (cy tD hr T.lO (aa (aX bT (pv 1) (pv 6)) (aa (cy yA hr T.qh (aa (pv 8) (aa (aX bT (pv 1) (pv 7)) ai))) ai))) (iB (pv 1) (pv 6) set_list))
   (ar (dY PassesOwn.never rfl (cE (bJ jS (pv 1) (pv 3))) (aU (i:=10) eF.nd)
    (az (gv (cy gH hr T.gZ (aa (aX bT (pv 10) (pv 7)) (aa (cy jH hr T.jb (aa (pv 9) (aa (aX bT (pv 10) (pv 6)) ai))) ai))) (iB (pv 10) (pv 7) set_list))))
   (az (dY PassesOwn.never rfl (cE (pv 2)) (aU (i:=10) eF.nd)
    (az (gv (cy gH hr T.gZ (aa (aX bT (pv 10) (pv 6)) (aa (cy jH hr T.jb (aa (pv 8) (aa (aX bT (pv 10) (pv 7)) ai))) ai))) (iB (pv 10) (pv 6) set_list))))))))))))
   (az (aV (cI (aa (pv 1) (aa (pv 2) (aa (pv 3) ai))))))))),?_]
  refine aT (σ:=[some (.ref b),some (.ref m),some (.ref p),some (.ref l),none,none,none,none,none,none,none]) rfl ?_;have done:∀r us' H' t,t<=3->H' r=some (.tup [.ref m,.ref p,.ref l])->ke K A H' n (λx=>Fr (μ x) (9^t*WV)) m p l b q0 us' ws vs->jh A b m H H'->Q (.ref r) H':=λr us' H' t ht g x kp=>k r us' H' g (x.weak λ_ _ y h=>h.mono (aD _ (au () ht))) kp
  have X0:ke K A H n (λx=>Fr (μ x) (9^0*WV)) m p l b q0 us ws vs:=X.weak λ_ _ y h=>h.mono (by simp)
  clear X k;have gu:=X0.gm;have lu:=X0.lm;exists #[_,_,rfl,.inl (bR.of gu),?_];rw[lu];clear gu lu;have kp0:jh A b m H H:=λ_ _ h _ _ _=>h
  exists gY (λh0=>?_) (λh0=>?_)
  ·exists bU λr H' s' g'=>?_
   exact done r us H' 0 () g' (X0.same s') (kp0.same s')
  have n2:2<=n:=by
   rcases cR n 2 with z | z
   ·exact absurd (decide_eq_true (show (n:Int) < 2 by lia)) h0
   ·exact z
  exists #[b,2,rfl,X0.bag,(),(),λv H1 v0 v1 B1 u1=>?_];have X1:=X0.upto MA u1 B1;have kp1:=kp0.upto u1;exists gY (λh1=>?_) (λh1=>?_)
  ·exists bU λr H' s' g'=>?_
   exact done r us H' 0 () g' (X1.same s') (kp1.same s')
  exists #[b,3,rfl,B1,(),(),λc H2 c0 c1 B2 u2=>?_];have X2:=X1.upto MA u2 B2;have kp2:=kp1.upto u2;clear X0 X1 kp0 kp1 u1 u2 B1;exists #[(),(),?_];refine d9 (n:=(1+c).toNat) (λt σ' H'=>∃(x1 x2 x3 x4 x5 x6:Option V) (us:List V),σ'=[some (.ref b),some (.ref m),some (.ref p),some (.ref l),some (.int n),x1,x2,x3,x4,x5,x6]/\ke K A H' n (λx=>Fr (μ x) (9^t*WV)) m p l b q0 us ws vs/\jh A b m H H') #[none,none,none,none,none,none,us,rfl,X2,kp2] ?_ ?_
  ·rintro t σ' H' ht ⟨x1,x2,x3,x4,x5,x6,us,rfl,X,kp⟩;have t3:t<=2:=()
   exists #[b,n,rfl,X.bag,(),(),λii Ha i0 i1 Ba ua=>?_];obtain ii|rfl:=b8 i0;have Xa:=X.upto MA ua Ba;have kpa:=kp.upto ua;exists #[b,_,rfl,Ba,(),(),λd Hb d0 d1 Bb ub=>?_];have Xb:=Xa.upto MA ub Bb;have kpb:=kpa.upto ub;exists fU (show (0:Int) < n by lia) ?_;have j0:=lV ((ii:Int)+1+d) (show (n:Int)≠0 by lia);have j1:=ju ((ii:Int)+1+d) (show (0:Int) < n by lia);generalize ((ii:Int)+1+d) % (n:Int)=jj at j0 j1 ⊢;obtain jj|rfl:=b8 j0;exists cU λl0 Hc sc nc gc=>?_
   exists #[b,4,rfl,Bb.same sc,(),(),λv' Hd v0' v1' Bd ud=>?_];have gd:=ud.other (λz=>Bb.at (by rw[<- z];exact nc)) gc;obtain x|ex|mx|_:=ir (xs:=[V.int 1,V.int (-1),V.int 2,V.int (-2)]) v0' (by simpa using v1')
   obtain ⟨z,rfl,hz⟩:∃z:Int,x=.int z/\z.natAbs<=2:=by
    simp only[aG,aP,or_false] at mx;rcases mx with rfl | rfl | rfl | rfl
    ·exact #[1,rfl,()]
    ·exact #[-1,rfl,()]
    ·exact #[2,rfl,()]
    ·exact #[-2,rfl,()]
   have Xd:=(Xb.same sc).upto MA ud Bd;have kpd:=(kpb.same sc).upto ud;exists cH (bR.of gd) ex ?_;exists bU λbt He se ge=>?_
   exists bU λlt Hf sf gf=>?_
   have Xf:=(Xd.same se).same sf;have kpf:=(kpd.same se).same sf;have nb:bQ K Hf ((z:Int):Rat) (.ref bt):=bQ.mk (sf _ _ ge) rfl;have nl:bQ K Hf ((0 - z:Int):Rat) (.ref lt):=bQ.mk gf rfl;clear X Xa Xb Xd kp kpa kpb kpd ua ub ud sc gc gd ex mx ge gf se sf Ba Bb Bd nc;have gu:=Xf.gm;have lu:=Xf.lm
   have ru:∀x∈us,gK K A Hf n (Fr M (9^t*WV)) x:=λx hx=>by
    have:=Xf.row x (by simp [hx]);rwa [eM x (Xf.apart.1 x hx).1 (Xf.apart.1 x hx).2] at this
   have hM:0 < M/\M<=2^800:=by
    have hx:us[ii]'()∈us:=aK _;have:=eM _ (Xf.apart.1 _ hx).1 (Xf.apart.1 _ hx).2;rw[<- this];exact #[M0 _,M1 _]
   have e1:us[ii]?=some (us[ii]'()):=by simp
   have e2:us[jj]?=some (us[jj]'()):=by simp
   obtain q1|z1|qs1|w1|a1|g1|k1|p1|l1|c1:=(ru _ (av e1)).at;obtain q2|z2|qs2|w2|a2|g2|k2|p2|l2|c2:=(ru _ (av e2)).at;rw[w1] at e1;rw[w2] at e2;generalize eW:9^t*WV=W at *
   have W9:9*W<=2^140:=by rw[<- eW];exact Qb () V1 ()
   have sz9M:∀{x:Rat} {U:Nat},U<=9*W->Fr M U x->iI x:=λhU h=>KA hM.1 hM.2 (ag hU W9) h
   have sz9:∀{x:Rat} {U:Nat} {v:V},U<=9*W->Fr (μ v) U x->iI x:=λhU h=>KA (M0 _) (M1 _) (ag hU W9) h
   exists cH (bR.of gu) (iH e1) ?_;exists cH (bR.of gu) (iH e2) ?_;exists #[_,q2,_,qs2,rfl,nb,D8 (),#[z2,g2,p2],(),λy hy=>sz9M () (c2 y hy),λr1 Hg n1 sg R1=>?_];exists #[q1,r1,qs1,_,rfl,#[z1,sg _ _ g1,Paired.imp' (λ_ _ y=>y.same sg) p1],R1,by rw[aj,l1,l2],(),λy hy=>sz9M () (c1 y hy),λy hy=>?_,λr2 Hh n2' sh R2=>?_]
   ·obtain y'|hy'|rfl:=aE.mp hy;exact An hz (c2 y' hy') hM.1 hM.2 ()
   have sfh:=sg.trans sh
   have new:V.ref r2∉us++vs++ws:=λz=>by
    obtain q'|_|_|e'|_|g'|_:=((Xf.same sg).row _ z).at;cases e';rw[n2'] at g';cases g'
   have Xh:=(Xf.same sfh).weak (C':=λx y=>(x∈ws->Fr (μ x) W y)/\Fr (μ x) (3*W) y) λx _ y h=>#[λ_=>h,h.mono ()]
   have kph:=kpf.same sfh;have guh:=sfh _ _ gu;have ar2:A r2:=(kpf.same sg).new hA (Xf.same sg).bag (by rw[sg _ _ gu];simp) n2'
   have rp2:gK K A Hh n (λy=>(V.ref r2∈ws->Fr (μ (.ref r2)) W y)/\Fr (μ (.ref r2)) (3*W) y) (.ref r2):=by
    rw[eM (.ref r2) (λz=>new (aA.mpr (.inr z))) (λz=>new (aA.mpr (.inl (aA.mpr (.inr z)))))];refine #[r2,_,rfl,ar2,R2,by rw[bD,aj];lia,λy hy=>#[λz=>absurd (aA.mpr (.inr z)) new,?_]];obtain j'|hj'|e:=bE hy;rw[dg,oZ] at e;rw[<- e];exact E4 hz (c1 _ (aK _)) (c2 _ (aK _))
   exists fI guh (fZ ()) rfl ?_;have Xi:=Xh.set MA rp2 new ii;have kpi:=kph.upd (o:=.lst (us.set ii (.ref r2))) (q:=m) (.inr rfl);have nli:bQ K (upd Hh m (.lst (us.set ii (.ref r2)))) ((0 - z:Int):Rat) (.ref lt):=(nl.same sfh).updL guh;have nbi:bQ K (upd Hh m (.lst (us.set ii (.ref r2)))) ((z:Int):Rat) (.ref bt):=(nb.same sfh).updL guh;generalize upd Hh m (.lst (us.set ii (.ref r2)))=Hi at Xi kpi nli nbi ⊢;generalize us.set ii (.ref r2)=um at Xi;clear nb nl Xf kpf gu ru e1 e2 g1 p1 g2 p2 R1 R2 Xh kph guh rp2 sg sh sfh new;have gm:=Xi.gm;have lm:=Xi.lm;have gl:=Xi.gl;have nd:=Xi.nd;obtain nd1|nd2|nd3:=dQ.mp nd;exists kr gm gl (be (bC ())) λcl Hj sj nj gj=>?_
   have kpj:=kpi.same sj
   have rows:∀x∈um++vs,∀q,x=V.ref q->q≠cl:=λx hx q e y=>by
    obtain q'|zs|_|e'|_|g'|_:=(Xi.row x (aA.mpr (.inl hx))).at;rw[e] at e';cases e';rw[y,nj] at g';cases g'
   have Xj:=(Xi.same sj).weak (C':=λx y=>(x∈ws->Fr (μ x) W y)/\(x∈(um++vs).drop 0->Fr (μ x) (3*W) y)/\Fr (μ x) (9*W) y) λx _ y h=>#[h.1,λ_=>h.2,h.2.mono ()]
   have lj:bQ K Hj ((0 - z:Int):Rat) (.ref lt):=nli.same sj;have bj:bQ K Hj ((z:Int):Rat) (.ref bt):=nbi.same sj;clear Xi kpi nli nbi;refine #[_,rfl,#[_,bR.of gj],?_];refine iq (K:=K) (a:=cl) (xs:=um++vs) (λs σ' H'=>∃x6:Option V,σ'=[some (.ref b),some (.ref m),some (.ref p),some (.ref l),some (.int n),some (.int t),some (.int ii),some (.int jj),some (.ref bt),some (.ref lt),x6]/\ke K A H' n (λx y=>(x∈ws->Fr (μ x) W y)/\(x∈(um++vs).drop s->Fr (μ x) (3*W) y)/\Fr (μ x) (9*W) y) m p l b q0 um ws vs/\jh A b m H H'/\H' cl=some (.lst (um++vs))/\bQ K H' ((0 - z:Int):Rat) (.ref lt)/\bQ K H' ((z:Int):Rat) (.ref bt)) #[_,rfl,Xj,kpj,gj,lj,bj] (λs σ' H' _ #[_,_,_,_,e,_]=>bR.of e) ?_ ?_
   ·rintro s x σ' Hk hx ⟨y6,rfl,Xk,kpk,gk,lk,bk⟩;have hs:s < (um++vs).9:=(aM.mp hx).1;have mx:=av hx
    have xd:x∈(um++vs).drop s:=by
     rw[fu hs,(aM.mp hx).2];exact .head _
    have xd2:x∉(um++vs).drop (s+1):=λz=>by
     have:=nd1.sublist (List.drop_sublist s _);rw[fu hs,fk,(aM.mp hx).2] at this;exact this.1 z
    have xw:x∉ws:=λz=>nd3 x mx x z rfl
    have rx:=Xk.row x (aA.mpr (.inl mx));obtain q|zs|qs|rfl|aq|gq|lq|pq|lq2|cq:=rx.at;have qcl:=rows _ mx q rfl;obtain vj|ej|nj':=LX pq (j:=jj) ();obtain vi|ei|ni':=LX pq (j:=ii) ();have cj:=(cq _ (getD_mem (xs:=qs) (i:=jj) ())).2.1 xd;have ci:=(cq _ (getD_mem (xs:=qs) (i:=ii) ())).2.1 xd;exists cH (bR.of gq) ej ?_;exists cH (bR.of gq) ei ?_;exists #[_,_,_,_,rfl,lk,ni',D8 (),sz9 () ci,λr3 Hl sl n3=>?_];exists #[_,_,_,_,rfl,nj'.same sl,n3,sz9 () cj,An () ci (M0 _) (M1 _) (),λr4 Hm sm n4=>?_];have slm:=sl.trans sm;exists fI (slm _ _ gq) (fZ ()) rfl ?_;refine #[_,rfl,?_,(kpk.same slm).upd (.inl aq),by rw[bM qcl.symm];exact slm _ _ gk,(lk.same slm).updL (slm _ _ gq),(bk.same slm).updL (slm _ _ gq)];refine ((Xk.same slm).weak λx' _ y h=>#[h.1,λz=>h.2.1 ?_,h.2.2]).put MA aq (slm _ _ gq) n4 #[λz=>absurd z xw,λz=>absurd z xd2,?_] jj
    ·rw[fu hs];exact .tail _ z
    ·exact (E4 () cj ci).mono ()
   ·rintro σ' Hk ⟨y6,rfl,Xk,kpk,gk,lk,bk⟩;have gp:=Xk.gp;have Xk2:=Xk.weak (C':=λx y=>(x∈ws.drop 0->Fr (μ x) W y)/\Fr (μ x) (9*W) y) λx _ y h=>#[λz=>h.1 (by simpa using z),h.2.2]
    clear Xk;exists #[#[_,bR.of gp],?_];refine iq (K:=K) (a:=p) (xs:=ws) (λs σ' H'=>∃x6:Option V,σ'=[some (.ref b),some (.ref m),some (.ref p),some (.ref l),some (.int n),some (.int t),some (.int ii),some (.int jj),some (.ref bt),some (.ref lt),x6]/\ke K A H' n (λx y=>(x∈ws.drop s->Fr (μ x) W y)/\Fr (μ x) (9*W) y) m p l b q0 um ws vs/\jh A b m H H'/\bQ K H' ((z:Int):Rat) (.ref bt)) #[_,rfl,Xk2,kpk,bk] (λs σ' H' _ #[_,_,X,_]=>bR.of X.gp) ?_ ?_
    ·rintro s x σ' Hl hx ⟨w6,rfl,Xl,kpl,bl⟩;have hs:s < ws.9:=(aM.mp hx).1;have mx:=av hx
     have xd:x∈ws.drop s:=by
      rw[fu hs,(aM.mp hx).2];exact .head _
     have xd2:x∉ws.drop (s+1):=λz=>by
      have:=nd2.sublist (List.drop_sublist s _);rw[fu hs,fk,(aM.mp hx).2] at this;exact this.1 z
     have rx:=Xl.row x (aA.mpr (.inr mx));obtain q|zs|qs|rfl|aq|gq|lq|pq|lq2|cq:=rx.at;obtain vj|ej|nj':=LX pq (j:=jj) ();obtain vi|ei|ni':=LX pq (j:=ii) ();have cj:=(cq _ (getD_mem (xs:=qs) (i:=jj) ())).1 xd;have ci:=(cq _ (getD_mem (xs:=qs) (i:=ii) ())).1 xd;exists cH (bR.of gq) ei ?_;exists cH (bR.of gq) ej ?_;exists #[_,_,_,_,rfl,bl,nj',D8 (),sz9 () cj,λr3 Hm sm n3=>?_];exists #[_,_,_,_,rfl,ni'.same sm,n3,sz9 () ci,An () cj (M0 _) (M1 _) (),λr4 Hn sn n4=>?_];have smn:=sm.trans sn;exists fI (smn _ _ gq) (fZ ()) rfl ?_;refine #[_,rfl,?_,(kpl.same smn).upd (.inl aq),(bl.same smn).updL (smn _ _ gq)];refine ((Xl.same smn).weak λx' _ y h=>#[λz=>h.1 ?_,h.2]).put MA aq (smn _ _ gq) n4 #[λz=>absurd z xd2,?_] ii
     ·rw[fu hs];exact .tail _ z
     ·exact (E4 () ci cj).mono ()
    ·rintro σ' Hl ⟨w6,rfl,Xl,kpl,bl⟩;refine #[_,_,_,_,_,_,um,rfl,Xl.weak λ_ _ y h=>h.2.mono ?_,kpl];rw[<- eW,eP,bY (9^t) 9,cu];exact ao _
  ·rintro σ' H' ⟨x1,x2,x3,x4,x5,x6,us',rfl,X,kp⟩;exists bU λr H2' s' g'=>?_
   exact done r us' H2' _ () g' (X.same s') (kp.same s')
theorem dP:ba ["_law_bag_here","_law_one","_law_other","_law_ahead","_law_behind","_law_found","_law_k"] ["_law_bag_here"] (aN kj):=by walk_at "d"
theorem vO (T:Txt K mg Z) (ptree:P.given.tree=none):cB P w K mg base fL 5 Z.oS Z.oN ["_law_bag_here"] (Pa K):=by
 have mZ:=vQ (P:=P) (w:=w) (base:=base) T ptree;have aO:=dn (P:=P) (w:=w) (base:=base) T ptree;have qJ:=t8 (P:=P) (w:=w) (base:=base) T ptree;refine T.jY.F.ok dP (λvs H Q E h=>?_) (λcdv A outer s H vs Q E hr h=>?_)
 ·obtain b|rfl|_:=h;rfl
 ·obtain b|rfl|hB|k:=h
  refine #[_,(ar (aW (i:=1) dP.nd rfl (Or.inl rfl) (cy mZ hr T.j3 (aa (pv 0) (aa ak ai))))
   (ar (aW (i:=2) dP.nd rfl (Or.inl rfl) (cy mZ hr T.j3 (aa (pv 0) (aa (bJ eJ ak (cy aO hr T.aR (aa (pv 0) (aa ak ai)))) ai))))
   (ar (aW (i:=3) dP.nd rfl (Or.inr rfl) (bJ Nv (du (aa (cI (aa ak (aa ak ai))) ai)) ak))
   (ar (aW (i:=4) dP.nd rfl (Or.inr rfl) (bJ Nv (du (aa (cI (aa ak (aa ak ai))) ai)) (bB bf (by rfl) T.len aZ (aa (aX bu (pv 2) ak) ai))))
   (ar (aW (i:=5) dP.nd rfl (Or.inl rfl) (du ai))
   (ar (dY PassesOwn.never rfl (cz rfl T.range (aa ak ai)) (aU (i:=6) dP.nd)
    (az (ie (tV cS c4 cZ ja (pv 5) (aa (bJ jS (b9 ["_law_row_here"] ["_law_behind"] [4] (cE (aX bu (pv 1) (pv 6))) (λ_=>(aU (i:=0) (show ND9 ["_law_row_here","_law_behind"] by decide +kernel))) (λ_=>cw) (λ_=>(bJ jS (pv 0) (pv 1)))) (b9 ["_law_row_here"] ["_law_ahead"] [3] (cE (aX bu (pv 2) (pv 6))) (λ_=>(aU (i:=0) (show ND9 ["_law_row_here","_law_ahead"] by decide +kernel))) (λ_=>cw) (λ_=>(bJ jS (pv 1) (pv 0))))) ai)))))
   (az (aV (cy qJ hr T.kL (aa (pv 0) (aa (aX bT (pv 5) ak) (aa (aX bT (pv 5) ak) (aa (aX bT (pv 5) ak) ai))))))))))))),?_]
  refine aT (σ:=[some (.ref b),none,none,none,none,none,none]) rfl ?_;obtain q0|I0|xq|gq0:=hB.inner;exists #[b,3,rfl,hB,(),(),λr1 mv1 pt1 lk1 H1 P1 lm1 lp1 ll1 D1 fm1 fp1 fl1 B1 u1=>?_];exists #[b,3,rfl,B1,(),(),λv H2 v0 v1 B2 u2=>?_];obtain v|rfl:=b8 v0;have u02:=u1.trans u2;walk_at "w";rw[show ((3:Int)+(v:Int))=((3+v:Nat):Int) by lia];refine #[b,3+v,rfl,B2,(),(),λr2 mv2 pt2 lk2 H3 P2 lm2 lp2 ll2 D2 fm2 fp2 fl2 B3 u3=>?_];have u03:=u02.trans u3;have P1c:=(P1.upto (u2.trans u3) B1 hB.at);have P2c:eT K H H3 r2 mv2 pt2 lk2:=P2.weak λq h=>u02.none B2 h
  exists bU λt0 H4 s4 g4=>?_
  exists cU λa1 H5 s5 n5 g5=>?_
  exists M8 (k:=3) g5 () λah H6 s6 n6 g6=>?_
  have s36:=(s4.trans s5).trans s6;obtain m1|p1|l1|gt1|m1n|p1n|l1n|Gm1|Gp1|Gl1:=P1c.same s36;obtain m2|p2|l2|gt2|m2n|p2n|l2n|Gm2|Gp2|Gl2:=P2c.same s36;have N0:bQ K H6 0 (V.ref t0):=bQ.mk (q:=0) ((s5.trans s6) _ _ g4) rfl;exists bU λt1 H7 s7 g7=>?_
  exists cU λa2 H8 s8 n8' g8=>?_
  have s68:=s7.trans s8;have gt2':=s68 _ _ gt2;obtain um2|gm2|qm2|_:=id (Gm2.same s68);have lum2:=qm2.9;exists #[_,_,rfl,.inl (bR.of gm2),?_];rw[<- lum2,lm2];exists M8 (k:=3+v) g8 () λbh H9 s9 n9 g9=>?_
  have s69:=s68.trans s9;have s39:=s36.trans s69;have N1:bQ K H9 0 (V.ref t1):=bQ.mk (q:=0) ((s8.trans s9) _ _ g7) rfl;have u09:=u03.same s39;have B9:=B3.same s39;have g6':=s69 _ _ g6;have N0':=N0.same s69;exists cU λfd H10 s10 n10 g10=>?_
  have X1:∀i:Nat,i < 3->∃q1 R1 q2 R2,[V.ref m1,V.ref p1,V.ref l1][i]?=some (V.ref q1)/\bL K H H9 q1 R1/\(∀xs∈R1,xs.9=3/\∀y∈xs,Fr 1 1 y)/\[V.ref m2,V.ref p2,V.ref l2][i]?=some (V.ref q2)/\bL K H H9 q2 R2/\(∀xs∈R2,xs.9=3+v/\∀y∈xs,Fr 1 1 y)/\R1.9<=100/\R2.length<=100/\[6+v,2,2][i]?=some (R1.9+R2.length):=λi hi=>by
   rcases (show i=0\/i=1\/i=2 by lia) with rfl | rfl | rfl
   ·exact #[m1,mv1,m2,mv2,rfl,Gm1.same s69,λxs hx=>#[by rw[D1.mw xs hx,lm1],fm1 xs hx],rfl,Gm2.same s69,λxs hx=>#[by rw[D2.mw xs hx,lm2],fm2 xs hx],(),(),by rw[lm1,lm2,show 3+(3+v)=6+v by lia];rfl]
   ·exact #[p1,pt1,p2,pt2,rfl,Gp1.same s69,λxs hx=>#[by rw[D1.pw xs hx,lm1],fp1 xs hx],rfl,Gp2.same s69,λxs hx=>#[by rw[D2.pw xs hx,lm2],fp2 xs hx],(),(),by rw[lp1,lp2];rfl]
   ·exact #[l1,lk1,l2,lk2,rfl,Gl1.same s69,λxs hx=>#[by rw[D1.lw xs hx,lm1],fl1 xs hx],rfl,Gl2.same s69,λxs hx=>#[by rw[D2.lw xs hx,lm2],fl2 xs hx],(),(),by rw[ll1,ll2];rfl]
  exists #[(),(),?_];refine d9 (n:=3) (λi σ' H'=>aH H9 H'/\∃x6 L,σ'=[some (.ref b),some (.ref r1),some (.ref r2),some (.ref ah),some (.ref bh),some (.ref fd),x6]/\U2 K H9 H' (6+v) fd L/\L.9=i/\∀(j:Nat) (e:Addr×List V),L[j]?=some e->[6+v,2,2][j]?=some e.2.9) #[s10,none,[],rfl,#[g10,n10,(λ_ z=>nomatch z),nG,(λ_ z=>nomatch z),nG],rfl,λj e h=>by simp at h] ?_ ?_
  ·rintro i σ' H' hi ⟨s',x6,L,rfl,T,lL,hL⟩;obtain q1|R1|q2|R2|e1|G1|w1|e2|G2|w2|b1|b2|hlen:=X1 i hi;have gt1':=s' _ _ (s69 _ _ gt1);have gt2'':=s' _ _ (s69 _ _ gt2);obtain ux1|gx1|qx1|_:=id (G1.same s');have gb:=s' _ _ g9;have ga:=s' _ _ g6';exists #[.inl #[rfl,_,bR.of T.gf],?_];exists IV (jB.of gt1') (iH e1) ?_;exists #[#[_,bR.of gx1],?_];refine DI (K:=K) (F:=dB K H) (λH'' c x=>∃q,x=V.ref q/\bV K H'' q c) (λr=>r++List.replicate (3+v) 0) gx1 qx1 () (λa b=>a.same b) (λa b=>by obtain q|e|r:=a;exact #[q,e,r.same b]) (λa=>by obtain q|e|_|gg|_:=a;exact #[q,e,by rw[gg];exact λz=>nomatch z]) ?_ ?_
   ·rintro j ns x Hi NY NN en si ⟨q,rfl,_,zs,gz,qz⟩ k1;have ws:=(w1 ns (av en)).1;have lz:=qz.9;exists kr gz (si _ _ gb) (be (bC (by rw[aQ];lia))) λc Hj sj nj gj=>?_
    exact k1 _ _ sj #[c,rfl,_,gj,bX (Paired.imp' (λ_ _ z=>z.same sj) qz) (va (((N1.same s').same si).same sj) _)] #[c,rfl,nj]
   rintro ys1 Ha c1 hc1 sa ga1 nd1 ne1 pr1;obtain ux2|gx2|qx2|_:=id ((G2.same s').same sa);have gt2a:=sa _ _ gt2'';exists IV (jB.of gt2a) (iH e2) ?_;exists #[#[_,bR.of gx2],?_];refine DI (K:=K) (F:=dB K H) (λH'' c x=>∃q,x=V.ref q/\bV K H'' q c) (λr=>List.replicate 3 0++r) gx2 qx2 () (λa b=>a.same b) (λa b=>by obtain q|e|r:=a;exact #[q,e,r.same b]) (λa=>by obtain q|e|_|gg|_:=a;exact #[q,e,by rw[gg];exact λz=>nomatch z]) ?_ ?_
   ·rintro j ns x Hi NY NN en si ⟨q,rfl,_,zs,gz,qz⟩ k1;have ws:=(w2 ns (av en)).1;have lz:=qz.9;exists kr ((sa.trans si) _ _ ga) gz (be (bC (by rw[aQ];lia))) λc Hj sj nj gj=>?_
    exact k1 _ _ sj #[c,rfl,_,gj,bX (va ((((N0'.same s').same sa).same si).same sj) _) (Paired.imp' (λ_ _ z=>z.same sj) qz)] #[c,rfl,nj]
   rintro ys2 Hb c2 hc2 sb gb2 nd2 ne2 pr2;have sab:=sa.trans sb;have ly1:=pr1.9;have ly2:=pr2.9;rw[aj] at ly1 ly2;exists kr (sb _ _ ga1) gb2 (be (bC ())) λqn Hc sc nc gc=>?_
   have sac:=sab.trans sc;have gfc:=sac _ _ T.gf;exists iw gfc (bC (by rw[aj];lia)) ?_
   have rP:∀{c:List Rat} {x:V},(∃q,x=V.ref q/\bV K Hb q c)->(∃q,x=V.ref q/\H' q=none)->c.9=6+v->(∀y∈c,Fr 1 1 y)->gK K (λz=>H' z=none/\z≠qn) Hc (6+v) (Fr 1 1) x:=λ#[q,e,r] #[q',e',nq] hl hf=>by
    rw[e] at e';cases e';exact #[q,_,e,#[nq,λz=>by obtain _|gg|_:=r;rw[z,nc] at gg;cases gg],r.same sc,hl,hf]
   refine #[(s'.trans sac).after n10,some (.int i),L++[(qn,ys1++ys2)],rfl,T.snoc s' sac (sab.none nc) gc ?_ (λx hx=>?_),by rw[aw,bI,lL],λj e he=>?_]
   ·refine dQ.mpr #[nd1,nd2,λx hx y hy z=>?_];obtain _|_|q|e|_|gg|_:=cX pr1 hx;obtain q'|e'|nq|_:=ne2 y hy;rw[<- z,e] at e';cases e';rw[nq] at gg;cases gg
   ·rcases aA.mp hx with hx | hx
    ·obtain c|mc|q|e|r:=cX pr1 hx;obtain ns|mn|rfl:=aE.mp mc;obtain q'|e'|nq|_:=ne1 x hx;refine rP #[q,e,r.same sb] #[q',e',nq] (by rw[aw,aQ,(w1 ns mn).1];lia) λy hy=>?_
     rcases aA.mp hy with hy | hy
     ·exact (w1 ns mn).2 y hy
     ·rw[(fB.mp hy).2];exact Fr.zero
    ·obtain c|mc|q|e|r:=cX pr2 hx;obtain ns|mn|rfl:=aE.mp mc;obtain q'|e'|nq|_:=ne2 x hx;refine rP #[q,e,r] #[q',e',sa.none nq] (by rw[aw,aQ,(w2 ns mn).1];lia) λy hy=>?_
     rcases aA.mp hy with hy | hy
     ·rw[(fB.mp hy).2];exact Fr.zero
     ·exact (w2 ns mn).2 y hy
   ·rcases cR j L.9 with z | z
    ·rw[bG z] at he;exact hL j e he
    ·have hj:=(aM.mp he).1;rw[aw,bI] at hj;have ej:j=L.9:=()
     subst ej;rw[bp (ao _),fM] at he;cases he;rw[lL,hlen,aw,ly1,ly2]
  ·rintro σ' H' ⟨s',x6,L,rfl,T,lL,hL⟩
   obtain ⟨⟨m,us⟩,⟨p,ws⟩,⟨l,vs⟩,rfl⟩:∃a b c,L=[a,b,c]:=by
    rcases L with _ | ⟨a,_ | ⟨b,_ | ⟨c,_ | ⟨d,L⟩⟩⟩⟩
    ·cases lL
    ·cases lL
    ·cases lL
    ·exact #[a,b,c,rfl]
    ·simp at lL
   have lu:us.9=6+v:=by have:=hL 0 _ rfl;simpa using this.symm
   have lw:ws.9=2:=by have:=hL 1 _ rfl;simpa using this.symm
   have lv:vs.9=2:=by have:=hL 2 _ rfl;simpa using this.symm
   have gf:=T.gf;obtain mn|mf|gm:=T.ls (m,us) (by simp);obtain pn|pf|gp:=T.ls (p,ws) (by simp);obtain ln|lf|gl:=T.ls (l,vs) (by simp);have nd:=T.nd;have rw':=T.rows;have rd:=T.rd;clear T hL;have gf:H' fd=some (.lst [.ref m,.ref p,.ref l]):=gf;have nd:[m,p,l].Nodup:=nd;have rd:(us++(ws++(vs++[]))).Nodup:=rd;have u0':=u09.same s';have B':=B9.same s';have hm0:H m=none:=u09.none B9 mn;have hp0:H p=none:=u09.none B9 pn;have hl0:H l=none:=u09.none B9 ln;obtain ⟨A,eA⟩:∃A:Addr->Prop,A=λq=>H q=none/\q≠m/\q≠p/\q≠l:=#[_,rfl]
   have mkA:∀{q},H q=none->q≠m->q≠p->q≠l->A q:=λh1 h2 h3 h4=>by rw[eA];exact #[h1,h2,h3,h4]
   have unA:∀{q},A q->H q=none/\q≠m/\q≠p/\q≠l:=λh=>by rw[eA] at h;exact h
   have nb:∀{q},H q=none->q≠b:=λh z=>hB.at (by rw[<- z];exact h)
   have MA:Ib A m p l b q0:=#[λz=>(unA z).2.1 rfl,λz=>(unA z).2.2.1 rfl,λz=>(unA z).2.2.2 rfl,λz=>hB.at (unA z).1,(λz=>by have z1:=(unA z).1;rw[gq0] at z1;cases z1),nb hm0,nb hp0,nb hl0,by intro z;subst z;simp at nd,by intro z;subst z;simp at nd,λz=>by rw[<- z,hm0] at gq0;cases gq0];have X:ke K A H' (6+v) (λ_=>Fr 1 1) m p l b q0 us ws vs:=#[B',u0'.2 _ I0,gm,gp,gl,lu,λx hx=>?_,?_]
   ·exists #[b,m,p,l,q0,6+v,1,λ_=>1,A,us,ws,vs,rfl,MA,X,(),(),(),λ_=>Nat.zero_lt_one,λ_=>dh,#[1,λ_ _ _=>rfl],(),λq hq=>?_,λr us' H'' g Y kp=>?_]
    ·exact mkA (u0'.none B' hq) (λz=>by rw[z,gm] at hq;cases hq) (λz=>by rw[z,gp] at hq;cases hq) (λz=>by rw[z,gl] at hq;cases hq)
    ·obtain mv|Gm|lmv|hmv:=kG (H0:=H) (n:=6+v) (C:=Fr 1 (9^3*1)) (m:=6+v) #[us',Y.gm,Y.lm,MA.am,λx hx=>Y.row x (by simp [hx])] λq h=>(unA h).1
     obtain pt|Gp|lpt|hpt:=kG (H0:=H) (n:=6+v) (C:=Fr 1 (9^3*1)) (m:=2) #[ws,Y.gp,lw,MA.ap,λx hx=>Y.row x (by simp [hx])] λq h=>(unA h).1
     obtain lk|Gl|llk|hlk:=kG (H0:=H) (n:=6+v) (C:=Fr 1 (9^3*1)) (m:=2) #[vs,Y.gl,lv,MA.al,λx hx=>Y.row x (by simp [hx])] λq h=>(unA h).1
     refine k r mv pt lk H'' #[m,p,l,g,hm0,hp0,hl0,Gm,Gp,Gl] () #[(),(),(),λxs hx=>by rw[(hmv xs hx).1,lmv],λxs hx=>by rw[(hpt xs hx).1,lmv],λxs hx=>by rw[(hlk xs hx).1,lmv]] (λxs hx=>(hmv xs hx).2) (λxs hx=>(hpt xs hx).2) (λxs hx=>(hlk xs hx).2) Y.bag #[λc' u e n1=>kp c' u (u0'.1 _ _ e n1) n1 (λz=>by have:=(unA z).1;rw[e] at this;cases this) (λz=>by rw[z,hm0] at e;cases e),λq h=>by rw[<- Inner.inj I0 h];exact Y.inn]
   ·have hx:∃e∈[(m,us),(p,ws),(l,vs)],x∈e.2:=by
     rcases aA.mp hx with hx | hx
     ·rcases aA.mp hx with hx | hx
      ·exact #[(m,us),by simp,hx]
      ·exact #[(l,vs),by simp,hx]
     ·exact #[(p,ws),by simp,hx]
    obtain e|he|hx:=hx;refine (rw' e he x hx).weak (λq hq=>?_) (λ_ w=>w);obtain ⟨h1,_⟩|h2:=hq;have h2:q∉[m,p,l]:=h2;simp only[aG,aP,or_false,not_or] at h2;exact mkA (u09.none B9 h1) h2.1 h2.2.1 h2.2.2
   ·rw[lU] at rd
    have e:(us++vs++ws).Perm (us++(ws++vs)):=by
     rw[cF];exact List.Perm.append_left _ List.perm_append_comm
    exact e.nodup_iff.mpr rd
theorem rB:ba ["_law_bag_here","_law_wide","_law_way"] ["_law_bag_here","_law_wide"] (aN nU):=by walk_at "d"
theorem sv (T:Txt K mg Z) (ptree:P.given.tree=none):cB P w K mg base fL 2 Z.uE Z.uq ["_law_bag_here","_law_wide"] (Av K):=by
 have aO:=dn (P:=P) (w:=w) (base:=base) T ptree;have eX:=jD (P:=P) (w:=w) (base:=base) T ptree;refine T.jZ.F.ok rB (λvs H Q E h=>?_) (λcdv A outer s H vs Q E hr h=>?_)
 ·obtain b|w|rfl|_:=h;rfl
 ·obtain b|w|rfl|hB|w0|w1|k:=h
  refine #[_,(ar (aW (i:=2) rB.nd rfl (Or.inl rfl) (cy aO hr T.aR (aa (pv 0) (aa ak ai))))
   (ar (cD (br rZ (pv 2) ak (bw _)) (az (aV (cI (aa ak (aa ak ai))))) bK)
   (ar (cD (br rZ (pv 2) ak (bw _)) (az (aV (cI (aa (bJ kB (cy aO hr T.aR (aa (pv 0) (aa ak ai))) ak) (aa ak ai))))) bK)
   (ar (cD (br dS (pv 2) ak (bw _)) (az (aV (cy eX hr T.fX (aa (bJ kB (cy aO hr T.aR (aa (pv 0) (aa ak ai))) ak) (aa (bJ eJ ak (cy aO hr T.aR (aa (pv 0) (aa ak ai)))) ai))))) bK)
   (az (aV (cy eX hr T.fX (aa (bJ kB (cy aO hr T.aR (aa (pv 0) (aa (bJ eJ (bJ c5 ak (pv 1)) ak) ai))) (pv 1)) (aa (bJ eJ ak (cy aO hr T.aR (aa (pv 0) (aa (pv 1) ai)))) ai))))))))),?_]
  refine aT (σ:=[some (.ref b),some (.int w),none]) rfl ?_;exists #[b,8,rfl,hB,(),(),λv H1 v0 v1 B1 u1=>?_];exists gY (λh0=>?_) (λh0=>?_)
  ·exists bU λr H2 s2 g2=>?_
   exact k r 0 _ #[bg _,by show 1<=_;lia] (bQ.mk g2 rfl) (B1.same s2) (u1.same s2)
  exists gY (λh1=>?_) (λh1=>?_)
  ·exists #[b,7,rfl,B1,(),(),λa H2 a0 a1 B2 u2=>?_];exists bU λr H3 s3 g3=>?_
   exact k r ((a - 3:Int):Rat) _ #[by show (a - 3).natAbs<=_;lia,by show 1<=_;lia] (bQ.mk g3 rfl) (B2.same s3) ((u1.trans u2).same s3)
  exists gY (λh2=>?_) (λh2=>?_)
  ·exists #[b,13,rfl,B1,(),(),λa H2 a0 a1 B2 u2=>?_];exists #[b,6,rfl,B2,(),(),λc H3 c0 c1 B3 u3=>?_];exists #[_,_,rfl,(),(IH ()).mono (),λr H4 s4 g4=>?_];obtain q|e|d|_:=Jp (t:=a - 6) (b:=1+c) (W:=max w 6) () () ();exact k r q _ d (bQ.mk g4 e) (B3.same s4) (((u1.trans u2).trans u3).same s4)
  exists #[b,_,rfl,B1,(),(),λa H2 a0 a1 B2 u2=>?_];exists #[b,_,rfl,B2,(),(),λc H3 c0 c1 B3 u3=>?_];exists #[_,_,rfl,(),(IH ()).mono (),λr H4 s4 g4=>?_];obtain q|e|d|_:=Jp (t:=a - w) (b:=1+c) (W:=max w 6) () () ();exact k r q _ d (bQ.mk g4 e) (B3.same s4) (((u1.trans u2).trans u3).same s4)
theorem Gf:ba ["_law_bag_here","_law_many","_law_wide"] ["_law_bag_here","_law_many","_law_wide"] (aN uS):=by walk_at "d"
theorem kU (T:Txt K mg Z) (ptree:P.given.tree=none):cB P w K mg base fL 3 Z.BS Z.BH ["_law_bag_here","_law_many","_law_wide"] (F6 K):=by
 have oA:=sv (P:=P) (w:=w) (base:=base) T ptree;refine T.hJ.F.ok Gf (λvs H Q E h=>?_) (λcdv A outer s H vs Q E hr h=>?_)
 ·obtain b|m|w|rfl|_:=h;rfl
 ·obtain b|m|w|rfl|hB|hm|w0|w1|k:=h;refine #[_,(az (aV (b9 ["_law_k"] ["_law_bag_here","_law_wide"] [0,2] (cz rfl T.range (aa (pv 1) ai)) (λ_=>(aU (i:=0) (show ND9 ["_law_k","_law_bag_here","_law_wide"] by decide +kernel))) (λ_=>cw) (λ_=>(cy oA hr T.jZ (aa (pv 1) (aa (pv 2) ai))))))),?_];refine aT (σ:=[some (.ref b),some (.int m),some (.int w)]) rfl ?_;exists #[(),(),?_];refine yo (n:=m) (bQ K) (Dr (max w 6)) hB hm (λa u B=>a.upto u B) ?_ ?_
  ·rintro i H' NY NN hi u B k1;exists #[b,w,rfl,B,w0,w1,λr x H2 hx h2 B2 u2=>k1 _ x _ u2 B2 hx h2]
  ·rintro ys cs H' p hp u B g lc hc pr nx;exact k p cs H' hp #[ys,g,pr] lc hc B u
theorem jN:ba ["_law_bag_here","_law_n","_law_way","_law_first","_law_wide","_law_move_here","_law_i","_law_row_here","_law_j"] ["_law_bag_here","_law_n","_law_way","_law_first","_law_wide"] (aN rR):=by walk_at "d"
theorem EL (T:Txt K mg Z) (ptree:P.given.tree=none):cB P w K mg base fL 4 Z.zy Z.yV ["_law_bag_here","_law_n","_law_way","_law_first","_law_wide"] (FY K):=by
 have gI:=kU (P:=P) (w:=w) (base:=base) T ptree;have aO:=dn (P:=P) (w:=w) (base:=base) T ptree;refine T.p9.F.ok jN (λvs H Q E h=>?_) (λcdv A outer s H vs Q E hr h=>?_)
 ·obtain b|n|w|way|first|rfl|_:=h;rfl
 ·obtain b|n|w|way|first|rfl|hB|n8|w0|w1|k:=h
  refine #[_,(ar (aW (i:=5) jN.nd rfl (Or.inl rfl) (du ai))
   (ar (dY PassesOwn.never rfl (cz rfl T.range (aa (pv 1) ai)) (aU (i:=6) jN.nd)
    (ar (aW (i:=7) jN.nd rfl (Or.inl rfl) (cy gI hr T.hJ (aa (pv 0) (aa (pv 1) (aa (pv 4) ai)))))
   (ar (dY PassesOwn.never rfl (cz rfl T.range (aa (pv 1) ai)) (aU (i:=8) jN.nd)
    (fA (cD (PW.pt (jx (br dS (pv 2) ak (bw _)) (jP (br oI (cy aO hr T.aR (aa (pv 0) (aa ak ai))) ak (bw _))))) (az (gv (cI (aa ak (aa ak ai))) (iB (pv 7) (pv 8) set_list))) bK)
   (fA (cD (PW.pt (jx (br dS (pv 2) ak (bw _)) (jP (br rZ (bJ eJ (pv 6) ak) (pv 1) (bw _))))) (az (gv (cI (aa (dN lZ (by rfl) T.int PyProof.Rows.boot_int (aa (iG dS (pv 8) (bJ eJ (pv 6) ak) (bw _)) ai)) (aa ak ai))) (iB (pv 7) (pv 8) set_list))) bK)
   (fA (cD (PW.pt (lE (PW.pt (jx (br dS (pv 2) ak (bw _)) (jx (br Ds (pv 6) (pv 3) (bw _)) (jP (br rZ (pv 8) (pv 3) (bw _)))))) (jw (PW.pt (jx (br dS (pv 2) ak (bw _)) (jx (br rZ (pv 6) (pv 3) (bw _)) (jP (br Ds (pv 8) (pv 3) (bw _))))))))) (az (gv (cI (aa ak (aa ak ai))) (iB (pv 7) (pv 8) set_list))) bK)
   (az (cD (br dS (pv 2) ak (bw _)) (az (gv (cI (aa (bJ c5 (aX bT (du (aa ak (aa ak (aa (tU nH ak) (aa ak ai))))) (bJ nX (pv 3) ak)) (dN lZ (by rfl) T.int PyProof.Rows.boot_int (aa (iG dS (pv 6) (pv 8) (bw _)) ai))) (aa ak ai))) (iB (pv 7) (pv 8) set_list))) bK))))))
   (az (ie (tV cS c4 cZ ja (pv 5) (aa (pv 7) ai)))))))
   (az (aV (pv 5))))),?_]
  refine aT (σ:=[some (.ref b),some (.int n),some (.int way),some (.int first),some (.int w),none,none,none,none]) rfl ?_;have W1:1<=max w 6:=()
  exists cU λr H1 s1 n1 g1=>?_
  have rb:r≠b:=λz=>hB.at (by rw[<- z];exact n1)
  obtain q0|I0|xs0|gq0:=hB.inner;have I1:Inner H1 b q0:=(s1.upto (p:=b)).2 _ I0;obtain ⟨A,eA⟩:∃A:Addr->Prop,A=λq=>H q=none/\q≠r:=#[_,rfl]
  have nb:¬A b:=by rw[eA];exact λz=>hB.at z.1
  have nr:¬A r:=by rw[eA];exact λz=>z.2 rfl
  have nq:¬A q0:=by rw[eA];exact λz=>by have z1:=z.1;rw[gq0] at z1;cases z1
  have rq:r≠q0:=λz=>by rw[<- z,n1] at gq0;cases gq0
  exists #[(),(),?_];refine d9 (n:=n) (λi σ' H'=>∃(x1 x2 x3:Option V) (us:List V),σ'=[some (.ref b),some (.int n),some (.int way),some (.int first),some (.int w),some (.ref r),x1,x2,x3]/\H' r=some (.lst us)/\us.9=i/\us.Nodup/\(∀x∈us,gK K A H' n (Dr (max w 6)) x)/\gV H' b/\Inner H' b q0/\cP b H H') #[none,none,none,[],rfl,g1,rfl,nG,(λ_ z=>nomatch z),hB.same s1,I1,s1.upto] ?_ ?_
  ·rintro i σ' H' hi ⟨x1,x2,x3,us,rfl,gu,lu,nd,ru,B',I',u'⟩;exists #[b,n,w,rfl,B',(),w0,w1,λp xs Ha np Ra la da Ba ua=>?_];have hp0:H p=none:=u'.none B' np
   have pn:V.ref p∉us:=λz=>by
    obtain q'|_|_|e'|_|g'|_:=(ru _ z).at;cases e';rw[np] at g';cases g'
   have ap':H p=none/\p≠r:=#[hp0,λz=>by rw[z,gu] at np;cases np];have ap:A p:=by rw[eA];exact ap'
   have X0:K8 K A n (Dr (max w 6)) r p b q0 us H Ha:=#[ua.other rb gu,λx hx=>(ru x hx).upto ua B' nb,#[p,xs,rfl,ap,Ra,la,da],Ba,ua.2 _ I',u'.trans ua];clear ru Ra gu;exists #[(),(),?_];refine d9 (n:=n) (λj σ' H'=>(∃x3,σ'=[some (.ref b),some (.int n),some (.int way),some (.int first),some (.int w),some (.ref r),some (.int i),some (.ref p),x3])/\K8 K A n (Dr (max w 6)) r p b q0 us H H') #[#[_,rfl],X0] ?_ ?_
   ·rintro j σ' Hj hj ⟨⟨x3,rfl⟩,X⟩;exists #[λσ' H'=>σ'=[some (.ref b),some (.int n),some (.int way),some (.int first),some (.int w),some (.ref r),some (.int i),some (.ref p),some (.int j)]/\K8 K A n (Dr (max w 6)) r p b q0 us H H',?_,?_]
    ·exists gY (λ_=>?_) (λ_=>?_)
     ·exists #[b,3,rfl,X.bag,(),(),λd Hd d0 d1 Bd ud=>?_];replace X:=X.upto ud Bd nb rb
      repeat' (first | walk_at "rd" | refine gY (λ_=>?_) (λ_=>?_))
      all_goals first
       | exact ⟨rfl,X⟩
       | (refine bU λt Hb sb gb=>?_;walk_at "w";obtain zs|gz|lz|Xz:=(X.same sb).put ap nr nb nq hp0 (bQ.mk (q:=0) gb rfl) (sP (i:=0) (bg _) W1) j;refine fI gz (fZ ()) rfl ?_;exact #[rfl,Xz])
     ·exists #[rfl,X]
    clear X;rintro σ' Hj ⟨rfl,X⟩;refine #[λσ' H'=>σ'=[some (.ref b),some (.int n),some (.int way),some (.int first),some (.int w),some (.ref r),some (.int i),some (.ref p),some (.int j)]/\K8 K A n (Dr (max w 6)) r p b q0 us H H',?_,?_]
    ·repeat' (first | walk_at "rd" | refine gY (λ_=>?_) (λ_=>?_))
     all_goals first
      | exact ⟨rfl,X⟩
      | (refine bU λt Hb sb gb=>?_;walk_at "w";obtain zs|gz|lz|Xz:=(X.same sb).put ap nr nb nq hp0 (bQ.mk (q:=((if decide ((j:Int)=(i:Int)+1)=true then (1:Int) else 0:Int):Rat)) gb rfl) (sP (by split <;> lia) W1) j;refine fI gz (fZ ()) rfl ?_;exact #[rfl,Xz])
    clear X;rintro σ' Hj ⟨rfl,X⟩;refine #[λσ' H'=>σ'=[some (.ref b),some (.int n),some (.int way),some (.int first),some (.int w),some (.ref r),some (.int i),some (.ref p),some (.int j)]/\K8 K A n (Dr (max w 6)) r p b q0 us H H',?_,?_]
    ·repeat' (first | walk_at "rd" | refine gY (λ_=>?_) (λ_=>?_))
     all_goals first
      | exact ⟨rfl,X⟩
      | (refine bU λt Hb sb gb=>?_;walk_at "w";obtain zs|gz|lz|Xz:=(X.same sb).put ap nr nb nq hp0 (bQ.mk (q:=0) gb rfl) (sP (i:=0) (bg _) W1) j;refine fI gz (fZ ()) rfl ?_;exact #[rfl,Xz])
    clear X;rintro σ' Hj ⟨rfl,X⟩;exists gY (λ_=>?_) (λ_=>?_)
    ·exists cU λl0 Hc sc nc gc=>?_
     walk_at "w";obtain x|ex|mx|_:=ir (xs:=[V.int 2,V.int 1,V.int (-1),V.int 0]) (i:=first % 4) (lV _ ()) (by have:=ju first (show (0:Int) < 4 by decide);simpa using this)
     obtain ⟨z,rfl,hz⟩:∃z:Int,x=.int z/\z.natAbs<=2:=by
      simp only[aG,aP,or_false] at mx;rcases mx with rfl | rfl | rfl | rfl
      ·exact #[2,rfl,()]
      ·exact #[1,rfl,()]
      ·exact #[-1,rfl,()]
      ·exact #[0,rfl,()]
     refine cH (bR.of gc) ex ?_;exists fU (KU () ()) ?_;exists bU λt Hb sb gb=>?_
     walk_at "w";obtain zs|gz|lz|Xz:=((X.same sc).same sb).put ap nr nb nq hp0 (bQ.mk (q:=((z*(if decide ((i:Int)=(j:Int))=true then (1:Int) else 0):Int):Rat)) gb rfl) (sP (by split <;> lia) W1) j;refine fI gz (fZ ()) rfl ?_;exact #[#[_,rfl],Xz]
    ·exists #[#[_,rfl],X]
   ·rintro σ' Hj ⟨⟨x3,rfl⟩,X⟩;exists #[.inl #[rfl,_,bR.of X.gr],?_];exists iw X.gr (bC ()) ?_;refine #[_,_,_,us++[.ref p],rfl,aL,by simp [lu],pU nd pn,λx hx=>?_,X.bag.upd X.inn rb rq,X.inn.upd rb,X.up.after n1];rcases aA.mp hx with hx | hx
    ·exact (X.ru x hx).other X.gr nr
    ·have e:x=V.ref p:=by simpa using hx
     rw[e];exact X.rp.other X.gr nr
  ·rintro σ' H' ⟨x1,x2,x3,us,rfl,gu,lu,nd,ru,B',I',u'⟩;exists k r us H' n1 gu lu nd (by rw[eA] at ru;exact ru) B' u'
theorem eC:ba ["_law_bag_here","_law_n","_law_ins","_law_outs","_law_wide","_law_way","_law_first","_law_move_here","_law_put","_law_look","_law_k","_law_row_here"] ["_law_bag_here","_law_n","_law_ins","_law_outs","_law_wide"] (aN pF):=by walk_at "d"
theorem CB (T : Txt K mg Z) (ptree : P.given.tree = none) : cB P w K mg base fL 5 Z.xf Z.wH ["_law_bag_here", "_law_n", "_law_ins", "_law_outs", "_law_wide"] (C6 K) := by
  have aO := dn (P := P) (w := w) (base := base) T ptree;have Il := EL (P := P) (w := w) (base := base) T ptree;have gI := kU (P := P) (w := w) (base := base) T ptree;have qJ := t8 (P := P) (w := w) (base := base) T ptree;refine T.oo.F.ok eC (λvs H Q E h => ?_) (λcdv A outer s H vs Q E hr h => ?_)
  · obtain b|n|i|o|w|c|rfl|_:= h;rfl
  · obtain b|n|i|o|w|c|rfl|hB|n8|i4|o4|w0|w1|hc|hc20|hcM|k:= h
    refine #[_, (ar (aW (i := 5) eC.nd rfl (Or.inl rfl) (cy aO hr T.aR (aa (pv 0) (aa ak ai))))
      (ar (aW (i := 6) eC.nd rfl (Or.inl rfl) (cy aO hr T.aR (aa (pv 0) (aa (bJ eJ (pv 1) ak) ai))))
      (ar (aW (i := 7) eC.nd rfl (Or.inl rfl) (cy Il hr T.p9 (aa (pv 0) (aa (pv 1) (aa (pv 5) (aa (pv 6) (aa (pv 4) ai)))))))
      (ar (pN 8 ["_law_k"] ["_law_bag_here", "_law_n", "_law_wide"] [0, 1, 4] eC.nd rfl rfl (cz rfl T.range (aa (pv 2) ai)) (λ_ => (aU (i := 0) (show List.Nodup (α := PySem.Str) ["_law_k", "_law_bag_here", "_law_n", "_law_wide"] by decide +kernel))) (λ_ => cw) (λ_ => (cy gI hr T.hJ (aa (pv 1) (aa (pv 2) (aa (pv 3) ai))))))
      (ar (pN 9 ["_law_k"] ["_law_bag_here", "_law_n", "_law_wide"] [0, 1, 4] eC.nd rfl rfl (cz rfl T.range (aa (pv 3) ai)) (λ_ => (aU (i := 0) (show List.Nodup (α := PySem.Str) ["_law_k", "_law_bag_here", "_law_n", "_law_wide"] by decide +kernel))) (λ_ => cw) (λ_ => (cy gI hr T.hJ (aa (pv 1) (aa (pv 2) (aa (pv 3) ai))))))
      (ar (dY PassesOwn.never rfl (cz rfl T.range (aa (pv 1) ai)) (aU (i := 10) eC.nd)
        (ar (dY PassesOwn.never rfl (cE (pv 8)) (aU (i := 11) eC.nd)
        (az (cD (PW.pt (lE (PW.pt (jx (br dS (pv 5) ak (bw _)) (jP (br Ds (pv 10) (pv 6) (bw _))))) (jw (PW.pt (jx (br dS (pv 5) ak (bw _)) (jx (br rZ (bJ eJ (pv 10) ak) (pv 1) (bw _)) (jP (br dS (cy aO hr T.aR (aa (pv 0) (aa ak ai))) ak (bw _))))))))) (az (gv (cI (aa ak (aa ak ai))) (iB (pv 11) (pv 10) set_list))) bK)))
      (az (dY PassesOwn.never rfl (cE (pv 9)) (aU (i := 11) eC.nd)
        (az (cD (PW.pt (lE (PW.pt (jx (br dS (pv 5) ak (bw _)) (jP (br Ds (pv 10) (pv 6) (bw _))))) (jw (PW.pt (jx (br dS (pv 5) ak (bw _)) (jx (br oI (pv 10) ak (bw _)) (jP (br dS (cy aO hr T.aR (aa (pv 0) (aa ak ai))) ak (bw _))))))))) (az (gv (cI (aa ak (aa ak ai))) (iB (pv 11) (pv 10) set_list))) bK))))))
      (az (aV (cy qJ hr T.kL (aa (pv 0) (aa (pv 7) (aa (pv 8) (aa (pv 9) ai))))))))))))), ?_]
    refine aT (σ := [some (.ref b), some (.int n), some (.int i), some (.int o), some (.int w), none, none, none, none, none, none, none]) rfl ?_;have W1 : 1 ≤ max w 6 := by lia
    obtain q0|I0|xs0|gq0:= hB.inner;exists #[b, 6, rfl, hB, by decide, by decide, λway H1 a0 a1 B1 u1 => ?_];exists #[b, _, rfl, B1, by lia, by lia, λfirst H2 f0 f1 B2 u2 => ?_];have u02 := u1.trans u2;exists #[b, n, w, way, first, rfl, B2, n8, w0, w1, λm us H3 nm0 gm lm ndm rm B3 u3 => ?_];have u03 := u02.trans u3;exists #[(), by lia, ?_];refine DK (n := i) (b := b) (dB K H3) (λxs => xs.9 = n /\ ∀ x ∈ xs, Dr (max w 6) x) B3 () (λa u B => a.upto u B B3.at) (λ#[q, e, _, _, g, _] => #[q, e, by rw [g]; exact λz => nomatch z]) ?_ ?_
    · rintro s H' NY NN hi u B k1;exists #[b, n, w, rfl, B, by lia, w0, w1, λr xs H2 nr R lx dx B2 u2 => k1 _ xs _ u2 B2 #[lx, dx] #[r, rfl, u.none B nr, R] #[r, rfl, nr]]
    rintro ws puts H4 p np u4 B4 gp lp ndp hp Sy nx4;have u04 := u03.trans u4;exists #[(), by lia, ?_];refine DK (n := o) (b := b) (dB K H4) (λxs => xs.9 = n /\ ∀ x ∈ xs, Dr (max w 6) x) B4 () (λa u B => a.upto u B B4.at) (λ#[q, e, _, _, g, _] => #[q, e, by rw [g]; exact λz => nomatch z]) ?_ ?_
    · rintro s H' NY NN hi u B k1;exists #[b, n, w, rfl, B, by lia, w0, w1, λr xs H2 nr R lx dx B2 u2 => k1 _ xs _ u2 B2 #[lx, dx] #[r, rfl, u.none B nr, R] #[r, rfl, nr]]
    rintro vs looks H5 l nl u5 B5 gl ll ndl hl pr5 nx5;have u05 := u04.trans u5;have hm0 : H m = none := u02.none B2 nm0;have hp0 : H p = none := u03.none B3 np;have hl0 : H l = none := u04.none B4 nl;have mb : m ≠ b := λz => B2.at (by rw [<- z]; exact nm0)
    have pb : p ≠ b := λz => B3.at (by rw [<- z]; exact np)
    have lb : l ≠ b := λz => B4.at (by rw [<- z]; exact nl)
    have gm4 := u4.other mb gm;have gm5 := u5.other mb gm4;have gp5 := u5.other pb gp;have mp : m ≠ p := λz => by rw [z, np] at gm; cases gm
    have ml : m ≠ l := λz => by rw [z, nl] at gm4; cases gm4
    have pl : p ≠ l := λz => by rw [z, nl] at gp; cases gp
    have mq : m ≠ q0 := λz => Inner.at B2 (u02.2 _ I0) (by rw [<- z]; exact nm0)
    obtain ⟨A, eA⟩ : ∃ A : Addr → Prop, A = λq => H q = none /\ q ≠ m /\ q ≠ p /\ q ≠ l := #[_, rfl]
    have mkA : ∀ {q}, H q = none → q ≠ m → q ≠ p → q ≠ l → A q := λh1 h2 h3 h4 => by rw [eA]; exact #[h1, h2, h3, h4]
    have unA : ∀ {q}, A q → H q = none /\ q ≠ m /\ q ≠ p /\ q ≠ l := λh => by rw [eA] at h; exact h
    have MA : Ib A m p l b q0 := #[λz => (unA z).2.1 rfl, λz => (unA z).2.2.1 rfl, λz => (unA z).2.2.2 rfl, λz => hB.at (unA z).1, (λz => by have z1 := (unA z).1; rw [gq0] at z1; cases z1), mb, pb, lb, mp, ml, mq];clear eA;have lws : ws.9 = i := by rw [<- Sy.length]; exact lp
    have lvs : vs.9 = o := by rw [<- pr5.9]; exact ll
    have alM : ∀ q, V.ref q ∈ us → H3 q ≠ none /\ q ≠ b /\ H4 q ≠ none := λq hq => by
      obtain q'|qs|e|⟨a1, a2⟩|r|z:= rm _ hq;cases e;have qb : q ≠ b := λy => B2.at (by rw [<- y]; exact a1)
      obtain xq|gq|_:= id r;obtain xq4|gq4|_:= r.upto u4 B3 qb;exact #[(by rw [gq]; exact λz => nomatch z), qb, (by rw [gq4]; exact λz => nomatch z)]
    have alP : ∀ q, V.ref q ∈ ws → H3 q = none /\ H4 q ≠ none := λq hq => by
      obtain _|_|q'|e|a|_|g|_:= cX Sy hq;cases e;exact #[a, by rw [g]; exact λz => nomatch z]
    have alL : ∀ q, V.ref q ∈ vs → H4 q = none := λq hq => by
      obtain _|_|q'|e|a|_:= cX pr5 hq;cases e;exact a
    have isR : ∀ x, x ∈ us \/ x ∈ ws \/ x ∈ vs → ∃ q, x = V.ref q := λx hx => by
      rcases hx with hx | hx | hx
      · obtain q|_|e|_:= rm x hx; exact #[q, e]
      · obtain _|_|q|e|_:= cX Sy hx; exact #[q, e]
      · obtain _|_|q|e|_:= cX pr5 hx; exact #[q, e]
    have nd : (us ++ vs ++ ws).Nodup := by
      refine dQ.mpr #[dQ.mpr #[ndm, ndl, λx hx y hy e => ?_], ndp, λx hx y hy e => ?_]
      · subst e;obtain q|rfl:= isR x (.inl hx);exact (alM q hx).2.2 (alL q hy)
      · subst e;obtain q|rfl:= isR x (.inr (.inl hy));rcases aA.mp hx with hx | hx
        · exact (alM q hx).1 (alP q hy).1
        · exact (alP q hy).2 (alL q hx)
    have X5 : JF K A n (Dr (max w 6)) m p l b q0 us ws vs H H5 := by
      refine #[#[B5, u05.2 _ I0, gm5, gp5, gl, lm, λx hx => ?_, nd], gp5, gl, λc u e n1 _ _ => u05.1 c u e n1];rcases aA.mp hx with hx | hx
      · rcases aA.mp hx with hx | hx
        · obtain q|qs|e|⟨a1, a2⟩|r|z:= rm x hx;obtain xq|gq|_:= id r;have qb : q ≠ b := λy => B2.at (by rw [<- y]; exact a1)
          have r4 := r.upto u4 B3 qb;obtain xq4|gq4|_:= id r4;exact #[q, qs, e, mkA (u02.none B2 a1) a2 (λy => by rw [y, np] at gq; cases gq) (λy => by rw [y, nl] at gq4; cases gq4), r4.upto u5 B4 qb, z]
        · refine M5 (A := A) pr5 hl (λq hq a b' => ?_) x hx;exact mkA (u04.none B4 a) (λy => by rw [y, gm4] at a; cases a) (λy => by rw [y, gp] at a; cases a) (λy => jV nx5 (by rw [<- y]; exact hq))
      · refine gK.upto (M5 (A := A) Sy hp (λq hq a b' => ?_) x hx) u5 B4 MA.ab;exact mkA (u03.none B3 a) (λy => by rw [y, gm] at a; cases a) (λy => jV nx4 (by rw [<- y]; exact hq)) (λy => b' (by rw [y]; exact nl))
    clear alM alP alL isR rm Sy pr5 nx4 nx5 gm gm4 gm5 gp gp5 gl hp hl;exists #[(), by lia, ?_];refine d9 (n := n) (λkk σ' H' => (∃ x1 x2, σ' = [some (.ref b), some (.int n), some (.int i), some (.int o), some (.int w), some (.int way), some (.int first), some (.ref m), some (.ref p), some (.ref l), x1, x2]) /\ JF K A n (Dr (max w 6)) m p l b q0 us ws vs H H') #[#[_, _, rfl], X5] ?_ ?_
    · rintro kk σ' Hj hk ⟨⟨x1, x2, rfl⟩, X⟩;exists #[#[_, bR.of X.gp], ?_];refine iq (K := K) (a := p) (xs := ws) (λs σ' H' => (∃ x2, σ' = [some (.ref b), some (.int n), some (.int i), some (.int o), some (.int w), some (.int way), some (.int first), some (.ref m), some (.ref p), some (.ref l), some (.int kk), x2]) /\ JF K A n (Dr (max w 6)) m p l b q0 us ws vs H H') #[#[_, rfl], X] (λs σ' H' _ #[_, e] => bR.of e.gp) ?_ ?_
      · rintro s x σ' Hk hx ⟨⟨y2, rfl⟩, X⟩;have mx := av hx;obtain q|_|rfl|_:= X.row (.inl mx)
        repeat' (first | walk_at "rd" | refine gY (λ_ => ?_) (λ_ => ?_))
        all_goals first
          | exact ⟨⟨_, rfl⟩, X⟩
          | (refine bU λt Hb sb gb => ?_; walk_at "w"; obtain zs|gz|lz|Xz:= (X.same sb).put MA (.inl mx) (bQ.mk (q := 0) gb rfl) (sP (i := 0) (bg _) W1) kk; refine fI gz (fZ ()) rfl ?_; exact #[#[_, rfl], Xz])
          | (refine ⟨b, 2, rfl, X.mix.bag, by decide, by decide, λd Hd d0 d1 Bd ud => ?_⟩
             replace X := X.upto MA ud Bd
             repeat' (first | walk_at "rd" | refine gY (λ_ => ?_) (λ_ => ?_))
             all_goals first
               | exact ⟨⟨_, rfl⟩, X⟩
               | (refine bU λt Hb sb gb => ?_
                  walk_at "w";obtain zs|gz|lz|Xz:= (X.same sb).put MA (.inl mx) (bQ.mk (q := 0) gb rfl) (sP (i := 0) (bg _) W1) kk;refine fI gz (fZ ()) rfl ?_;exact #[#[_, rfl], Xz]))
      · rintro σ' Hk ⟨⟨y2, rfl⟩, X⟩;exists #[#[_, bR.of X.gl], ?_];refine iq (K := K) (a := l) (xs := vs) (λs σ' H' => (∃ x2, σ' = [some (.ref b), some (.int n), some (.int i), some (.int o), some (.int w), some (.int way), some (.int first), some (.ref m), some (.ref p), some (.ref l), some (.int kk), x2]) /\ JF K A n (Dr (max w 6)) m p l b q0 us ws vs H H') #[#[_, rfl], X] (λs σ' H' _ #[_, e] => bR.of e.gl) ?_ ?_
        · rintro s x σ' Hk hx ⟨⟨y2, rfl⟩, X⟩;have mx := av hx;obtain q|_|rfl|_:= X.row (.inr mx)
          repeat' (first | walk_at "rd" | refine gY (λ_ => ?_) (λ_ => ?_))
          all_goals first
            | exact ⟨⟨_, rfl⟩, X⟩
            | (refine bU λt Hb sb gb => ?_; walk_at "w"; obtain zs|gz|lz|Xz:= (X.same sb).put MA (.inr mx) (bQ.mk (q := 0) gb rfl) (sP (i := 0) (bg _) W1) kk; refine fI gz (fZ ()) rfl ?_; exact #[#[_, rfl], Xz])
            | (refine ⟨b, 2, rfl, X.mix.bag, by decide, by decide, λd Hd d0 d1 Bd ud => ?_⟩
               replace X := X.upto MA ud Bd
               repeat' (first | walk_at "rd" | refine gY (λ_ => ?_) (λ_ => ?_))
               all_goals first
                 | exact ⟨⟨_, rfl⟩, X⟩
                 | (refine bU λt Hb sb gb => ?_
                    walk_at "w";obtain zs|gz|lz|Xz:= (X.same sb).put MA (.inr mx) (bQ.mk (q := 0) gb rfl) (sP (i := 0) (bg _) W1) kk;refine fI gz (fZ ()) rfl ?_;exact #[#[_, rfl], Xz]))
        · rintro σ' Hk ⟨⟨y2, rfl⟩, X⟩;exact #[#[_, _, rfl], X]
    · rintro σ' Hj ⟨⟨x1, x2, rfl⟩, X⟩
      obtain ⟨M1, M2, M3, V0, a1, a2, a3, V2, hcs, R1, R2, R3⟩ : ∃ M1 M2 M3 V0 : Nat, (0 < M1 /\ M1 ≤ 2 ^ 800) /\ (0 < M2 /\ M2 ≤ 2 ^ 800) /\ (0 < M3 /\ M3 ≤ 2 ^ 800) /\ V0 ≤ 2 ^ 20 /\ ((w ≤ 9 /\ M1 = 2520 /\ M2 = 2520 /\ M3 = 2520 /\ V0 = 9) \/ (9 < w /\ M1 ≤ 2 ^ (c * (n * n)) /\ M2 ≤ 2 ^ (c * (i * n)) /\ M3 ≤ 2 ^ (c * (o * n)) /\ V0 = 2 ^ c)) /\ (∀ x ∈ us, gK K A Hj n (Fr M1 V0) x) /\ (∀ x ∈ ws, gK K A Hj n (Fr M2 V0) x) /\ ∀ x ∈ vs, gK K A Hj n (Fr M3 V0) x := by
        by_cases w9 : w ≤ 9
        · have XM := X.mix.weak (C' := λ_ => Fr 2520 9) λ_ _ y h => Jz #[ag h.1 (), ag h.2 ()] (Ah _)
          have z : 0 < 2520 /\ 2520 ≤ 2 ^ 800 := #[(), ag (show 2520 ≤ 2 ^ 12 by decide) (au () ())];exact #[2520, 2520, 2520, 9, z, z, z, by decide, .inl #[w9, rfl, rfl, rfl, rfl], λx hx => XM.row x (by simp [hx]), λx hx => XM.row x (by simp [hx]), λx hx => XM.row x (by simp [hx])]
        · obtain M1|M2|M3|a1|a2|a3|b1|b2|b3|R1|R2|R3:= (X.mix.weak (C' := λ_ => Dr (2 ^ c)) λ_ _ y h => #[ag h.1 hc, ag h.2 hc]).fr3;rw [lws] at b2;rw [lvs] at b3;have up : ∀ {M k : Nat}, M ≤ 2 ^ (c * k) → k ≤ (n + i + o) * n → M ≤ 2 ^ 800 := λh hk => ag h (au () (ag (ax _ hk) hcM))
          exact #[M1, M2, M3, 2 ^ c, #[a1, up b1 (aD _ ())], #[a2, up b2 (aD _ ())], #[a3, up b3 (aD _ ())], au () hc20, .inr #[(), b1, b2, b3, rfl], R1, R2, R3]
      obtain μ|e2|e3|e1|e4:= NF ws vs M1 M2 M3;obtain ap1|ap2:= X.mix.apart
      have XM : ke K A Hj n (λx => Fr (μ x) V0) m p l b q0 us ws vs := by
        refine #[X.mix.bag, X.mix.inn, X.mix.gm, X.mix.gp, X.mix.gl, X.mix.lm, λx hx => ?_, X.mix.nd];rcases aA.mp hx with hx | hx
        · rcases aA.mp hx with hx | hx
          · rw [e1 x (ap1 x hx).1 (ap1 x hx).2]; exact R1 x hx
          · rw [e3 x hx (ap2 x hx)]; exact R3 x hx
        · rw [e2 x hx]; exact R2 x hx
      have p1 : ∀ x, 0 < μ x := λx => by
        rcases e4 x with e | e | e
        · rw [e]; exact a1.1
        · rw [e]; exact a2.1
        · rw [e]; exact a3.1
      have p2 : ∀ x, μ x ≤ 2 ^ 800 := λx => by
        rcases e4 x with e | e | e
        · rw [e]; exact a1.2
        · rw [e]; exact a2.2
        · rw [e]; exact a3.2
      have gmj := X.mix.gm;exists #[b, m, p, l, q0, n, V0, μ, A, us, ws, vs, rfl, MA, XM, n8, by lia, by lia, p1, p2, #[M1, e1], V2, λq hq => ?_, λr us' H' g Y kp => ?_]
      · refine mkA ?_ (λz => by rw [z, gmj] at hq; cases hq) (λz => by rw [z, X.gp] at hq; cases hq) (λz => by rw [z, X.gl] at hq; cases hq);cases e : H q with
        | none => rfl
        | some u =>
          have := X.kp q u e (λz => X.mix.bag.at (by rw [<- z]; exact hq)) (λz => by have := (unA z).1; rw [e] at this; cases this) (λz => by rw [z, hm0] at e; cases e);rw [hq] at this; cases this
      · obtain yp1|yp2:= Y.apart;obtain mv|Gm|lmv|hmv:= kG (H0 := H) (n := n) (C := Fr M1 (9 ^ 3 * V0)) (m := n) #[us', Y.gm, Y.lm, MA.am, λx hx => by have := Y.row x (by simp [hx]); rwa [e1 x (yp1 x hx).1 (yp1 x hx).2] at this] λq h => (unA h).1
        obtain pt|Gp|lpt|hpt:= kG (H0 := H) (n := n) (C := Fr M2 (9 ^ 3 * V0)) (m := i) #[ws, Y.gp, lws, MA.ap, λx hx => by have := Y.row x (by simp [hx]); rwa [e2 x hx] at this] λq h => (unA h).1
        obtain lk|Gl|llk|hlk:= kG (H0 := H) (n := n) (C := Fr M3 (9 ^ 3 * V0)) (m := o) #[vs, Y.gl, lvs, MA.al, λx hx => by have := Y.row x (by simp [hx]); rwa [e3 x hx (yp2 x hx)] at this] λq h => (unA h).1
        refine k r mv pt lk H' #[m, p, l, g, hm0, hp0, hl0, Gm, Gp, Gl] lmv lpt llk #[(), by lia, by lia, λxs hx => by rw [(hmv xs hx).1, lmv], λxs hx => by rw [(hpt xs hx).1, lmv], λxs hx => by rw [(hlk xs hx).1, lmv]] #[M1, M2, M3, 9 ^ 3 * V0, a1.1, a2.1, a3.1, λxs hx => (hmv xs hx).2, λxs hx => (hpt xs hx).2, λxs hx => (hlk xs hx).2, ?_] Y.bag #[λc' u e n1 => (X.kp.trans kp) c' u e n1 (λz => by have := (unA z).1; rw [e] at this; cases this) (λz => by rw [z, hm0] at e; cases e), λq h => by rw [<- Inner.inj I0 h]; exact Y.inn];rcases hcs with ⟨b1, b2, b3, b4, b5⟩ | ⟨b1, b2, b3, b4, b5⟩
        · exact .inl #[b1, b2, b3, b4, by rw [b5]]
        · exact .inr #[b1, b2, b3, b4, by rw [b5]]
theorem iO:ba ["_law_bag_here","_law_n","_law_ins","_law_outs","_law_wide"] ["_law_bag_here"] (aN nQ):=by walk_at "d"
theorem A9 (T:Txt K mg Z) (ptree:P.given.tree=none):cB P w K mg base fL 6 Z.uC Z.uk ["_law_bag_here"] (Pc K):=by
 have Fu:=CA (P:=P) (w:=w) (base:=base) T ptree;have aO:=dn (P:=P) (w:=w) (base:=base) T ptree;have yy:=vO (P:=P) (w:=w) (base:=base) T ptree;have mZ:=vQ (P:=P) (w:=w) (base:=base) T ptree;have Fv:=CB (P:=P) (w:=w) (base:=base) T ptree;refine T.mF.F.ok iO (λvs H Q E h=>?_) (λcdv A outer s H vs Q E hr h=>?_)
 ·obtain b|rfl|_:=h;rfl
 ·obtain b|rfl|hB|k:=h
  refine #[_,(ar (gv (cy Fu hr T.oj (aa (pv 0) ai)) (xY rfl (cO (aU (i:=1) iO.nd) (cO (aU (i:=2) iO.nd) (cO (aU (i:=3) iO.nd) (cO (aU (i:=4) iO.nd) i8))))))
   (ar (cD (br dS (cy aO hr T.aR (aa (pv 0) (aa ak ai))) ak (bw _)) (ar (cD (br dS (cy aO hr T.aR (aa (pv 0) (aa ak ai))) ak (bw _)) (az (aV (cI (aa (cy yy hr T.jY (aa (pv 0) ai)) (aa ak ai))))) bK)
   (az (aV (cI (aa (cy mZ hr T.j3 (aa (pv 0) (aa (bJ eJ ak (cy aO hr T.aR (aa (pv 0) (aa ak ai)))) ai))) (aa ak ai)))))) bK)
   (az (aV (cI (aa (cy Fv hr T.oo (aa (pv 0) (aa (pv 1) (aa (pv 2) (aa (pv 3) (aa (pv 4) ai)))))) (aa (bB (oQ rfl) (by rfl) T.min PyProof.Rows.boot_min (aa (pv 4) (aa ak ai))) ai))))))),?_]
  refine aT (σ:=[some (.ref b),none,none,none,none]) rfl ?_;have sf:∀{mv pt lk:LR9} {M V1:Nat},0 < M->M<=2^400->V1<=2^30->GF M V1 mv->GF M V1 pt->GF M V1 lk->Iu mv pt lk:=λh0 h1 h2 a b c=>#[_,_,h0,h1,ag h2 (au () ()),a,b,c]
  exists #[b,rfl,hB,λr n i o w H1 g1 n5 i4 o4 hw h5 B1 u1=>?_];exists #[b,16,rfl,B1,(),(),λv H2 v0 v1 B2 u2=>?_];have u02:=u1.trans u2;exists gY (λh0=>?_) (λh0=>?_)
  ·exists #[b,2,rfl,B2,(),(),λv2 H3 _ _ B3 u3=>?_];have u03:=u02.trans u3;exists gY (λh1=>?_) (λh1=>?_)
   ·exists #[b,rfl,B3,λr4 mv pt lk H4 P4 l6 D fm fp fl B4 u4=>?_];exists bU λt H5 s5 g5=>?_
    exact k t r4 4 0 13 mv pt lk H5 g5 ((P4.weak λq h=>u03.none B3 h).same s5) D (sf () dh () fm fp fl) (Ab (n0:=8) () () D.n8 () fm fp ()) (.inl #[(),(),(),(),(),fm,fp,ag (aD _ (show mv.9+4<=12 by have:=D.n8;lia)) ()]) () () (B4.same s5) ((u03.trans u4).same s5)
   ·exists #[b,3,rfl,B3,(),(),λv3 H4 v30 v31 B4 u4=>?_];obtain v3|rfl:=b8 v30;have u04:=u03.trans u4;walk_at "w";rw[show ((6:Int)+(v3:Int))=((6+v3:Nat):Int) by lia];refine #[b,6+v3,rfl,B4,(),(),λr4 mv pt lk H5 P5 lm _ _ D fm fp fl B5 u5=>?_];exists bU λt H6 s6 g6=>?_
    exact k t r4 4 0 4 mv pt lk H6 g6 ((P5.weak λq h=>u04.none B4 h).same s6) D (sf () dh () fm fp fl) (Ab (n0:=8) () () D.n8 () fm fp ()) (.inl #[(),(),(),(),(),(λxs hx x hx'=>(fm xs hx x hx').mono ()),(λxs hx x hx'=>(fp xs hx x hx').mono ()),ag (aD _ (show mv.9+4<=12 by have:=D.n8;lia)) ()]) () () (B5.same s6) ((u04.trans u5).same s6)
  ·obtain ⟨c,hc,hc20,hcM⟩:∃c:Nat,max w 6<=2^c/\c<=20/\c*((n+i+o)*n)<=800/\(9 < w->c=20/\(n+i+o)*n<=20/\n<=2):=by
    have m1:(n+i+o)*n<=13*5:=ay () n5;rcases hw with rfl | rfl | ⟨rfl,n2⟩
    ·exact #[4,(),(),(),λz=>()]
    ·exact #[4,(),(),(),λz=>()]
    ·have m2:(n+i+o)*n<=10*2:=ay () n2;exact #[20,(),(),(),λ_=>#[rfl,(),n2]]
   obtain hcM|hbig:=hcM;exists #[b,n,i,o,w,c,rfl,B2,(),i4,o4,(),(),hc,hc20,hcM,λr4 mv pt lk H4 P4 lm lp ll D PF B4 u4=>?_];have hmin:(if (1000:Int) < (w:Int) then (1000:Int) else (w:Int))=((min w 1000:Nat):Int):=by split <;> lia
   have PG:=PF;obtain M|V1|M0|fm|fp|fl|hcs:=PF.n
   obtain ⟨a',c',KF,SF⟩:∃a' c',qV mv pt a' c'/\Iu mv pt lk:=by
    rcases hcs with ⟨w9,rfl,rfl⟩ | ⟨w9,M1,rfl⟩
    ·exact #[12,16,Ab (n0:=5) () () () () fm fp (),sf () (ag (show 2520<=2^12 by decide) (au () ())) () fm fp fl]
    ·obtain rfl|e1|e2:=hbig w9;have M4:M<=2^400:=ag M1 (au () ());exact #[400,32,Ab (n0:=2) M0 M4 () () fm fp (),sf M0 M4 () fm fp fl]
   have RG:Rg mv pt (min w 1000):=by
    obtain M1|M2|M3|V1|a1|a2|a3|f1|f2|f3|hc':=PG;rcases hc' with ⟨w9,rfl,rfl,_,rfl⟩ | ⟨w9,b1,b2,_,rfl⟩
    ·exact .inr (.inl #[(),(),(),(),(),(),f1,f2,ag (aD _ (show mv.9+4<=9 by lia)) ()])
    ·obtain rfl|e1|e2:=hbig w9;have q1:n*n<=2*2:=ay e2 e2;have q2:i*n<=4*2:=ay i4 e2;have w6:w=1000000:=()
     exact .inr (.inr #[(),(),M1,M2,a1,a2,ag b1 (au () ()),ag b2 (au () ()),f1,f2,ag (aD _ (show mv.9+4<=6 by lia)) ()])
   exists bU λt H5 s5 g5=>?_
   rw[hmin] at g5;exact k t r4 (min w 1000) a' c' mv pt lk H5 g5 ((P4.weak λq h=>u02.none B2 h).same s5) D SF KF RG () () (B4.same s5) ((u02.trans u4).same s5)
theorem Ei:ba ["thing","at","most"] ["thing","at","most"] (aN rC):=by walk_at "d"
theorem EE (T:Txt K mg Z) (ptree:P.given.tree=none):cB P w K mg base fL 1 Z.y8 Z.yJ ["thing","at","most"] JY:=by
 refine T.jW.F.ok Ei (λvs H Q E h=>?_) (λcdv A outer s H vs Q E hr h=>?_)
 ·obtain p|xs|a|m|rfl|_:=h;rfl
 ·obtain p|xs|a|m|rfl|gx|hm|k:=h
  refine #[_,(ar (cD (iP (fQ (pQ rfl T.isinstance PyProof.Rows.boot_list T.list (pv 0)))) (az Kg) bK)
   (az (cD (br oI (bB bf (by rfl) T.len aZ (aa (pv 0) ai)) (pv 2) (bw _)) (az Kg) bK))),?_]
  refine aT (σ:=[some (.ref p),some (.int a),some (.int m)]) rfl ?_;exists #[_,_,.lst gx,rfl,?_];exists #[_,_,rfl,.inl (bR.of gx),?_];walk_at "w";rw[decide_eq_false (show ¬m < (xs.9:Int) by lia)];exists k
theorem Gd:ba ["thing"] ["thing"] (aN uQ):=by walk_at "d"
theorem GD (T:Txt K mg Z) (ptree:P.given.tree=none):cB P w K mg base fL 1 Z.BQ Z.BF ["thing"] Li:=by
 refine T.mS.F.ok Gd (λvs H Q E h=>?_) (λcdv A outer s H vs Q E hr h=>?_)
 ·obtain i|rfl|_:=h;rfl
 ·obtain i|rfl|k:=h;refine #[_,(az (aV (Jb (pQ rfl T.isinstance PyProof.Rows.boot_int T.int (pv 0)) (IZ (SH (pQ rfl T.isinstance PyProof.Rows.boot_bool T.bool (pv 0))))))),?_];refine aT (σ:=[some (.int i)]) rfl ?_;exists #[_,_,.int i,rfl,?_];exists #[_,_,.int i,rfl,?_];exists k
theorem iF:ba ["one","other","rest"] ["one","other"] (aN ki):=by walk_at "d"
theorem jT (T:Txt K mg Z) (ptree:P.given.tree=none):cB P w K mg base fL 1 Z.oR Z.oM ["one","other"] T4:=by
 refine T.fW.F.ok iF (λvs H Q E h=>?_) (λcdv A outer s H vs Q E hr h=>?_)
 ·obtain a|b|rfl|_:=h;rfl
 ·obtain a|b|rfl|k:=h
  refine #[_,(ar (AZ PassesOwn.never (br tW (pv 1) ak (bw _))
    (ar (aW (i:=2) iF.nd rfl (Or.inl rfl) (bJ Qg (pv 0) (pv 1)))
   (ar (aW (i:=0) iF.nd rfl (Or.inl rfl) (pv 1))
   (az (aW (i:=1) iF.nd rfl (Or.inl rfl) (pv 2))))))
   (az (aV (bB wU (by rfl) T.abs PyProof.Rows.boot_abs (aa (pv 0) ai))))),?_]
  refine aT (σ:=[some (.int a),some (.int b),none]) rfl ?_;exists D5 (λσ' H'=>∃(u v:Int) (r:Option V),σ'=[some (.int u),some (.int v),r]/\H'=H/\Int.gcd u v=Int.gcd a b) (λσ' _=>match σ' with | [_,some (.int v),_]=>v.natAbs | _=>0) #[a,b,none,rfl,rfl,rfl] ?_;rintro σ' H' ⟨u,v,r,rfl,rfl,hg⟩;exists gY (λh=>?_) (λh=>?_)
  ·have hv:v≠0:=λz=>by subst z;simp at h
   exists fU (show v≠0 from hv) ?_;exists #[#[v,u.fmod v,_,rfl,rfl,(Oa u v).trans hg],Qt u v hv]
  ·have hv:v=0:=by
    by_cases z:v=0
    ·exact z
    ·exfalso;apply h;simp [z]
   subst hv;walk_at "w"
   have e:(if u < 0 then -u else u)=g a b:=by
    unfold g;rw[<- hg,Int.gcd_zero_right]
    split <;> lia
   rw[e];exact k
theorem El:ba ["thing"] ["thing"] (aN rH):=by walk_at "d"
theorem EH (T:Txt K mg Z) (ptree:P.given.tree=none):cB P w K mg base fL 2 Z.zg Z.yN ["thing"] (Ll K):=by
 have Ca:=GD (P:=P) (w:=w) (base:=base) T ptree;have gU:=jT (P:=P) (w:=w) (base:=base) T ptree;refine T.pX.F.ok El (λvs H Q E h=>?_) (λcdv A outer s H vs Q E hr h=>?_)
 ·obtain x|n|rfl|_:=h;rfl
 ·obtain x|n|rfl|⟨p,rfl,hp⟩|hn|k:=h
  refine #[_,(ar (cD (PW.pt (lE (iP (fQ (pP rfl T.isinstance PyProof.Rows.boot_tuple T.tuple (pv 0)))) (jw (br tW (bB bf (by rfl) T.len aZ (aa (pv 0) ai)) ak (bw _))))) (az (aV lF)) bK)
   (ar (cD (PW.pt (lE (iP (fQ (cy Ca hr T.mS (aa (aX bu (pv 0) ak) ai)))) (jw (iP (fQ (cy Ca hr T.mS (aa (aX bu (pv 0) ak) ai))))))) (az (aV lF)) bK)
   (az (aV (Jb (iG Ds (aX bu (pv 0) ak) ak (bw _)) (IZ (iG dS (cy gU hr T.fW (aa (aX bu (pv 0) ak) (aa (aX bu (pv 0) ak) ai))) ak (bw _)))))))),?_]
  refine aT (σ:=[some (.ref p)]) rfl ?_;obtain hb|hg|s1|s2:=hn;exists .inr #[p,_,_,rfl,hp,rfl,?_];exists #[_,_,rfl,.inr hp,?_];walk_at "w"
  try refine NS ?_
  exists #[n.1,rfl,?_];exists #[n.2,rfl,?_];walk_at "w";rw[decide_eq_true (show (1:Int)<=n.2 by lia)];exists #[n.1,n.2,rfl,?_];walk_at "w";have e:g n.1 n.2=1:=by unfold g;rw[hg];rfl
  rw[e,decide_eq_true rfl];exact k _ (aH.refl _)
theorem Lp:ba ["thing","many"] ["thing","many"] (aN AS):=by walk_at "d"
theorem LJ (T:Txt K mg Z) (ptree:P.given.tree=none):cB P w K mg base fL 3 Z.HX Z.Hs ["thing","many"] (xI K):=by
 have Ih:=EH (P:=P) (w:=w) (base:=base) T ptree;refine T.yc.F.ok Lp (λvs H Q E h=>?_) (λcdv A outer s H vs Q E hr h=>?_)
 ·obtain p|ns|rfl|_:=h;rfl
 ·obtain p|ns|rfl|hp|hl|hn|k:=h
  refine #[_,(ar (cD (PW.pt (lE (iP (fQ (pQ rfl T.isinstance PyProof.Rows.boot_list T.list (pv 0)))) (jw (br tW (bB bf (by rfl) T.len aZ (aa (pv 0) ai)) (pv 1) (bw _))))) (az (aV lF)) bK)
   (az (aV (bB (wQ rfl) (by rfl) T.all PyProof.Rows.boot_all (aa (b9 ["value"] [] [] (cE (pv 0)) (λ_=>(aU (i:=0) (show ND9 ["value"] by decide +kernel))) (λ_=>cw) (λ_=>(cy Ih hr T.pX (aa (pv 0) ai)))) ai))))),?_]
  refine aT (σ:=[some (.ref p),some (.int ns.9)]) rfl ?_;obtain xs|gx|qx:=id hp;have lx:=qx.9;exists #[_,_,.lst gx,rfl,?_];exists #[_,_,rfl,.inl (bR.of gx),?_];walk_at "w";rw[show ((xs.9:Nat):Int)=(ns.9:Nat) by rw[lx],decide_eq_true rfl];exists #[#[_,bR.of gx],?_];refine fR (K:=K) (xs:=xs) (λi ys H'=>aH H H'/\ys=List.replicate i (.bl true)) (be (bC ())) #[aH.refl _,rfl] (λi ys H' _ #[s,_]=>bR.of (s _ _ gx)) ?_ ?_
  ·rintro i x ys H' hx hlen ⟨s,rfl⟩;obtain n|en|z:=b6 qx hx;exists #[x,n,rfl,s.num z,hn n (av en),λH2 s2=>#[s.trans s2,by rw[kh]]]
  ·rintro ys H' hy ⟨s,rfl⟩ l hl';exists #[l,List.replicate xs.9 true,rfl,bR.of (by rw[aL];simp),?_];have e4:(List.replicate xs.9 true).all id=true:=by simp
   rw[e4];exact k _ (s.trans (aH.new hl'))
theorem mh:ba ["things","wide","place","thing"] ["things","wide"] (aN nP):=by walk_at "d"
theorem A8 (T:Txt K mg Z) (ptree:P.given.tree=none):cB P w K mg base fL 4 Z.uB Z.uj ["things","wide"] (J9 K):=by
 have OL:=LJ (P:=P) (w:=w) (base:=base) T ptree;refine T.iU.F.ok mh (λvs H Q E h=>?_) (λcdv A outer s H vs Q E hr h=>?_)
 ·obtain p|H0|rows|w|rfl|_:=h;rfl
 ·obtain p|H0|rows|w|rfl|hp|hl|hw|hn|k:=h
  refine #[_,(ar (dY PassesOwn.never rfl (Qc rfl T.enumerate (aa (pv 0) ai)) (xY rfl (cO (aU (i:=2) mh.nd) (cO (aU (i:=3) mh.nd) i8)))
    (az (cD (iP (fQ (cy OL hr T.yc (aa (pv 3) (aa (pv 1) ai))))) (az Kg) bK)))
   (az (aV (b9 ["row"] [] [] (cE (pv 0)) (λ_=>(aU (i:=0) (show ND9 ["row"] by decide +kernel))) (λ_=>cw) (λ_=>(dN (fz K (by rfl)) (by rfl) T.list PyProof.Rows.boot_list (aa (pv 0) ai))))))),?_]
  refine aT (σ:=[some (.ref p),some (.int w),none,none]) rfl ?_;obtain xs|gx|qx|_:=id hp;exists #[#[_,bR.of gx],?_];refine Oe (K:=K) (l:=p) (xs:=xs) (λi σ' H'=>aH H H'/\∃x y,σ'=[some (.ref p),some (.int w),x,y]) #[aH.refl _,none,none,rfl] (λi σ' H' _ #[s,_]=>bR.of (s _ _ gx)) ?_ ?_
  ·rintro i x σ' H' t hx ⟨s,x1,y1,rfl⟩ ht;obtain qs|eq|q|rfl|_|Rq:=b6 qx hx;have hm:=av eq;have st:aH H' (upd H' t (.tup [.int i,.ref q])):=aH.new ht;have gt:(upd H' t (.tup [.int i,.ref q])) t=some (.tup [.int i,.ref q]):=aL;have s2:=s.trans st;generalize upd H' t (.tup [.int i,.ref q])=H2 at st gt s2 ⊢;have lq:(qs.map nm).9=w:=by rw[aj];exact (hn qs hm).1
   exists #[q,_,by rw[lq],(Rq.same s2).rowK,by rw[lq];exact hw,λn hn'=>?_,λH3 s3=>?_]
   ·obtain y|hy|rfl:=aE.mp hn';exact (hn qs hm).2 y hy
   exists #[s2.trans s3,_,_,rfl]
  ·rintro σ' H' ⟨s,x1,y1,rfl⟩;exists #[#[_,bR.of (s _ _ gx)],?_];refine dy (K:=K) (F:=dB K H0) (dB K H) id (s _ _ gx) (Paired.imp' (λ_ _ z=>z.same s) qx) hl (λa b=>a.same b) (λa b=>a.same b) ?_ ?_
   ·rintro i ns x H2 NY NN en s2 ⟨u,rfl,_,zs,gz,qz⟩ k1;exists #[u,zs,rfl,.inl (bR.of gz),λl1 hl1=>?_];exact k1 _ _ (aH.new hl1) #[l1,rfl,s.none (s2.none hl1),zs,aL,Paired.imp' (λ_ _ z=>z.same (aH.new hl1)) qz]
   ·rintro ys' H2 r hr s2 g pr nx;rw[iJ] at pr nx;exact k r H2 (s.none hr) (s.trans s2) #[ys',g,pr,jV nx]
theorem uP:ba ["self","move","put","look"] ["self","move","put","look"] (aN eN):=by walk_at "d"
theorem ve (T:Txt K mg Z) (ptree:P.given.tree=none):cB P w K mg base fL 5 Z.kb Z.ka ["self","move","put","look"] (J5 K Z.a_System):=by
 have tu:=EE (P:=P) (w:=w) (base:=base) T ptree;have oz:=A8 (P:=P) (w:=w) (base:=base) T ptree;refine T.ni.ok uP (λvs H Q E h=>?_) (λcdv A outer s H vs Q E hr h=>?_)
 ·obtain x|dx|p|q|r|Hb|H0|H1|H2|mv|pt|lk|rfl|_:=h;rfl
 ·obtain x|dx|p|q|r|Hb|H0|H1|H2|mv|pt|lk|rfl|nx|ndx|nex|rfl|gp|gq|gr|D|om|op|ol|k:=h
  refine #[_,(ar (ie (cy tu hr T.jW (aa (pv 1) (aa ak (aa (vI (v:=.int 8) rfl T.mg_MOST_STATES #[_,rfl]) ai)))))
   (ar (xV (pv 0) (cy oz hr T.iU (aa (pv 1) (aa (bB bf (by rfl) T.len aZ (aa (pv 1) ai)) ai))) rfl)
   (ar (xV (pv 0) (bB bf (by rfl) T.len aZ (aa (jk (pv 0) rfl) ai)) rfl)
   (ar (ie (cy tu hr T.jW (aa (pv 2) (aa ak (aa (vI (v:=.int 4) rfl T.mg_MOST_PUTS #[_,rfl]) ai)))))
   (ar (xV (pv 0) (cy oz hr T.iU (aa (pv 2) (aa (jk (pv 0) rfl) ai))) rfl)
   (ar (xV (pv 0) (bB bf (by rfl) T.len aZ (aa (jk (pv 0) rfl) ai)) rfl)
   (ar (ie (cy tu hr T.jW (aa (pv 3) (aa ak (aa (vI (v:=.int 4) rfl T.mg_MOST_LOOKS #[_,rfl]) ai)))))
   (ar (xV (pv 0) (cy oz hr T.iU (aa (pv 3) (aa (jk (pv 0) rfl) ai))) rfl)
   (az (xV (pv 0) (bB bf (by rfl) T.len aZ (aa (jk (pv 0) rfl) ai)) rfl)))))))))),?_]
  refine aT (σ:=[some (.ref x),some (.ref p),some (.ref q),some (.ref r)]) rfl ?_
  have s0:aH Hb (upd (upd Hb dx (.own x)) x (.ins Z.a_System dx [])):=λb o e=>by
   rw[bM (gD e nx),bM (gD e ndx)];exact e
  have hx:(upd (upd Hb dx (.own x)) x (.ins Z.a_System dx [])) x=some (.ins Z.a_System dx []):=aL;have back:∀{b},(upd (upd Hb dx (.own x)) x (.ins Z.a_System dx [])) b=none->Hb b=none:=λh=>s0.none h
  generalize upd (upd Hb dx (.own x)) x (.ins Z.a_System dx [])=Ha at s0 hx back ⊢;obtain xs|gx|qx|_:=id gp;obtain ys|gy|qy|_:=id gq;obtain zs|gz|qz|_:=id gr;have lx:=qx.9;have ly:=qy.9;have lz:=qz.9;have d1:=D.n8;have d2:=D.i4;have d3:=D.o4;exists #[p,xs,0,8,rfl,s0 _ _ gx,(),?_];exists #[_,_,rfl,.inl (bR.of (s0 _ _ gx)),?_];exists #[p,H0,mv,mv.9,by rw[lx],gp.same s0,(),(),λws hw=>#[D.mw ws hw,om ws hw],λa H3 na s3 Ga=>?_];have hx3:=s3 _ _ hx;exists #[x,Z.a_System,dx,_,rfl,hx3,T.cl_System,T.na_move,(by show 0 < 1000;decide),?_];have e3:FD x H3 (upd H3 x (.ins Z.a_System dx (cA "move" (.ref a) []))):=FD.upd;have i3:uH H3 x:=#[_,_,_,hx3];have hx4:(upd H3 x (.ins Z.a_System dx (cA "move" (.ref a) []))) x=some (.ins Z.a_System dx (cA "move" (.ref a) [])):=aL;have Ga4:=Ga.exc e3 i3;have k4:aH Hb (upd H3 x (.ins Z.a_System dx (cA "move" (.ref a) []))):=(s0.trans s3).after nx;generalize upd H3 x (.ins Z.a_System dx (cA "move" (.ref a) []))=H4 at e3 hx4 Ga4 k4 ⊢;exists #[x,Z.a_System,dx,_,_,rfl,hx4,T.cl_System,T.na_move,(by rw[bP,if_pos rfl]),?_];obtain as|ga|qa|_:=id Ga4;have la:=qa.9;exists #[_,_,rfl,.inl (bR.of ga),?_];exists #[x,Z.a_System,dx,_,rfl,hx4,T.cl_System,T.na_states,bx ff (by show 1 < 1000;decide),?_];rw[show ((as.9:Nat):Int)=((mv.9:Nat):Int) by rw[la]];have e4:FD x H4 (upd H4 x (.ins Z.a_System dx (cA "states" (.int mv.9) (cA "move" (.ref a) [])))):=FD.upd;have i4:uH H4 x:=#[_,_,_,hx4];have hx5:(upd H4 x (.ins Z.a_System dx (cA "states" (.int mv.9) (cA "move" (.ref a) [])))) x=some (.ins Z.a_System dx (cA "states" (.int mv.9) (cA "move" (.ref a) []))):=aL;have Ga5:=Ga4.exc e4 i4;have k5:aH Hb (upd H4 x (.ins Z.a_System dx (cA "states" (.int mv.9) (cA "move" (.ref a) [])))):=k4.after nx;generalize upd H4 x (.ins Z.a_System dx (cA "states" (.int mv.9) (cA "move" (.ref a) [])))=H5 at e4 hx5 Ga5 k5 ⊢;clear e3 e4 i3 i4 hx4 Ga4 ga qa;exists #[q,ys,1,4,rfl,k5 _ _ gy,(),?_];exists #[x,Z.a_System,dx,_,_,rfl,hx5,T.cl_System,T.na_states,(by rw[bP,if_pos rfl]),?_];exists #[q,H1,pt,mv.9,rfl,gq.same k5,(),(),λws hw=>#[D.pw ws hw,op ws hw],λb H6 nb s6 Gb=>?_];have hx6:=s6 _ _ hx5;have i6:uH H6 x:=#[_,_,_,hx6];exists #[x,Z.a_System,dx,_,rfl,hx6,T.cl_System,T.na_put,bx ff (bx (eh ff) (by show 2 < 1000;decide)),?_];have e6:FD x H6 (upd H6 x (.ins Z.a_System dx (cA "put" (.ref b) (cA "states" (.int mv.9) (cA "move" (.ref a) []))))):=FD.upd;have hx7:(upd H6 x (.ins Z.a_System dx (cA "put" (.ref b) (cA "states" (.int mv.9) (cA "move" (.ref a) []))))) x=some (.ins Z.a_System dx (cA "put" (.ref b) (cA "states" (.int mv.9) (cA "move" (.ref a) [])))):=aL;have Ga7:=(Ga5.same s6).exc e6 i6;have Gb7:=(Gb.weak k5).exc e6 i6;have k7:aH Hb (upd H6 x (.ins Z.a_System dx (cA "put" (.ref b) (cA "states" (.int mv.9) (cA "move" (.ref a) []))))):=(k5.trans s6).after nx;generalize upd H6 x (.ins Z.a_System dx (cA "put" (.ref b) (cA "states" (.int mv.9) (cA "move" (.ref a) []))))=H7 at e6 hx7 Ga7 Gb7 k7 ⊢;obtain bs|gb|qb|_:=id Gb7;have lb:=qb.9;exists #[x,Z.a_System,dx,_,_,rfl,hx7,T.cl_System,T.na_put,(by rw[bP,if_pos rfl]),?_];exists #[_,_,rfl,.inl (bR.of gb),?_];exists #[x,Z.a_System,dx,_,rfl,hx7,T.cl_System,T.na_ins,bx ff (bx (eh (ag ff (eh ff))) (by show 3 < 1000;decide)),?_];rw[show ((bs.9:Nat):Int)=((pt.9:Nat):Int) by rw[lb]];have i7:uH H7 x:=#[_,_,_,hx7];have e7:FD x H7 (upd H7 x (.ins Z.a_System dx (cA "ins" (.int pt.9) (cA "put" (.ref b) (cA "states" (.int mv.9) (cA "move" (.ref a) [])))))):=FD.upd;have hx8:(upd H7 x (.ins Z.a_System dx (cA "ins" (.int pt.9) (cA "put" (.ref b) (cA "states" (.int mv.9) (cA "move" (.ref a) [])))))) x=some (.ins Z.a_System dx (cA "ins" (.int pt.9) (cA "put" (.ref b) (cA "states" (.int mv.9) (cA "move" (.ref a) []))))):=aL;have Ga8:=Ga7.exc e7 i7;have Gb8:=Gb7.exc e7 i7;have k8:aH Hb (upd H7 x (.ins Z.a_System dx (cA "ins" (.int pt.9) (cA "put" (.ref b) (cA "states" (.int mv.9) (cA "move" (.ref a) [])))))):=k7.after nx;generalize upd H7 x (.ins Z.a_System dx (cA "ins" (.int pt.9) (cA "put" (.ref b) (cA "states" (.int mv.9) (cA "move" (.ref a) [])))))=H8 at e7 hx8 Ga8 Gb8 k8 ⊢;clear e6 e7 i6 i7 hx7 Ga7 Gb7 gb qb;exists #[r,zs,2,4,rfl,k8 _ _ gz,(),?_];exists #[x,Z.a_System,dx,_,_,rfl,hx8,T.cl_System,T.na_states,(by rw[bP,if_neg (by decide +kernel),bP,if_neg (by decide +kernel),bP,if_pos rfl]),?_];exists #[r,H2,lk,mv.9,rfl,gr.same k8,(),(),λws hw=>#[D.lw ws hw,ol ws hw],λc H9 nc s9 Gc=>?_];have hx9:=s9 _ _ hx8;have i9:uH H9 x:=#[_,_,_,hx9];exists #[x,Z.a_System,dx,_,rfl,hx9,T.cl_System,T.na_look,bx ff (bx (eh (ag ff (eh (ag ff (eh ff))))) (by show 4 < 1000;decide)),?_];have e9:FD x H9 (upd H9 x (.ins Z.a_System dx (cA "look" (.ref c) (cA "ins" (.int pt.9) (cA "put" (.ref b) (cA "states" (.int mv.9) (cA "move" (.ref a) []))))))):=FD.upd;have hxA:(upd H9 x (.ins Z.a_System dx (cA "look" (.ref c) (cA "ins" (.int pt.9) (cA "put" (.ref b) (cA "states" (.int mv.9) (cA "move" (.ref a) []))))))) x=some (.ins Z.a_System dx (cA "look" (.ref c) (cA "ins" (.int pt.9) (cA "put" (.ref b) (cA "states" (.int mv.9) (cA "move" (.ref a) [])))))):=aL;have GaA:=(Ga8.same s9).exc e9 i9;have GbA:=(Gb8.same s9).exc e9 i9;have GcA:=(Gc.weak k8).exc e9 i9;have kA:aH Hb (upd H9 x (.ins Z.a_System dx (cA "look" (.ref c) (cA "ins" (.int pt.9) (cA "put" (.ref b) (cA "states" (.int mv.9) (cA "move" (.ref a) []))))))):=(k8.trans s9).after nx;generalize upd H9 x (.ins Z.a_System dx (cA "look" (.ref c) (cA "ins" (.int pt.9) (cA "put" (.ref b) (cA "states" (.int mv.9) (cA "move" (.ref a) []))))))=HA at e9 hxA GaA GbA GcA kA ⊢;obtain cs|gc|qc|_:=id GcA;have lc:=qc.9;exists #[x,Z.a_System,dx,_,_,rfl,hxA,T.cl_System,T.na_look,(by rw[bP,if_pos rfl]),?_];exists #[_,_,rfl,.inl (bR.of gc),?_];exists #[x,Z.a_System,dx,_,rfl,hxA,T.cl_System,T.na_outs,bx ff (bx (eh (ag ff (eh (ag ff (eh (ag ff (eh ff))))))) (by show 5 < 1000;decide)),?_];rw[show ((cs.9:Nat):Int)=((lk.9:Nat):Int) by rw[lc]];have iA:uH HA x:=#[_,_,_,hxA];exact k _ (kA.after nx) #[dx,a,b,c,aL,back na,k5.none nb,k8.none nc,(GaA.exc FD.upd iA).weak s0,GbA.exc FD.upd iA,GcA.exc FD.upd iA]
theorem AL:ba ["_law_grid"] ["_law_grid"] (aN nW):=by walk_at "d"
theorem Bg (T:Txt K mg Z) (ptree:P.given.tree=none):cB P w K mg base fL 1 Z.uG Z.uu ["_law_grid"] (AB K):=by
 refine T.iV.F.ok AL (λvs H Q E h=>?_) (λcdv A outer s H vs Q E hr h=>?_)
 ·obtain p|H0|rows|rfl|_:=h;rfl
 ·obtain p|H0|rows|rfl|hp|hl|hm|k:=h;refine #[_,(az (aV (b9 ["_law_row_here"] [] [] (cE (pv 0)) (λ_=>(aU (i:=0) (show ND9 ["_law_row_here"] by decide +kernel))) (λ_=>cw) (λ_=>(dN (fz K (by rfl)) (by rfl) T.list PyProof.Rows.boot_list (aa (pv 0) ai)))))),?_];refine aT (σ:=[some (.ref p)]) rfl ?_;obtain xs|gx|qx|_:=id hp;exists #[#[_,bR.of gx],?_];refine dy (K:=K) (F:=dB K H0) (dB K H) id gx qx hl (λa b=>a.same b) (λa b=>a.same b) ?_ ?_
  ·rintro i ns x H' NY NN en s ⟨u,rfl,_,zs,gz,qz⟩ k1;exists #[u,zs,rfl,.inl (bR.of gz),λl1 hl1=>?_];exact k1 _ _ (aH.new hl1) #[l1,rfl,s.none hl1,zs,aL,Paired.imp' (λ_ _ z=>z.same (aH.new hl1)) qz]
  ·rintro ys' H' r hr s g pr nx;rw[iJ] at pr nx;exact k r H' hr s #[ys',g,pr,jV nx]
theorem Er:ba ["_law_parts_here"] ["_law_parts_here"] (aN rS):=by walk_at "d"
theorem EM (T:Txt K mg Z) (ptree:P.given.tree=none):cB P w K mg base fL 7 Z.zA Z.yW ["_law_parts_here"] (Aq K Z.a_System):=by
 have xo:=ve (P:=P) (w:=w) (base:=base) T ptree;have oC:=Bg (P:=P) (w:=w) (base:=base) T ptree;refine T.qe.F.ok Er (λvs H Q E h=>?_) (λcdv A outer s H vs Q E hr h=>?_)
 ·obtain r|H0|mv|pt|lk|rfl|_:=h;rfl
 ·obtain r|H0|mv|pt|lk|rfl|PQ|D|F|k:=h;refine #[_,(az (aV (Qf T.mk_System xo (hr.mono ()) rfl T.mg_System T.mX .nil Dp (aa (cy oC hr T.iV (aa (aX bu (pv 0) ak) ai)) (aa (cy oC hr T.iV (aa (aX bu (pv 0) ak) ai)) (aa (cy oC hr T.iV (aa (aX bu (pv 0) ak) ai)) ai)))))),?_];refine aT (σ:=[some (.ref r)]) rfl ?_;obtain m|p|l|g|n1|n2|n3|Gm|Gp|Gl:=id PQ;have d1:=D.n8;have d2:=D.i4;have d3:=D.o4;exists #[m,H0,mv,rfl,Gm,(),λxs hx=>by rw[D.mw xs hx];lia,λa H1 na s1 Ga=>?_];have g1:=s1 _ _ g;exists #[p,H0,pt,rfl,Gp.same s1,(),λxs hx=>by rw[D.pw xs hx];lia,λb H2 nb s2 Gb=>?_];have s12:=s1.trans s2;have g2:=s12 _ _ g;exists #[l,H0,lk,rfl,Gl.same s12,(),λxs hx=>by rw[D.lw xs hx];lia,λc H3 nc s3 Gc=>?_];have s13:=s12.trans s3;walk_at "w";intro x dx nx ndx nex;exact #[x,dx,a,b,c,H3,H,H1,H2,mv,pt,lk,rfl,nx,ndx,nex,rfl,(Ga.same s2).same s3,Gb.same s3,Gc,D,F.ok.1,F.ok.2.1,F.ok.2.2,λH' s' S'=>#[rfl,k x H' (s13.none nx) (s13.trans s') (S'.weak s13)]]
theorem ip:ba ["_law_bag_here","_law_many","_law_begin","_law_found","_law_wide","_law_k"] ["_law_bag_here","_law_many","_law_begin"] (aN mj):=by walk_at "d"
theorem zM (T:Txt K mg Z) (ptree:P.given.tree=none):cB P w K mg base fL 2 Z.sZ Z.sT ["_law_bag_here","_law_many","_law_begin"] (JX K):=by
 have aO:=dn (P:=P) (w:=w) (base:=base) T ptree;have eX:=jD (P:=P) (w:=w) (base:=base) T ptree;refine T.lC.F.ok ip (λvs H Q E h=>?_) (λcdv A outer s H vs Q E hr h=>?_)
 ·obtain b|m|rfl|_:=h;rfl
 ·obtain b|m|rfl|hB|hm|k:=h
  refine #[_,(ar (aW (i:=3) ip.nd rfl (Or.inl rfl) (du ai))
   (ar (aW (i:=4) ip.nd rfl (Or.inl rfl) (aX bT (du (aa ak (aa ak (aa ak (aa ak ai))))) (cy aO hr T.aR (aa (pv 0) (aa ak ai)))))
   (ar (dY PassesOwn.never rfl (cz rfl T.range (aa (pv 1) ai)) (aU (i:=5) ip.nd)
    (az (cD (br dS (cy aO hr T.aR (aa (pv 0) (aa ak ai))) ak (bw _)) (az (ie (tV cS c4 cZ ja (pv 3) (aa (cI (aa ak (aa ak ai))) ai)))) (az (ie (tV cS c4 cZ ja (pv 3) (aa (cy eX hr T.fX (aa (bJ eJ (pv 2) (cy aO hr T.aR (aa (pv 0) (aa (pv 4) ai)))) (aa (bJ eJ ak (cy aO hr T.aR (aa (pv 0) (aa (bJ (iQ rfl ip rfl rfl rfl ptree (sQ hr)) (pv 4) ak) ai)))) ai))) ai)))))))
   (az (aV (pv 3)))))),?_]
  refine aT (σ:=[some (.ref b),some (.int m),some (.int 1),none,none,none]) rfl ?_;exists cU λf H1 s1 n1 g1=>?_
  exists cU λl0 H2 s2 n2 g2=>?_
  have B2:=(hB.same s1).same s2;exists #[b,4,rfl,B2,(),(),λv H3 v0 v1 B3 u3=>?_];have fb:f≠b:=λz=>hB.at (by rw[<- z];exact n1)
  have g3:=u3.other (λz=>(hB.same s1).at (by rw[<- z];exact n2)) g2;have gf:=u3.other fb (s2 _ _ g1);obtain x|ex|mx|_:=ir (xs:=[V.int 9,V.int 9,V.int 9,V.int 1000]) v0 (by simpa using v1)
  obtain ⟨w,rfl,hw⟩:∃w:Nat,x=.int w/\(w=9\/w=1000):=by
   simp only[aG,aP,or_false] at mx;rcases mx with rfl | rfl | rfl | rfl
   ·exact #[9,rfl,.inl rfl]
   ·exact #[9,rfl,.inl rfl]
   ·exact #[9,rfl,.inl rfl]
   ·exact #[1000,rfl,.inr rfl]
  obtain q0|I0|xs0|gq0:=hB.inner;have fq:f≠q0:=λz=>by rw[<- z,n1] at gq0;cases gq0
  have u03:cP b H H3:=((s1.trans s2).upto (p:=b)).trans u3;have I3:Inner H3 b q0:=u03.2 _ I0;exists cH (bR.of g3) ex ?_;exists #[(),(),?_];refine d9 (n:=m) (λi σ' H'=>∃(y:Option V) (us:List V) (ws:List Rat),σ'=[some (.ref b),some (.int m),some (.int 1),some (.ref f),some (.int w),y]/\H' f=some (.lst us)/\Paired (bQ K H') ws us/\ws.9=i/\(∀z∈ws,0 < z/\Dr 1000 z)/\gV H' b/\Inner H' b q0/\cP b H H') #[none,[],[],rfl,gf,.nil,rfl,(λ_ z=>nomatch z),B3,I3,u03] ?_ ?_
  ·rintro i σ' H' hi ⟨y,us,ws,rfl,gu,pr,lw,hd,B',I',u'⟩;have lu:=pr.9
   have fin:∀(t:V) (z:Rat) (H5:Hp),gV H5 b->cP b H' H5->bQ K H5 z t->0 < z/\Dr 1000 z->H5 f=some (.lst us)/\us.9 < sizeLine/\∃(y:Option V) (us':List V) (ws':List Rat),[some (V.ref b),some (.int m),some (.int 1),some (.ref f),some (.int w),some (.int i)]=[some (.ref b),some (.int m),some (.int 1),some (.ref f),some (.int w),y]/\(upd H5 f (.lst (us++[t]))) f=some (.lst us')/\Paired (bQ K (upd H5 f (.lst (us++[t])))) ws' us'/\ws'.9=i+1/\(∀z∈ws',0 < z/\Dr 1000 z)/\gV (upd H5 f (.lst (us++[t]))) b/\Inner (upd H5 f (.lst (us++[t]))) b q0/\cP b H (upd H5 f (.lst (us++[t]))):=λt z H5 B5 u5 nz dz=>by
    have g5:=u5.other fb gu;have I5:=u5.2 _ I';refine #[g5,bC (),_,_,ws++[z],rfl,aL,bX (Paired.imp' (λ_ _ y=>(y.upto u5 B').updL g5) pr) (.cons (nz.updL g5) .nil),by simp [lw],Ac hd dz,B5.upd I5 fb fq,I5.upd fb,(u'.trans u5).after n1]
   exists #[b,2,rfl,B',(),(),λc Ha c0 c1 Ba ua=>?_];exists gY (λh0=>?_) (λh0=>?_)
   ·exists #[.inl #[rfl,_,bR.of (ua.other fb gu)],?_];exists bU λt Hb sb gt=>?_
    obtain e1|e2|e3:=fin (.ref t) 1 Hb (Ba.same sb) (ua.same sb) (bQ.mk gt rfl) #[(),(),()];exists iw e1 e2 ?_;exact e3
   ·exists #[.inl #[rfl,_,bR.of (ua.other fb gu)],?_];exists #[b,_,rfl,Ba,(),(),λt Hb t0 t1 Bb ub=>?_];exists fU (show nD _ _ from #[(),by show (2:Nat) < 2^8999000;exact bF (show 2 < 2^2 by decide) (au () ())]) ?_;rw[ck _ ()];exists #[b,_,rfl,Bb,(),(),λd Hc d0 d1 Bc uc=>?_];exists #[_,_,rfl,(),(IH ()).mono (),λr Hd sd gd=>?_];obtain z|ez|dz|ze:=Jp (t:=1+t) (b:=1+d) (W:=1000) () () ();obtain e1|e2|e3:=fin (.ref r) z Hd (Bc.same sd) (((ua.trans ub).trans uc).same sd) (bQ.mk gd ez) #[SA ze () (),dz];exists iw e1 e2 ?_;exact e3
  ·rintro σ' H' ⟨y,us,ws,rfl,gu,pr,lw,hd,B',I',u'⟩;exists k f ws H' n1 #[us,gu,pr] lw hd B' u'
theorem jm:ba ["_law_bag_here","_law_parts_here","_law_bottoms","_law_row_here"] ["_law_bag_here","_law_parts_here"] (aN pC):=by walk_at "d"
theorem Cy (T:Txt K mg Z) (ptree:P.given.tree=none):cB P w K mg base fL 2 Z.xa Z.wD ["_law_bag_here","_law_parts_here"] (C4 K):=by
 have aO:=dn (P:=P) (w:=w) (base:=base) T ptree;refine T.oi.F.ok jm (λvs H Q E h=>?_) (λcdv A outer s H vs Q E hr h=>?_)
 ·obtain b|r|H0|mv|pt|lk|rfl|_:=h;rfl
 ·obtain b|r|H0|mv|pt|lk|rfl|hB|nb|PQ|D|sz|k:=h
  refine #[_,(ar (aW (i:=2) jm.nd rfl (Or.inl rfl) (du (aa ak ai)))
   (ar (dY PassesOwn.never rfl (cE (bJ jS (aX bu (pv 1) ak) (aX bu (pv 1) ak))) (aU (i:=3) jm.nd)
    (az (aW (i:=2) jm.nd rfl (Or.inl rfl) (bJ jS (pv 2) (b9 ["_law_one"] [] [] (cE (pv 3)) (λ_=>(aU (i:=0) (show ND9 ["_law_one"] by decide +kernel))) (λ_=>cw) (λ_=>(bJ eJ (aX (qo K (by rfl)) (pv 0) ak) (bJ c5 (bJ (iQ rfl jm rfl rfl rfl ptree (sQ hr)) (bB wU (by rfl) T.abs PyProof.Rows.boot_abs (aa (aX (qo K (by rfl)) (pv 0) ak) ai)) ak) ak))))))))
   (ar (cD (br oI (bB (L8 rfl) (by rfl) T.max PyProof.Rows.boot_max (aa (pv 2) ai)) ak (bw _)) (az (aV (cy aO hr T.aR (aa (pv 0) (aa ak ai))))) bK)
   (ar (cD (br oI (bB bf (by rfl) T.len aZ (aa (aX bu (pv 1) ak) ai)) ak (bw _)) (az (aV (aX bT (du (aa (cy aO hr T.aR (aa (pv 0) (aa ak ai))) (aa (bB bf (by rfl) T.len aZ (aa (aX bu (pv 1) ak) ai)) ai))) (cy aO hr T.aR (aa (pv 0) (aa ak ai)))))) bK)
   (ar (cD (PW.pt (jx (br rZ (bB bf (by rfl) T.len aZ (aa (aX bu (pv 1) ak) ai)) ak (bw _)) (jP (br dS (cy aO hr T.aR (aa (pv 0) (aa ak ai))) ak (bw _))))) (az (aV (cy aO hr T.aR (aa (pv 0) (aa ak ai))))) bK)
   (az (aV (cy aO hr T.aR (aa (pv 0) (aa (bJ eJ ak (bB bf (by rfl) T.len aZ (aa (aX bu (pv 1) ak) ai))) ai)))))))))),?_]
  refine aT (σ:=[some (.ref b),some (.ref r),none,none]) rfl ?_;have d8:=D.n8;have i4:=D.i4;obtain m|p|l|g|n1|n2|n3|Gm|Gp|Gl:=id PQ;obtain um|gm|qm|_:=id Gm;obtain up|gp|qp|_:=id Gp;have lum:=qm.9;have lup:=qp.9;exists cU λbl0 H1 s1 nbl g1=>?_
  have g':=s1 _ _ g;exists kr (s1 _ _ gm) (s1 _ _ gp) (be (bC ())) λcc H2 s2 nc gc=>?_
  have s02:=s1.trans s2;have qc:Paired (dB K H0 H2) (mv++pt) (um++up):=Paired.imp' (λ_ _ z=>dB.same z s02) (bX qm qp)
  have wc:∀xs∈mv++pt,xs.9=mv.9:=λxs hx=>by
   rcases aA.mp hx with hx | hx
   ·exact D.mw xs hx
   ·exact D.pw xs hx
  have lc:(mv++pt).9=(um++up).9:=qc.9;rw[aw,aw] at lc;exists #[#[_,bR.of gc],?_];refine iq (K:=K) (a:=cc) (xs:=um++up) (λi σ' H'=>aH H2 H'/\∃bl ns y,σ'=[some (.ref b),some (.ref r),some (.ref bl),y]/\H' bl=some (.lst (ns.map V.int))/\1<=ns.9/\ns.9<=1+i*8/\∀j xs,j < i->(mv++pt)[j]?=some xs->∀x∈xs,Tu x∈ns) #[aH.refl _,bl0,[1],_,rfl,s2 _ _ g1,(),(),λj xs h=>absurd h (d5 _)] (λi σ' H' _ #[e,_]=>bR.of (e _ _ gc)) ?_ ?_
  ·rintro i v σ' H' hv ⟨e,bl,ns,y,rfl,gb,b1,b2,hn⟩;obtain xs|exs|u|rfl|_|zs|gz|qz:=b6 qc hv;have mx:=av exs;have wx:=wc xs mx;have hi:i < (um++up).9:=(aM.mp hv).1;rw[aw] at hi;exists #[#[_,bR.of (e _ _ gz)],?_];refine dy (K:=K) (F:=bQ K) (λ_ c x=>x=V.int (Tu c)) id (e _ _ gz) (Paired.imp' (λ_ _ z=>z.same e) qz) () (λa b=>a.same b) (λa _=>a) ?_ ?_
   ·rintro j c x Ha NY NN ec sa ⟨pp,rfl,hp⟩ k1;have mc:=av ec;have szc:=sz xs mx c mc;walk_at "w"
    have e1:(if (nm c).1 < 0 then -(nm c).1 else (nm c).1)=(c.num.natAbs:Int):=by
     show (if c.num < 0 then -c.num else c.num)=_
     split <;> lia
    have e2:(c.num.natAbs:Int).fdiv 1000=(c.num.natAbs:Int) / 1000:=ck _ ();rw[e1];refine fU (show nD _ _ from #[(),bF (show (1000:Int).natAbs < 2^20 by decide) (au () ())]) ?_;rw[e2];exists k1 _ _ (aH.refl _) rfl
   rintro ys Hb cl hcl sb gcl prl _
   have ey:ys=(xs.map Tu).map V.int:=by
    rw[iJ] at prl;rw[tP];exact Dq prl
   have ly:=prl.9;rw[aj] at ly;have gbb:=sb _ _ gb;rw[ey] at gcl;exists kr gbb gcl (be (bC (by rw[aj,aj,aj];lia))) λc2 Hc sc nc2 gc2=>?_
   rw[<- cG] at gc2;refine #[(e.trans sb).trans sc,c2,ns++xs.map Tu,_,rfl,gc2,by rw[aw];lia,by rw[aw,aj];lia,λj ys' hj ej x hx=>?_];rcases cR j i with z | z
   ·exact dG _ (hn j ys' z ej x hx)
   ·have:j=i:=()
    subst this;rw[exs] at ej;cases ej;exact bH _ (aE.mpr #[x,hx,rfl])
  ·rintro σ' H' ⟨e,bl,ns,y,rfl,gb,b1,b2,hn⟩;have e0:=s02.trans e;have B':=hB.same e0;have PQ':=PQ.same e0;obtain m'|p'|l'|g2|_|_|_|Gm'|_|_:=id PQ'
   have em:m'=m:=by
    have:=e0 _ _ g;rw[this] at g2;cases g2;rfl
   subst em;obtain um'|gm'|qm'|_:=id Gm';have lum':=qm'.9;have u0:cP b H H':=e0.upto;exists #[bl,ns,rfl,bR.of gb,(),λM hM hmax=>?_];exists gY (λh=>?_) (λh=>?_)
   ·exists #[b,4,rfl,B',(),(),λv H3 v0 v1 B3 u3=>?_];obtain v|rfl:=b8 v0;exact k v H3 #[(),.inl ()] B3 (u0.trans u3)
   ·have M9:M<=9:=by rw[decide_eq_true_eq] at h;lia
    have sm:∀xs∈mv++pt,∀x∈xs,x.den<=9/\x.num.natAbs < 1000:=λxs hx x hx'=>by
     obtain j|hj|rfl:=bE hx;have:=hn j _ (by rw[aw,<- lum,<- lup];rw[aw] at hj;exact hj) (af hj) x hx';exact Qy (Int.le_trans (hmax _ this) M9)
    exists #[_,_,rfl,.inl (bR.of gm'),?_];rw[<- lum'];exists gY (λh1=>?_) (λh1=>?_)
    ·have n5:5 < mv.9:=by have:=of_decide_eq_true h1;lia
     exists #[b,4,rfl,B',(),(),λv H3 v0 v1 B3 u3=>?_];obtain v|rfl:=b8 v0;obtain m3|p3|l3|g3|_|_|_|Gm3|_|_:=PQ'.upto u3 B' nb;obtain um3|gm3|qm3|_:=id Gm3;have lum3:=qm3.9;exists #[_,_,rfl,.inl (bR.of gm3),?_];rw[<- lum3];exists cU λl4 H4 s4 n4 g4=>?_
     exists #[b,2,rfl,B3.same s4,(),(),λv2 H5 v20 v21 B5 u5=>?_];have g5:=u5.other (λz=>B3.at (by rw[<- z];exact n4)) g4;obtain x|ex|mx|_:=ir (xs:=[V.int (v:Int),V.int (mv.9:Int)]) v20 (by simpa using v21);exists cH (bR.of g5) ex ?_;have u05:=(u0.trans (u3.same s4)).trans u5;simp only[aG,aP,or_false] at mx;rcases mx with rfl | rfl
     ·exact k v H5 #[(),.inl ()] B5 u05
     ·exact k mv.9 H5 #[(),.inr #[sm,λ_=>ao _,λ_ _=>qT _]] B5 u05
    ·have n5:mv.9<=5:=by rw[decide_eq_true_eq] at h1;lia
     exists #[_,_,rfl,.inl (bR.of gm'),?_];rw[<- lum'];have last:∀(Hx:Hp),gV Hx b->cP b H Hx->∀(v:Nat),v < 2+mv.9->Q (.int v) Hx:=λHx Bx ux v hv=>k v Hx #[(),.inr #[sm,λz=>(),λ_ _=>()]] Bx ux
     exists gY (λh2=>?_) (λh2=>?_)
     ·have n3':mv.9 < 3:=by have:=of_decide_eq_true h2;lia
      exists #[b,8,rfl,B',(),(),λv H3 v0 v1 B3 u3=>?_];exists gY (λh3=>?_) (λh3=>?_)
      ·exists #[b,13,rfl,B3,(),(),λv4 H4 v40 v41 B4 u4=>?_];obtain v4|rfl:=b8 v40;exact k v4 H4 #[(),.inr #[sm,λz=>(),λz _=>()]] B4 ((u0.trans u3).trans u4)
      ·obtain m3|p3|l3|g3|_|_|_|Gm3|_|_:=PQ'.upto u3 B' nb;obtain um3|gm3|qm3|_:=id Gm3;have lum3:=qm3.9;exists #[_,_,rfl,.inl (bR.of gm3),?_];rw[<- lum3];walk_at "w";rw[show ((2:Int)+(mv.9:Int))=((2+mv.9:Nat):Int) by lia];refine #[b,2+mv.9,rfl,B3,(),(),λv4 H4 v40 v41 B4 u4=>?_];obtain v4|rfl:=b8 v40;exact last H4 B4 ((u0.trans u3).trans u4) v4 ()
     ·exists #[_,_,rfl,.inl (bR.of gm'),?_];rw[<- lum'];walk_at "w";rw[show ((2:Int)+(mv.9:Int))=((2+mv.9:Nat):Int) by lia];refine #[b,2+mv.9,rfl,B',(),(),λv4 H4 v40 v41 B4 u4=>?_];obtain v4|rfl:=b8 v40;exact last H4 B4 (u0.trans u4) v4 ()
theorem mQ:ba ["_law_one","_law_other","_law_total","_law_k"] ["_law_one","_law_other"] (aN uW):=by walk_at "d"
theorem yG (T:Txt K mg Z) (ptree:P.given.tree=none):cB P w K mg base fL 3 Z.BW Z.BK ["_law_one","_law_other"] (Ef K):=by
 have gH:=kT (P:=P) (w:=w) (base:=base) T ptree;have jH:=pS (P:=P) (w:=w) (base:=base) T ptree;refine T.kX.F.ok mQ (λvs H Q E h=>?_) (λcdv A outer s H vs Q E hr h=>?_)
 ·obtain p|q|xs|ys|rfl|_:=h;rfl
 ·obtain p|q|xs|ys|rfl|hp|hq|hl|hz|⟨k1,j1,k2,j2,h1,h2,hkj⟩|kk:=h
  refine #[_,(ar (aW (i:=2) mQ.nd rfl (Or.inl rfl) (cI (aa ak (aa ak ai))))
   (ar (dY PassesOwn.never rfl (cz rfl T.range (aa (bB bf (by rfl) T.len aZ (aa (pv 0) ai)) ai)) (aU (i:=3) mQ.nd)
    (az (aW (i:=2) mQ.nd rfl (Or.inl rfl) (cy gH hr T.gZ (aa (pv 2) (aa (cy jH hr T.jb (aa (aX bT (pv 0) (pv 3)) (aa (aX bT (pv 1) (pv 3)) ai))) ai))))))
   (az (aV (pv 2))))),?_]
  refine aT (σ:=[some (.ref p),some (.ref q),none,none]) rfl ?_;obtain us|gu|qu:=id hp;obtain ws|gw|qw:=id hq;have lu:=qu.9;have lw:=qw.9;exists bU λr0 H0 s0 g0=>?_
  exists #[_,_,rfl,.inl (bR.of (s0 _ _ gu)),?_];exists #[(),(),?_];refine d9 (n:=us.9) (λi σ' H'=>aH H H'/\∃(r:V) (v:Option V),σ'=[some (.ref p),some (.ref q),some r,v]/\bQ K H' (cm (xs.take i) (ys.take i)) r) #[s0,_,none,rfl,bQ.mk g0 rfl] ?_ ?_
  ·rintro i σ' H' hi ⟨s,r,v,rfl,hr⟩;have ix:i < xs.9:=()
   have iy:i < ys.9:=()
   obtain vx|ex|nx:=LX (Paired.imp' (λ_ _ z=>z.same s) qu) ix;obtain vy|ey|ny:=LX (Paired.imp' (λ_ _ z=>z.same s) qw) iy;exists cH (bR.of (s _ _ gu)) ex ?_;exists cH (bR.of (s _ _ gw)) ey ?_;exists #[_,_,_,_,rfl,nx,ny,h1.szn (getD_mem ix) (),h2.szn (getD_mem iy) (),λr3 H3 s3 n3=>?_];exists #[_,_,_,_,rfl,hr.same s3,n3,Oq h1 h2 hz i hkj,ND (h1.one (getD_mem ix)) (h2.one (getD_mem iy)) hkj,λr4 H4 s4 n4=>?_];exists #[(s.trans s3).trans s4,_,_,rfl,by rw[Dx ix iy];exact n4]
  ·rintro σ' H' ⟨s,r,v,rfl,hr⟩;rw[aJ (),aJ ()] at hr;obtain t|rfl|ht:=hr;exists kk _ H' s #[t,rfl,ht]
theorem IM:ba ["_law_grid","_law_row_here"] ["_law_grid","_law_row_here"] (aN xT):=by walk_at "d"
theorem vd (T:Txt K mg Z) (ptree:P.given.tree=none):cB P w K mg base fL 4 Z.DV Z.DC ["_law_grid","_law_row_here"] (Ee K):=by
 have qK:=yG (P:=P) (w:=w) (base:=base) T ptree;refine T.mH.F.ok IM (λvs H Q E h=>?_) (λcdv A outer s H vs Q E hr h=>?_)
 ·obtain p|q|H0|rows|ys|rfl|_:=h;rfl
 ·obtain p|q|H0|rows|ys|rfl|hp|hq|hz|hl|hr1|kk:=h;refine #[_,(az (aV (b9 ["_law_one"] ["_law_row_here"] [1] (cE (pv 0)) (λ_=>(aU (i:=0) (show ND9 ["_law_one","_law_row_here"] by decide +kernel))) (λ_=>cw) (λ_=>(cy qK hr T.kX (aa (pv 0) (aa (pv 1) ai))))))),?_];refine aT (σ:=[some (.ref p),some (.ref q)]) rfl ?_;obtain xs|gx|qx|_:=id hp;exists #[#[_,bR.of gx],?_];refine dy (K:=K) (F:=dB K H0) (bQ K) (λxs=>cm xs ys) gx qx hz (λa b=>a.same b) (λa b=>a.same b) ?_ ?_
  ·rintro i ns x H' NY NN en s ⟨u,rfl,_,hu⟩ k;obtain e1|e2:=hr1 ns (av en);exists #[u,q,ns,ys,rfl,hu,hq.same s,e1.symm,(),e2,λr H2 s2 h2'=>k _ _ s2 h2']
  ·rintro ys' H' r hr s g pr nx;exact kk r H' hr s #[ys',g,pr]
theorem ic:ba ["_law_parts_here","_law_state","_law_puts_here","_law_move_here","_law_put","_law_look","_law_found","_law_k"] ["_law_parts_here","_law_state","_law_puts_here"] (aN rQ):=by walk_at "d"
theorem EK (T:Txt K mg Z) (ptree:P.given.tree=none):cB P w K mg base fL 5 Z.zx Z.yU ["_law_parts_here","_law_state","_law_puts_here"] (FX K):=by
 have oU:=vd (P:=P) (w:=w) (base:=base) T ptree;have tD:=vP (P:=P) (w:=w) (base:=base) T ptree;have yA:=Bh (P:=P) (w:=w) (base:=base) T ptree;refine T.p7.F.ok ic (λvs H Q E h=>?_) (λcdv A outer s H vs Q E hr h=>?_)
 ·obtain r|s0|u0|H0|mv|pt|lk|st|pu|rfl|_:=h;rfl
 ·obtain r|s0|u0|H0|mv|pt|lk|st|pu|rfl|PQ|D|hs|hu|l1|l2|NX|k:=h
  refine #[_,(ar (gv (pv 0) (xY rfl (cO (aU (i:=3) ic.nd) (cO (aU (i:=4) ic.nd) (cO (aU (i:=5) ic.nd) i8)))))
   (ar (aW (i:=6) ic.nd rfl (Or.inl rfl) (cy oU hr T.mH (aa (pv 3) (aa (pv 1) ai))))
   (ar (dY PassesOwn.never rfl (cz rfl T.range (aa (bB bf (by rfl) T.len aZ (aa (pv 4) ai)) ai)) (aU (i:=7) ic.nd)
    (az (aW (i:=6) ic.nd rfl (Or.inl rfl) (cy tD hr T.lO (aa (pv 6) (aa (cy yA hr T.qh (aa (aX bT (pv 2) (pv 7)) (aa (aX bT (pv 4) (pv 7)) ai))) ai))))))
   (az (aV (pv 6)))))),?_]
  refine aT (σ:=[some (.ref r),some (.ref s0),some (.ref u0),none,none,none,none,none]) rfl ?_;obtain m|p|l|g|n1|n2|n3|Gm|Gp|Gl:=id PQ;have d1:=D.n8;have d2:=D.i4;exists #[m,s0,H0,mv,st,rfl,Gm,hs,(),(),λxs hx=>#[by rw[D.mw xs hx,l1],NX.f2 xs hx],λf H1 nf s1 R1=>?_];obtain ps|gp|qp|_:=Gp.same s1;have lp:=qp.9;exists #[_,_,rfl,.inl (bR.of gp),?_];exists #[(),(),?_];refine d9 (n:=ps.9) (λkk σ' H'=>∃(f:Addr) (x:Option V),σ'=[some (.ref r),some (.ref s0),some (.ref u0),some (.ref m),some (.ref p),some (.ref l),some (.ref f),x]/\H f=none/\aH H1 H'/\bV K H' f (nextK mv pt st pu kk)) #[f,none,rfl,nf,aH.refl _,by rw[Ji];exact R1] ?_ ?_
  ·rintro kk σ' H' hk ⟨f',x,rfl,nf',s',R'⟩;have kp:kk < pt.9:=()
   have ku:kk < pu.9:=()
   obtain zs|gz|qz:=(hu.same s1).same s';have lz:=qz.9;obtain vu|eu|nu:=LX qz ku;obtain row|vr|er|ev|mr|q|rfl|_|Rq:=kz qp kp
   have er':pt[kk]=row:=by
    rw[af kp] at er;exact cn er
   have eu':pu.getD kk 0=pu[kk]:=by rw[ae,af ku];rfl
   have mu:pu.getD kk 0∈pu:=getD_mem ku;exists cH (bR.of gz) eu ?_;exists cH (bR.of (s' _ _ gp)) (iH ev) ?_;exists #[vu,q,_,row,rfl,nu,NX.su _ mu,Rq.same s',by rw[D.pw row mr];lia,NX.sp row mr,λr1 H2 n1' s2 R2=>?_];exists #[f',r1,_,_,rfl,R'.same s2,R2,by rw[aj,jE,D.pw row mr],by rw[jE];lia,NX.part kk,λy hy=>?_,λr2 H3 n2' s3 R3=>?_]
   ·obtain y'|hy'|rfl:=aE.mp hy;exact NX.mul _ mu row mr y' hy'
   ·exists #[s1.none (s'.none (s2.none n2')),(s'.trans s2).trans s3,?_];have e:=Jj (st:=st) (pu:=pu) (λxs hx=>by rw[D.mw xs hx,l1]) kp ku (by rw[er'];exact D.pw row mr);rw[er',<- eu'] at e;rw[<- e];exact R3
  ·rintro σ' H' ⟨f',x,rfl,nf',s',R'⟩;rw[tH () ()] at R';exists k f' H' nf' (s1.trans s') R'
theorem mP:ba ["_law_parts_here","_law_start","_law_rows","_law_state","_law_puts_here"] ["_law_parts_here","_law_start","_law_rows"] (aN uV):=by walk_at "d"
theorem yF (T:Txt K mg Z) (ptree:P.given.tree=none):cB P w K mg base fL 6 Z.BV Z.BJ ["_law_parts_here","_law_start","_law_rows"] (J7 K):=by
 have Ik:=EK (P:=P) (w:=w) (base:=base) T ptree;refine T.mT.F.ok mP (λvs H Q E h=>?_) (λcdv A outer s H vs Q E hr h=>?_)
 ·obtain r|s|p|H0|H1|mv|pt|lk|pus|st|rfl|_:=h;rfl
 ·obtain r|s|p|H0|H1|mv|pt|lk|pus|st|rfl|PQ|D|Rs|ls|Gp|lp|wp|EF|k:=h
  refine #[_,(ar (aW (i:=3) mP.nd rfl (Or.inl rfl) (dN (fz K (by rfl)) (by rfl) T.list PyProof.Rows.boot_list (aa (pv 1) ai)))
   (ar (dY PassesOwn.never rfl (cE (pv 2)) (aU (i:=4) mP.nd)
    (az (aW (i:=3) mP.nd rfl (Or.inl rfl) (cy Ik hr T.p7 (aa (pv 0) (aa (pv 3) (aa (pv 4) ai)))))))
   (az (aV (pv 3))))),?_]
  refine aT (σ:=[some (.ref r),some (.ref s),some (.ref p),none,none]) rfl ?_;have d1:=D.n8;obtain ss|gs|qs:=id Rs;obtain ps|gp|qp|_:=id Gp;have lps:=qp.9;exists #[s,ss,rfl,.inl (bR.of gs),λc hc=>?_];have sc:aH H (upd H c (.lst ss)):=aH.new hc;have Rc:bV K (upd H c (.lst ss)) c st:=#[ss,aL,Paired.imp' (λ_ _ z=>z.same sc) qs];generalize upd H c (.lst ss)=Hc at sc Rc ⊢;exists #[#[_,bR.of (sc _ _ gp)],?_];refine iq (K:=K) (a:=p) (xs:=ps) (λi σ' H'=>aH H H'/\∃q y,σ'=[some (.ref r),some (.ref s),some (.ref p),some (.ref q),y]/\H q=none/\bV K H' q (qU mv pt st pus i)) #[sc,c,_,rfl,hc,Rc] (λi σ' H' _ #[e,_]=>bR.of (e _ _ gp)) ?_ ?_
  ·rintro i v σ' H' hv ⟨e,q,y,rfl,nq,Rq⟩;obtain pu|epu|u|rfl|_|Ru:=b6 qp hv;have hi:i < pus.9:=(aM.mp epu).1;have mp:=av epu;exists #[r,q,u,H0,mv,pt,lk,_,pu,rfl,PQ.same e,D,Rq,bV.same Ru e,o7 ls (),wp pu mp,EF.nx D ls wp () epu,λq2 H2 n2 s2 R2=>?_];rw[<- rj epu] at R2;exact #[e.trans s2,q2,_,rfl,e.none n2,R2]
  ·rintro σ' H' ⟨e,q,y,rfl,nq,Rq⟩;rw[<- lps] at Rq;exists k q H' nq e Rq
theorem En:ba ["_law_bag_here","_law_parts_here","_law_steps_here","_law_wide"] ["_law_bag_here","_law_parts_here","_law_steps_here","_law_wide"] (aN rL):=by walk_at "d"
theorem EI (T:Txt K mg Z) (ptree:P.given.tree=none):cB P w K mg base fL 4 Z.zj Z.yQ ["_law_bag_here","_law_parts_here","_law_steps_here","_law_wide"] (FT K):=by
 have gI:=kU (P:=P) (w:=w) (base:=base) T ptree;refine T.pY.F.ok En (λvs H Q E h=>?_) (λcdv A outer s H vs Q E hr h=>?_)
 ·obtain b|r|tt|w|H0|mv|pt|lk|rfl|_:=h;rfl
 ·obtain b|r|tt|w|H0|mv|pt|lk|rfl|hT|w1|w2|hB|nb|PQ|D|k:=h;refine #[_,(az (aV (b9 ["_law_turn"] ["_law_bag_here","_law_parts_here","_law_wide"] [0,1,3] (cz rfl T.range (aa (pv 2) ai)) (λ_=>(aU (i:=0) (show ND9 ["_law_turn","_law_bag_here","_law_parts_here","_law_wide"] by decide +kernel))) (λ_=>cw) (λ_=>(cy gI hr T.hJ (aa (pv 1) (aa (bB (CK K (by rfl)) (by rfl) T.len aZ (aa (aX (qo K (by rfl)) (pv 2) ak) ai)) (aa (pv 3) ai)))))))),?_];refine aT (σ:=[some (.ref b),some (.ref r),some (.int tt),some (.int w)]) rfl ?_;have i4:=D.i4;exists #[(),(),?_]
  refine yo (n:=tt) (b:=b) (dB K H) (λxs=>xs.9=pt.9/\∀x∈xs,Dr (max w 6) x) hB () (λ{H' H'' c x} a u B=>by
   obtain q|e|nq|R:=a;exact #[q,e,nq,R.upto u B (λz=>hB.at (by rw[<- z];exact nq))]) ?_ ?_
  ·rintro i Ha NY NN hi ua Ba k1;obtain m|p|l|g|n1|n2|n3|Gm|Gp|Gl:=PQ.upto ua hB nb;obtain up|gp|qp|_:=id Gp;have lup:=qp.9;exists #[_,_,rfl,.inl (bR.of gp),?_];rw[<- lup];exists #[b,pt.9,w,rfl,Ba,(),w1,(),λq xs Hb nq R lx dx Bb ub=>?_];exact k1 _ xs _ ub Bb #[lx,dx] #[q,rfl,ua.none Ba nq,R]
  ·rintro ys cs Hz t ht uz Bz gz lc hc prz nx;exact k t cs Hz ht #[ys,gz,prz,jV nx] lc hc Bz uz
theorem o9:ba ["_law_bag_here","_law_parts_here","_law_start","_law_steps_here","_law_wide","_law_goal_here","_law_at"] ["_law_bag_here","_law_parts_here","_law_start","_law_steps_here","_law_wide"] (aN rX):=by walk_at "d"
theorem ER (T:Txt K mg Z) (ptree:P.given.tree=none):cB P w K mg base fL 7 Z.zE Z.yZ ["_law_bag_here","_law_parts_here","_law_start","_law_steps_here","_law_wide"] (F4 K):=by
 have aO:=dn (P:=P) (w:=w) (base:=base) T ptree;have gI:=kU (P:=P) (w:=w) (base:=base) T ptree;have vq:=yF (P:=P) (w:=w) (base:=base) T ptree;have Ii:=EI (P:=P) (w:=w) (base:=base) T ptree;have gH:=kT (P:=P) (w:=w) (base:=base) T ptree;refine T.qg.F.ok o9 (λvs H Q E h=>?_) (λcdv A outer s H vs Q E hr h=>?_)
 ·obtain b|r|s|tt|w|H0|mv|pt|lk|st|rfl|_:=h;rfl
 ·obtain b|r|s|tt|w|H0|mv|pt|lk|st|rfl|hT|w1|w2|hB|nb|PQ|D|Rs|sb|ls|EN|k:=h
  refine #[_,(ar (cD (br dS (cy aO hr T.aR (aa (pv 0) (aa ak ai))) ak (bw _)) (az (aV (cy gI hr T.hJ (aa (pv 0) (aa (bB bf (by rfl) T.len aZ (aa (pv 2) ai)) (aa (pv 4) ai)))))) bK)
   (ar (aW (i:=5) o9.nd rfl (Or.inl rfl) (cy vq hr T.mT (aa (pv 1) (aa (pv 2) (aa (cy Ii hr T.pY (aa (pv 0) (aa (pv 1) (aa (pv 3) (aa (pv 4) ai))))) ai)))))
   (ar (cD (PW.pt (jx (br oI (bB bf (by rfl) T.len aZ (aa (pv 5) ai)) ak (bw _)) (jP (br dS (cy aO hr T.aR (aa (pv 0) (aa ak ai))) ak (bw _))))) (ar (aW (i:=6) o9.nd rfl (Or.inl rfl) (cy aO hr T.aR (aa (pv 0) (aa (bB bf (by rfl) T.len aZ (aa (pv 5) ai)) ai))))
   (az (gv (cy gH hr T.gZ (aa (aX bT (pv 5) (pv 6)) (aa (cI (aa ak (aa (bJ eJ ak (cy aO hr T.aR (aa (pv 0) (aa ak ai)))) ai))) ai))) (iB (pv 5) (pv 6) set_list)))) bK)
   (az (aV (pv 5)))))),?_]
  refine aT (σ:=[some (.ref b),some (.ref r),some (.ref s),some (.int tt),some (.int w),none,none]) rfl ?_;have d8:=D.n8;exists #[b,2,rfl,hB,(),(),λv H1 v0 v1 B1 u1=>?_];have Rs1:=Rs.upto u1 hB sb;obtain zs|gz|qz:=id Rs1;have lz:=qz.9;exists gY (λh=>?_) (λh=>?_)
  ·exists #[_,_,rfl,.inl (bR.of gz),?_];rw[<- lz];exists #[b,st.9,w,rfl,B1,(),w1,(),λq xs H2 nq R2 l2 d2 B2 u2=>?_];exact k q xs H2 (u1.none B1 nq) R2 () (.inl d2) B2 (u1.trans u2)
  ·have PQ1:=PQ.upto u1 hB nb;exists #[b,r,tt,w,H0,mv,pt,lk,rfl,hT,w1,w2,B1,nb,PQ1,D,λp pus H2 np Gp lp dp B2 u2=>?_];have DP:U4 pt tt w pus:=#[lp,dp];have EF:=EN pus DP;have wp:∀xs∈pus,xs.9=pt.9:=λxs hx=>(dp xs hx).1
   have u02:=u1.trans u2;exists #[r,s,p,H0,H1,mv,pt,lk,pus,st,rfl,PQ1.upto u2 B1 nb,D,Rs1.upto u2 B1 sb,ls,Gp,(),wp,EF,λg H3 ng s3 Rg=>?_];rw[lp] at Rg;have B3:=B2.same s3;have u03:cP b H H3:=u02.same s3;have ng0:H g=none:=u02.none B2 ng;have gb:g≠b:=λz=>B2.at (by rw[<- z];exact ng)
   have lst:(qU mv pt st pus tt).9=mv.9:=o7 ls ();have fin0:∀H':Hp,cP b H3 H'->gV H' b->Q (.ref g) H':=λH' u B=>k g _ H' ng0 (Rg.upto u B3 gb) lst (.inr #[pus,DP,.inl rfl]) B (u03.trans u)
   obtain ys|gy|qy:=id Rg;have ly:=qy.9;rw[lst] at ly;exists #[_,_,rfl,.inl (bR.of gy),?_];rw[<- ly];exists gY (λh1=>?_) (λh1=>?_)
   ·have np0:0 < mv.9:=by have:=of_decide_eq_true h1;lia
    exists #[b,4,rfl,B3,(),(),λv4 H4 v40 v41 B4 u4=>?_];exists gY (λh2=>?_) (λh2=>?_)
    ·obtain ys4|gy4|qy4:=Rg.upto u4 B3 gb;have ly4:=qy4.9;rw[lst] at ly4;exists #[_,_,rfl,.inl (bR.of gy4),?_];rw[<- ly4];exists #[b,mv.9,rfl,B4,(),(),λat' H5 a0 a1 B5 u5=>?_];obtain at'|rfl:=b8 a0;have u35:=u4.trans u5;obtain ys5|gy5|qy5:=Rg.upto u35 B3 gb;have ly5:=qy5.9;rw[lst] at ly5;obtain vx|ex|nx:=LX qy5 (j:=at') (by rw[lst];lia);exists cH (bR.of gy5) ex ?_;exists #[b,3,rfl,B5,(),(),λv6 H6 v60 v61 B6 u6=>?_];obtain v6|rfl:=b8 v60;exists bU λt7 H7 s7 g7=>?_
     rw[show ((1:Int)+(v6:Int))=((v6+1:Nat):Int) by lia] at g7;have u37:cP b H3 H7:=(u35.trans u6).same s7;obtain ys7|gy7|qy7:=Rg.upto u37 B3 gb;have ly7:=qy7.9;rw[lst] at ly7
     have e57:ys7=ys5:=by
      have:=(u6.same s7).other gb gy5;rw[gy7] at this;cases this;rfl
     have szst:=EF.szn D ls wp (k:=tt) ();have mx:(qU mv pt st pus tt).getD at' 0∈qU mv pt st pus tt:=getD_in (by rw[lst];lia);have szu:iI (O6 v6):=qq () (show 6<=2^3 by decide) (show 1<=2^0 by decide) () (QN ());exists #[_,_,(qU mv pt st pus tt).getD at' 0,O6 v6,rfl,(nx.upto (u6.same s7) B5),bQ.mk (q:=O6 v6) g7 rfl,szst _ mx,szu,λr8 H8 s8 N8=>?_];have gy8:=s8 _ _ gy7;have B8:=(B6.same s7).same s8;have u38:=u37.same s8;obtain q0|I0|xq0|gq0:=hB.inner;have gq:g≠q0:=λz=>by rw[<- z,ng0] at gq0;cases gq0
     have u08:cP b H H8:=u03.trans u38;have I8:=u08.2 _ I0;exists fI gy8 (fZ ()) rfl ?_;exists k g _ _ ng0 #[_,aL,uZ (N8.updL gy8) at' (Paired.imp' (λ_ _ z=>(z.same s8).updL gy8) qy7)] (by rw[d6];exact lst) (.inr #[pus,DP,.inr #[at',v6,(),rfl]]) (B8.upd I8 gb gq) (u08.after ng0)
    ·exists fin0 H4 u4 B4
   ·exists fin0 H3 (aH.refl _).upto B3
theorem fG:ba ["wholes","multiple","whole"] ["wholes"] (aN jO):=by walk_at "d"
theorem vb (T:Txt K mg Z) (ptree:P.given.tree=none):cB P w K mg base fL 2 Z.mY Z.mV ["wholes"] (MO K):=by
 have gU:=jT (P:=P) (w:=w) (base:=base) T ptree;refine T.jz.F.ok fG (λvs H Q E h=>?_) (λcdv A outer s H vs Q E hr h=>?_)
 ·obtain p|bs|M|rfl|_:=h;rfl
 ·obtain p|bs|M|rfl|hp|hM|sM|hb|q:=h
  refine #[_,(ar (aW (i:=1) fG.nd rfl (Or.inl rfl) ak)
   (ar (dY PassesOwn.never rfl (cE (pv 0)) (aU (i:=2) fG.nd)
    (az (aW (i:=1) fG.nd rfl (Or.inl rfl) (bJ c5 (pv 1) (bJ (iQ rfl fG rfl rfl rfl ptree (sQ hr)) (pv 2) (cy gU hr T.fW (aa (pv 1) (aa (pv 2) ai))))))))
   (az (aV (pv 1))))),?_]
  refine aT (σ:=[some (.ref p),none,none]) rfl ?_;exists #[#[_,hp],?_];refine iq (K:=K) (a:=p) (xs:=bs.map V.int) (λi σ' H'=>H'=H/\∃x,σ'=[some (.ref p),some (.int (ye (bs.take i) 1)),x]) #[rfl,none,rfl] (λi σ' H' _ #[e,_]=>by subst e;exact hp) ?_ ?_
  ·rintro i x σ' H' hx ⟨rfl,y,rfl⟩;rw[aF] at hx
   obtain ⟨b,eb,rfl⟩:∃b,bs[i]?=some b/\x=.int b:=by
    cases e:bs[i]? with
    | none=>rw[e] at hx;cases hx
    | some b=>rw[e] at hx;cases hx;exact #[b,rfl,rfl]
   have b1:=hb b (av eb);have sb:Sz 4400000 b:=E7 hM b1.2 sM;have ht:∀c∈bs.take i,0 < c/\c∣M:=λc hc=>hb c (cK hc)
   have msz:Sz 4400000 (ye (bs.take i) 1):=E7 hM (Aa () (Int.one_dvd _) ht) sM;generalize hm:ye (bs.take i) 1=m at msz ⊢;have gp:0 < g m b:=BA ();exists #[m,b,rfl,?_];exists fU (show nD _ _ from #[(),(Vi b1.1 sb).mono ()]) ?_;rw[ck _ ()];exists fU (show gJ _ _ from .inr #[_,_,msz,sb.hi (t:=m) (),()]) ?_;exists #[rfl,_,by rw[take_snoc eb,Du,hm];rfl]
  ·rintro σ' H' ⟨rfl,y,rfl⟩;walk_at "w";rw[aJ (by simp)];exact q
theorem xM:ba ["row"] ["row"] (aN lB):=by walk_at "d"
theorem kC (T:Txt K mg Z) (ptree:P.given.tree=none):cB P w K mg base fL 3 Z.qP Z.qO ["row"] (MP K):=by
 have xn:=vb (P:=P) (w:=w) (base:=base) T ptree;refine T.d7.F.ok xM (λvs H Q E h=>?_) (λcdv A outer s H vs Q E hr h=>?_)
 ·obtain p|ns|M|rfl|_:=h;rfl
 ·obtain p|ns|M|rfl|hp|hl|hz|q:=h;refine #[_,(az (aV (cy xn hr T.jz (aa (b9 ["value"] [] [] (cE (pv 0)) (λ_=>(aU (i:=0) (show ND9 ["value"] by decide +kernel))) (λ_=>cw) (λ_=>(aX (qo K (by rfl)) (pv 0) ak))) ai)))),?_];refine aT (σ:=[some (.ref p)]) rfl ?_;obtain xs|gx|qx:=id hp;have lx:=qx.9;exists #[#[_,bR.of gx],?_];refine fR (K:=K) (xs:=xs) (λi ys H'=>H'=H/\ys=((ns.take i).map (·.2)).map V.int) (be (bC ())) #[rfl,rfl] (λi ys H' _ #[e,_]=>by subst e;exact bR.of gx) ?_ ?_
  ·rintro i x ys H' hx hlen ⟨rfl,rfl⟩;obtain n|en|r|rfl|hr1:=b6 qx hx;exists #[rfl,by rw[take_snoc en];simp]
  ·rintro ys H' hy ⟨rfl,rfl⟩ l hl';exists #[l,ns.map (·.2),M,rfl,bR.of (by rw[aL,aJ ()]),hz.1,hz.2.1,λb hb=>?_,?_]
   ·obtain n|hn|rfl:=aE.mp hb;exact #[(hz.2.2 n hn).1,(hz.2.2 n hn).2.1]
   ·exact q _ (aH.new hl')
theorem vC:ba ["row","bottom"] ["row","bottom"] (aN rD):=by walk_at "d"
theorem pR (T:Txt K mg Z) (ptree:P.given.tree=none):cB P w K mg base fL 1 Z.za Z.yK ["row","bottom"] (FR K):=by
 refine T.ig.F.ok vC (λvs H Q E h=>?_) (λcdv A outer s H vs Q E hr h=>?_)
 ·obtain p|ns|M|B|rfl|_:=h;rfl
 ·obtain p|ns|M|B|rfl|hp|hl|hz|hB|sB|q:=h;refine #[_,(az (aV (b9 ["value"] ["bottom"] [1] (cE (pv 0)) (λ_=>(aU (i:=0) (show ND9 ["value","bottom"] by decide +kernel))) (λ_=>cw) (λ_=>(bJ c5 (aX (qo K (by rfl)) (pv 0) ak) (bJ (iQ rfl vC rfl rfl rfl ptree (sQ hr)) (pv 1) (aX (qo K (by rfl)) (pv 0) ak))))))),?_];refine aT (σ:=[some (.ref p),some (.int B)]) rfl ?_;obtain xs|gx|qx:=id hp;have lx:=qx.9;exists #[#[_,bR.of gx],?_];refine fR (K:=K) (xs:=xs) (λi ys H'=>H'=H/\ys=(dO (ns.take i) B).map V.int) (be (bC ())) #[rfl,rfl] (λi ys H' _ #[e,_]=>by subst e;exact bR.of gx) ?_ ?_
  ·rintro i x ys H' hx hlen ⟨rfl,rfl⟩;obtain n|en|r|rfl|hr1:=b6 qx hx;have nz:=hz.2.2 n (av en);have sn:Sz 4400000 n.2:=E7 hz.1 nz.2.1 hz.2.1;exists fU (show nD _ _ from #[(),sn.mono ()]) ?_;rw[ck _ ()]
   have sq:Sz 4400000 (B / n.2):=sB.le (by
    rw[Tt ()];exact Nat.div_le_self ..)
   exists fU (show gJ _ _ from .inr #[_,_,nz.2.2,sq,()]) ?_;exact #[rfl,by rw[take_snoc en];simp [dO]]
  ·rintro ys H' hy ⟨rfl,rfl⟩ l hl';exact q l _ hl' (aH.new hl') (by rw[aL,aJ ()])
theorem oH:ba ["top","bottom","divisor"] ["top","bottom"] (aN AQ):=by walk_at "d"
theorem lY (T:Txt K mg Z) (ptree:P.given.tree=none):cB P w K mg base fL 2 Z.HV Z.Ho ["top","bottom"] Lk:=by
 have gU:=jT (P:=P) (w:=w) (base:=base) T ptree;refine T.jF.F.ok oH (λvs H Q E h=>?_) (λcdv A outer s H vs Q E hr h=>?_)
 ·obtain t|b|rfl|_:=h;rfl
 ·obtain t|b|rfl|hb|hs|k:=h
  refine #[_,(ar (aW (i:=2) oH.nd rfl (Or.inl rfl) (cy gU hr T.fW (aa (pv 0) (aa (pv 1) ai))))
   (ar (cD (br rZ (pv 1) ak (bw _)) (az (aW (i:=2) oH.nd rfl (Or.inl rfl) (tU nH (pv 2)))) bK)
   (az (aV (cI (aa (bJ (iQ rfl oH rfl rfl rfl ptree (sQ hr)) (pv 0) (pv 2)) (aa (bJ (iQ rfl oH rfl rfl rfl ptree (sQ hr)) (pv 1) (pv 2)) ai))))))),?_]
  refine aT (σ:=[some (.int t),some (.int b),none]) rfl ?_;exists #[t,b,rfl,?_];have hg:=BA (t:=t) hb
  have hgs:Sz 8999000 (g t b):=hs.le (by
   have h1:(g t b).natAbs=Int.gcd t b:=by unfold g;simp
   rw[h1];exact jJ () (by have:=gi (a:=t) (b:=b);exact ij.mpr this |> λz=>by simpa using z))
  have hgn:g (-t) (-b)=g t b:=by unfold g;rw[Int.gcd_neg,Int.neg_gcd]
  exists gY (λh=>?_) (λh=>?_)
  ·have hb0:b < 0:=of_decide_eq_true h;exists fU (show nD _ _ from #[(),hgs.neg]) ?_;exists fU (show nD _ _ from #[(),hgs.neg]) ?_;exists bU λr H' s' h'=>?_
   have e1:t.fdiv (-g t b)=lo (-t) (-b):=by
    unfold Nm.lo;rw[hgn,<- ck _ (),<- Int.neg_fdiv_neg (-t),Int.neg_neg]
   have e2:b.fdiv (-g t b)=hi (-t) (-b):=by
    unfold Nm.hi;rw[hgn,<- ck _ (),<- Int.neg_fdiv_neg (-b),Int.neg_neg]
   exact k r H' s' (by rw[if_pos hb0,if_pos hb0,<- e1,<- e2];exact h')
  ·have hb0:¬b < 0:=λz=>h (decide_eq_true z)
   exists fU (show nD _ _ from #[(),hgs]) ?_;exists fU (show nD _ _ from #[(),hgs]) ?_;exists bU λr H' s' h'=>?_
   rw[ck _ (),ck _ ()] at h';exact k r H' s' (by rw[if_neg hb0,if_neg hb0];exact h')
theorem iM:ba ["one","other","one_bottom","other_bottom","pairs"] ["one","other"] (aN xN):=by walk_at "d"
theorem A5 (T:Txt K mg Z) (ptree:P.given.tree=none):cB P w K mg base fL 4 Z.yr Z.yl ["one","other"] (Ef K):=by
 have eU:=kC (P:=P) (w:=w) (base:=base) T ptree;have iX:=pR (P:=P) (w:=w) (base:=base) T ptree;have iY:=lY (P:=P) (w:=w) (base:=base) T ptree;refine T.jy.F.ok iM (λvs H Q E h=>?_) (λcdv A outer s H vs Q E hr h=>?_)
 ·obtain p|q|xs|ys|rfl|_:=h;rfl
 ·obtain p|q|xs|ys|rfl|hp|hq|hl|hz|⟨k1,j1,k2,j2,h1,h2,hkj⟩|kk:=h
  refine #[_,(ar (aW (i:=2) iM.nd rfl (Or.inl rfl) (cy eU hr T.d7 (aa (pv 0) ai)))
   (ar (aW (i:=3) iM.nd rfl (Or.inl rfl) (cy eU hr T.d7 (aa (pv 1) ai)))
   (ar (aW (i:=4) iM.nd rfl (Or.inl rfl) (A2 rfl T.list rfl T.zip (aa (cy iX hr T.ig (aa (pv 0) (aa (pv 2) ai))) (aa (cy iX hr T.ig (aa (pv 1) (aa (pv 3) ai))) ai))))
   (az (aV (cy iY hr T.jF (aa (bB (HP rfl) (by rfl) T.sum PyProof.Rows.boot_sum (aa (b9 ["mine","yours"] [] [] (cE (pv 4)) (λ_=>(mR K 2 (cO (aU (i:=0) (show ND9 ["mine","yours"] by decide +kernel)) (cO (aU (i:=1) (show ND9 ["mine","yours"] by decide +kernel)) i8)))) (λ_=>cw) (λ_=>(bJ c5 (pv 0) (pv 1)))) ai)) (aa (bJ c5 (pv 2) (pv 3)) ai)))))))),?_]
  refine aT (σ:=[some (.ref p),some (.ref q),none,none,none]) rfl ?_;obtain M|h1:=h1.rowM ();obtain N|h2:=h2.rowM ();replace hp:=hp.rowK;replace hq:=hq.rowK;replace hl:(ys.map nm).9=(xs.map nm).9:=by simpa using hl
  replace hz:(xs.map nm).9<=1000:=by simpa using hz
  obtain b1|s1:=h1.bot;obtain b2|s2:=h2.bot;have k2:∀r H',aH H H'->H' r=some (.tup [.int (lo (JB (xs.map nm) (ys.map nm)) (ft (xs.map nm)*ft (ys.map nm))),.int (hi (JB (xs.map nm) (ys.map nm)) (ft (xs.map nm)*ft (ys.map nm)))])->Q (.ref r) H':=λr H' s g=>kk r H' s (bQ.mk g (KH b1 b2))
  clear kk;generalize xs.map nm=ns at hp hq hl hz h1 h2 b1 b2 s1 s2 k2;generalize ys.map nm=ms at hp hq hl hz h1 h2 b1 b2 s1 s2 k2;have hb:0 < ft ns*ft ms:=jr b1 b2;exists #[p,ns,M,rfl,hp,hz,h1,λH1 t1=>?_];exists #[q,ms,N,rfl,hq.same t1,(),h2,λH2 t2=>?_];have u2:=t1.trans t2;exists #[p,ns,M,_,rfl,hp.same u2,hz,h1,b1,s1,λr1 H3 n3 t3 g3=>?_];exists #[q,ms,N,_,rfl,(hq.same u2).same t3,(),h2,b2,s2,λr2 H4 n4 t4 g4=>?_];exists #[r1,r2,_,_,rfl,bR.of (t4 _ _ g3),bR.of g4,by simp [dO,hl],λL ts H5 t5 n5 g5 pr=>?_];have lt:=pr.9;have ll:(dO ns (ft ns)).9=ns.9:=by simp [dO]
  have lm:(dO ms (ft ms)).9=ns.9:=by simp [dO,hl]
  rw[qY,aj,aj,ll,lm] at lt;exists #[#[_,bR.of g5],?_];refine fR (K:=K) (xs:=ts) (λi ys H'=>H'=H5/\ys=((List.zipWith (λx y=>x*y) (dO ns (ft ns)) (dO ms (ft ms))).take i).map V.int) (be (bC ())) #[rfl,rfl] (λi ys H' _ #[e,_]=>by subst e;exact bR.of g5) ?_ ?_
  ·rintro i x ys H' hx hlen ⟨rfl,rfl⟩;obtain pq|epq|T|rfl|gT:=b6 pr hx;obtain t|u|et|eu|rfl:=JN epq;exists fU (show gJ _ _ from .inr #[_,_,vv h1 b1 s1 (av et),vv h2 b2 s2 (av eu),()]) ?_;have ez:(List.zipWith (λx y=>x*y) (dO ns (ft ns)) (dO ms (ft ms)))[i]?=some (t*u):=by rw[bN,et,eu]
   exact #[rfl,by rw[take_snoc ez];simp]
  ·rintro ys H' hy ⟨rfl,rfl⟩ l hl';exists #[l,List.zipWith (λx y=>x*y) (dO ns (ft ns)) (dO ms (ft ms)),rfl,bR.of (by rw[aL,aJ (by rw[bD];lia)]),?_];exists fU (show gJ _ _ from .inr #[_,_,s1,s2,()]) ?_;exists #[_,_,rfl,(),(s1.mul s2).mono (),λr H6 t6 g6=>?_];rw[if_neg (),if_neg ()] at g6;exact k2 r H6 ((((u2.trans t3).trans t4).trans t5).trans ((aH.new hl').trans t6)) g6
theorem AJ:ba ["grid","row"] ["grid","row"] (aN xR):=by walk_at "d"
theorem Jg (T:Txt K mg Z) (ptree:P.given.tree=none):cB P w K mg base fL 5 Z.yt Z.ym ["grid","row"] (Ee K):=by
 have yw:=A5 (P:=P) (w:=w) (base:=base) T ptree;refine T.kD.F.ok AJ (λvs H Q E h=>?_) (λcdv A outer s H vs Q E hr h=>?_)
 ·obtain p|q|H0|rows|ys|rfl|_:=h;rfl
 ·obtain p|q|H0|rows|ys|rfl|hp|hq|hz|hl|hr1|kk:=h;refine #[_,(az (aV (b9 ["line"] ["row"] [1] (cE (pv 0)) (λ_=>(aU (i:=0) (show ND9 ["line","row"] by decide +kernel))) (λ_=>cw) (λ_=>(cy yw hr T.jy (aa (pv 0) (aa (pv 1) ai))))))),?_];refine aT (σ:=[some (.ref p),some (.ref q)]) rfl ?_;obtain xs|gx|qx|_:=id hp;exists #[#[_,bR.of gx],?_];refine dy (K:=K) (F:=dB K H0) (bQ K) (λxs=>cm xs ys) gx qx hz (λa b=>a.same b) (λa b=>a.same b) ?_ ?_
  ·rintro i ns x H' NY NN en s ⟨u,rfl,_,hu⟩ k;obtain e1|e2:=hr1 ns (av en);exists #[u,q,ns,ys,rfl,hu,hq.same s,e1.symm,(),e2,λr H2 s2 h2'=>k _ _ s2 h2']
  ·rintro ys' H' r hr s g pr nx;exact kk r H' hr s #[ys',g,pr]
theorem Cq:ba ["system","rows"] ["system","rows"] (aN ph):=by walk_at "d"
theorem tZ (T:Txt K mg Z) (ptree:P.given.tree=none):cB P w K mg base fL 6 Z.wX Z.wg ["system","rows"] (C8 K Z.a_System):=by
 have Mf:=Jg (P:=P) (w:=w) (base:=base) T ptree;refine T.kK.F.ok Cq (λvs H Q E h=>?_) (λcdv A outer s H vs Q E hr h=>?_)
 ·obtain x|p|H0|H1|mv|pt|lk|R|rfl|_:=h;rfl
 ·obtain x|p|H0|H1|mv|pt|lk|R|rfl|S|D|G|l100|wR|hf|k:=h;refine #[_,(az (aV (b9 ["row"] ["system"] [0] (cE (pv 1)) (λ_=>(aU (i:=0) (show ND9 ["row","system"] by decide +kernel))) (λ_=>cw) (λ_=>(cy Mf hr T.kD (aa (Kj K (pv 1) rfl) (aa (pv 0) ai))))))),?_];refine aT (σ:=[some (.ref x),some (.ref p)]) rfl ?_;obtain dx|a'|b'|c'|gx|_|_|_|Ga|Gb|Gc:=id S;have d8:=D.n8;obtain xs|gxs|qx|_:=id G;exists #[#[_,bR.of gxs],?_];refine dy (K:=K) (F:=dB K H1) (dB K H) (qW mv) gxs qx () (λa b=>a.same b) (λa b=>a.same b) ?_ ?_
  ·rintro i ns v H' NY NN en s ⟨u,rfl,_,hu⟩ k1;have mn:=av en;exists #[x,Z.a_System,dx,_,_,rfl,s _ _ gx,T.cl_System,T.na_move,FP,?_];exists #[a',u,H0,mv,ns,rfl,Ga.same s,hu,(),by rw[wR ns mn];lia,λxs hx=>#[by rw[D.mw xs hx,wR ns mn],hf xs hx ns mn],λr H2 nr s2 R2=>k1 _ _ s2 #[r,rfl,s.none nr,R2]]
  ·rintro ys H' r hr s g pr nx;exact k r H' hr s #[ys,g,pr,jV nx]
theorem jM:ba ["system","steps","lists","rows","step"] ["system","steps"] (aN rJ):=by walk_at "d"
theorem vN (T:Txt K mg Z) (ptree:P.given.tree=none):cB P w K mg base fL 7 Z.zh Z.yO ["system","steps"] (F8 K Z.a_System):=by
 have qF:=tZ (P:=P) (w:=w) (base:=base) T ptree;refine T.lN.F.ok jM (λvs H Q E h=>?_) (λcdv A outer s H vs Q E hr h=>?_)
 ·obtain x|u|H0|mv|pt|lk|rfl|_:=h;rfl
 ·obtain x|u|H0|mv|pt|lk|rfl|hu|S|D|F|k:=h
  refine #[_,(ar (aW (i:=2) jM.nd rfl (Or.inl rfl) (du ai))
   (ar (aW (i:=3) jM.nd rfl (Or.inl rfl) (jk (pv 0) rfl))
   (ar (dY PassesOwn.never rfl (cz rfl T.range (aa (pv 1) ai)) (aU (i:=4) jM.nd)
    (ar (ie (tV cS c4 cZ ja (pv 2) (aa (pv 3) ai)))
   (az (aW (i:=3) jM.nd rfl (Or.inl rfl) (cy qF hr T.kK (aa (pv 0) (aa (pv 3) ai)))))))
   (az (aV (pv 2)))))),?_]
  refine aT (σ:=[some (.ref x),some (.int u),none,none,none]) rfl ?_;obtain dx|a'|b'|c'|gx|_|_|_|Ga|Gb|Gc:=id S;have d8:=D.n8;have i4:=D.i4;exists cU λl H1 s1 n1 g1=>?_
  exists #[x,Z.a_System,dx,_,_,rfl,s1 _ _ gx,T.cl_System,T.na_put,D9,?_];walk_at "w";obtain bl|G0:=Gb.off n1;have G1:=G0.same s1;refine #[(),(),?_];refine d9 (n:=u) (λi σ' H'=>aH H H'/\∃q us y,σ'=[some (.ref x),some (.int u),some (.ref l),some (.ref q),y]/\q≠l/\H' l=some (.lst us)/\Paired (Iy K l H') (CM mv pt i) us/\bL K (ES l) H' q (pt.map (jI mv i))) #[s1,b',[],_,rfl,bl,g1,.nil,by rw[show pt.map (jI mv 0)=pt from iJ pt];exact G1] ?_ ?_
  ·rintro i σ' H' hi ⟨s',q,us,y,rfl,ql,gu,pu,Gq⟩;have lu:=pu.9;have la:(CM mv pt i).9=i:=by unfold CM;rw[aj,bZ]
   exists #[.inl #[rfl,_,bR.of gu],?_];exists iw gu (bC ()) ?_;have s2:aH H (upd H' l (.lst (us++[V.ref q]))):=s'.after n1;have g2:(upd H' l (.lst (us++[V.ref q]))) l=some (.lst (us++[V.ref q])):=aL
   have p2:Paired (Iy K l (upd H' l (.lst (us++[V.ref q])))) (CM mv pt (i+1)) (us++[V.ref q]):=by
    rw[Ad];exact bX (Paired.imp' (λ_ _ z=>Iy.upd z gu) pu) (.cons #[q,rfl,ql,Gq.updL gu off_ne ql] .nil)
   have Gq2:=Gq.updL (o:=.lst (us++[V.ref q])) gu off_ne ql;generalize upd H' l (.lst (us++[V.ref q]))=H2 at s2 g2 p2 Gq2 ⊢;walk_at "w"
   refine #[x,q,H0,ES l,mv,pt,lk,_,rfl,S.same s2,D,Gq2,by rw[aj];lia,λr hr=>?_,λxs hx r hr=>(by
     obtain y|hy|rfl:=aE.mp hr;exact ((F.row D.mw D.pw y hy).fit D.mw (D.pw y hy) ()).1 xs hx),λr H3 nr s3 G3=>?_]
   ·obtain y|hy|rfl:=aE.mp hr;exact jQ (D.pw y hy) i
   ·have e:(pt.map (jI mv i)).map (qW mv)=pt.map (jI mv (i+1)):=by rw[tP];rfl
    rw[e] at G3;exact #[s2.trans s3,r,_,_,rfl,λz=>(by rw[z,g2] at nr;cases nr),s3 _ _ g2,Paired.imp' (λ_ _ z=>Iy.same z s3) p2,G3.weakN λq h=>NA λz=>by rw[z,g2] at h;cases h]
  ·rintro σ' H' ⟨s',q,us,y,rfl,ql,gu,pu,Gq⟩;exists k l us H' n1 s' gu pu
theorem MU:ba ["one","other"] ["one","other"] (aN Ex):=by walk_at "d"
theorem Nz (T:Txt K mg Z) (ptree:P.given.tree=none):cB P w K mg base fL 3 Z.K5 Z.KR ["one","other"] (o8 K (λx y=>x - y)):=by
 have iY:=lY (P:=P) (w:=w) (base:=base) T ptree;refine T.Bm.F.ok MU (λvs H Q E h=>?_) (λcdv A outer s H vs Q E hr h=>?_)
 ·obtain p|q|a|b|c|d|rfl|hp|hq|hb|hd|sa|sb|sc|sd|k:=zX h;rfl
 ·obtain p|q|a|b|c|d|rfl|hp|hq|hb|hd|sa|sb|sc|sd|k:=zX h;refine #[_,(az (aV (cy iY hr T.jF (aa (bJ kB (bJ c5 (aX bu (pv 0) ak) (aX bu (pv 1) ak)) (bJ c5 (aX bu (pv 1) ak) (aX bu (pv 0) ak))) (aa (bJ c5 (aX bu (pv 0) ak) (aX bu (pv 1) ak)) ai))))),?_];refine aT (σ:=[some (.ref p),some (.ref q)]) rfl ?_;have hbd:0 < b*d:=jr hb hd;have sbd:Sz 8999000 (b*d):=(sb.mul sd).mono ();exists fU (show gJ _ _ from .inr #[_,_,sa,sd,()]) ?_;exists fU (show gJ _ _ from .inr #[_,_,sc,sb,()]) ?_;exists fU (show gJ _ _ from .inr #[_,_,sb,sd,()]) ?_;walk_at "w";exists #[_,_,rfl,(),sbd,λr H' s' h'=>?_];rw[if_neg (),if_neg ()] at h';exact k r H' s' h'
theorem Ej:ba ["one","other"] ["one","other"] (aN rE):=by walk_at "d"
theorem EG (T:Txt K mg Z) (ptree:P.given.tree=none):cB P w K mg base fL 4 Z.zb Z.yL ["one","other"] (xG K):=by
 have QL:=Nz (P:=P) (w:=w) (base:=base) T ptree;refine T.pV.F.ok Ej (λvs H Q E h=>?_) (λcdv A outer s H vs Q E hr h=>?_)
 ·obtain p|q|xq|yq|rfl|_:=h;rfl
 ·obtain p|q|xq|yq|rfl|hp|hq|hl|hz|hn|hm|k:=h;refine #[_,(az (aV (b9 ["mine","yours"] [] [] (pO rfl T.zip (aa (pv 0) (aa (pv 1) ai))) (λ_=>(mR K 2 (cO (aU (i:=0) (show ND9 ["mine","yours"] by decide +kernel)) (cO (aU (i:=1) (show ND9 ["mine","yours"] by decide +kernel)) i8)))) (λ_=>cw) (λ_=>(cy QL hr T.Bm (aa (pv 0) (aa (pv 1) ai))))))),?_];refine aT (σ:=[some (.ref p),some (.ref q)]) rfl ?_;obtain xs|gx|qx:=id hp;obtain ys|gy|qy:=id hq;have lx:=qx.9;have ly:=qy.9;exists #[#[_,bR.of gx],#[_,bR.of gy],?_];refine oP (K:=K) (xs:=xs) (ws:=ys) (λi zs H'=>aH H H'/\Paired (bQ K H') ((List.zipWith (λx y=>x - y) xq yq).take i) zs) (be (bC ())) () #[aH.refl _,.nil] (λi zs H' _ #[s,_]=>#[bR.of (s _ _ gx),bR.of (s _ _ gy)]) ?_ ?_
  ·rintro i x y zs H' r hx hy hlen ⟨s,hP⟩ hr;obtain n|en|hn1:=b6 qx hx;obtain m|em|hm1:=b6 qy hy;have s1:=aH.new (o:=.tup [x,y]) hr;have s01:=s.trans s1;have gr:(upd H' r (.tup [x,y])) r=some (.tup [x,y]):=aL;generalize upd H' r (.tup [x,y])=Hr at s1 s01 gr ⊢;exists #[_,_,n,m,rfl,hn1.same s01,hm1.same s01,hn n (av en),hm m (av em),λr3 H3 s3 h3=>?_];refine #[s01.trans s3,?_];have ez:(List.zipWith (λx y=>x - y) xq yq)[i]?=some (n - m):=by rw[bN,en,em]
   rw[take_snoc ez];exact bX (Paired.imp' (λ_ _ z=>z.same (s1.trans s3)) hP) (.cons h3 .nil)
  ·rintro zs H' hy ⟨s,hP⟩ l hl';rw[aJ (by rw[bD];lia)] at hP;exact k l _ (s.none hl') (s.trans (aH.new hl')) #[zs,aL,Paired.imp' (λ_ _ z=>z.same (aH.new hl')) hP]
theorem AI:ba ["grid","wide"] ["grid","wide"] (aN nO):=by walk_at "d"
theorem iS (T:Txt K mg Z) (ptree:P.given.tree=none):cB P w K mg base fL 1 Z.uA Z.ui ["grid","wide"] (FQ K):=by
 refine T.fH.F.ok AI (λvs H Q E h=>?_) (λcdv A outer s H vs Q E hr h=>?_)
 ·obtain p|w|H0|rows|rfl|_:=h;rfl
 ·obtain p|w|H0|rows|rfl|hp|hz|hw|hl|kk:=h;refine #[_,(az (aV (b9 ["place"] ["grid"] [0] (cz rfl T.range (aa (pv 1) ai)) (λ_=>(aU (i:=0) (show ND9 ["place","grid"] by decide +kernel) rfl (Or.inr rfl) (Or.inl rfl))) (λ_=>cw) (λ_=>(b9 ["line"] ["place"] [0] (Gy K (pv 1)) (λ_=>(aU (i:=0) (show ND9 ["line","place"] by decide +kernel))) (λ_=>cw) (λ_=>(aX (mI K (by rfl)) (pv 0) (pv 1)))))))),?_];refine aT (σ:=[some (.ref p),some (.int w)]) rfl ?_;exists #[(),(),?_];refine jc (n:=w) (dB K H) (λj=>rows.map λxs=>xs.getD j 0) hw (λa b=>a.same b) ?_ ?_
  ·rintro j H1 NY NN hj s1 k1;obtain xs|gx|qx|_:=hp.same s1;exists #[#[_,bR.of gx],?_];refine dy (K:=K) (F:=dB K H0) (bQ K) (λxs=>xs.getD j 0) gx qx hz (λa b=>a.same b) (λa b=>a.same b) ?_ ?_
   ·rintro i ns x H2 NY2 NN2 en s2 ⟨u,rfl,_,zs,gz,qz⟩ k2;obtain v|ev|hv:=LX qz (j:=j) (by rw[hl ns (av en)];exact hj);exists cH (bR.of gz) ev ?_;exact k2 _ _ (aH.refl _) hv
   ·rintro ys' H2 r hr s2 g pr nx;exact k1 _ _ s2 #[r,rfl,s1.none hr,ys',g,pr]
  ·rintro ys' H1 r hr s1 g pr nx;exact kk r H1 hr s1 #[ys',g,pr,jV nx]
theorem qM:ba ["self","state","puts","columns"] ["self","state","puts"] (aN gQ):=by walk_at "d"
theorem zO (T:Txt K mg Z) (ptree:P.given.tree=none):cB P w K mg base fL 5 Z.mK Z.mJ ["self","state","puts"] (C9 K Z.a_System):=by
 have eI:=iS (P:=P) (w:=w) (base:=base) T ptree;have yw:=A5 (P:=P) (w:=w) (base:=base) T ptree;refine T.tE.ok qM (λvs H Q E h=>?_) (λcdv A outer s H vs Q E hr h=>?_)
 ·obtain x|p|q|H0|mv|pt|lk|st|pu|rfl|_:=h;rfl
 ·obtain x|p|q|H0|mv|pt|lk|st|pu|rfl|S|D|F|hp|hq|l1|l2|fs|k:=h
  refine #[_,(ar (aW (i:=3) qM.nd rfl (Or.inl rfl) (cy eI hr T.fH (aa (jk (pv 0) rfl) (aa (jk (pv 0) rfl) ai))))
   (az (aV (b9 ["line","column"] ["state","puts"] [1,2] (pO rfl T.zip (aa (jk (pv 0) rfl) (aa (pv 3) ai))) (λ_=>(mR K 2 (cO (aU (i:=0) (show ND9 ["line","column","state","puts"] by decide +kernel)) (cO (aU (i:=1) (show ND9 ["line","column","state","puts"] by decide +kernel)) i8)))) (λ_=>cw) (λ_=>(cy yw hr T.jy (aa (bJ jS (pv 0) (pv 1)) (aa (bJ jS (pv 2) (pv 3)) ai)))))))),?_]
  refine aT (σ:=[some (.ref x),some (.ref p),some (.ref q),none]) rfl ?_;obtain dx|a|b|c|gx|n1|n2|n3|Ga|Gb|Gc:=id S;have d1:=D.n8;have d2:=D.i4;exists #[x,Z.a_System,dx,_,_,rfl,gx,T.cl_System,T.na_put,D9,?_];exists #[x,Z.a_System,dx,_,_,rfl,gx,T.cl_System,T.na_states,ma,?_];exists #[b,mv.9,H0,pt,rfl,Gb,(),(),D.pw,λt H1 nt s1 Gt=>?_];obtain as|ga|qa|_:=Ga.same s1;obtain ts|gt|qt|_:=id Gt;have la:=qa.9;have lt:=qt.9;rw[cx] at lt;have gx1:=s1 _ _ gx;exists #[x,Z.a_System,dx,_,_,rfl,gx1,T.cl_System,T.na_move,FP,?_];exists #[#[_,bR.of ga],#[_,bR.of gt],?_];refine oP (K:=K) (xs:=as) (ws:=ts) (λi ys H'=>aH H1 H'/\Paired (bQ K H') ((iC mv pt st pu).take i) ys) (be (bC ())) () #[aH.refl _,.nil] (λi ys H' _ #[s,_]=>#[bR.of (s _ _ ga),bR.of (s _ _ gt)]) ?_ ?_
  ·rintro i v1 v2 ys H' r h1 h2 hy ⟨s,pr⟩ hr;obtain line|el|u1|rfl|_|R1:=b6 qa h1;obtain col|ec|u2|rfl|_|R2:=b6 qt h2;have ml:=av el;have mc:=av ec;have sr:aH H' (upd H' r (.tup [.ref u1,.ref u2])):=aH.new hr;have gr:(upd H' r (.tup [.ref u1,.ref u2])) r=some (.tup [.ref u1,.ref u2]):=aL;have s2:=s.trans sr;generalize upd H' r (.tup [.ref u1,.ref u2])=H2 at sr gr s2 ⊢;have lc:col.9=pt.9:=gO col mc;have ll:line.9=mv.9:=D.mw line ml;obtain z1|g1|q1:=R1.same s2;obtain z2|g2|q2:=R2.same s2;have y1:=q1.9;have y2:=q2.9;exists kr g1 g2 (be (bC ())) λc1 H3 s3 n3' g3=>?_
   have s13:=s2.trans s3;obtain z3|g4|q3:=(hp.same s1).same s13;obtain z4|g5|q4:=(hq.same s1).same s13;have y3:=q3.9;have y4:=q4.9;exists kr g4 g5 (be (bC ())) λc2 H4 s4 n4 g6=>?_
   have s34:=s3.trans s4;exists #[c1,c2,line++col,st++pu,rfl,#[_,s4 _ _ g3,Paired.imp' (λ_ _ z=>z.same s34) (bX q1 q2)],#[_,g6,Paired.imp' (λ_ _ z=>z.same s4) (bX q3 q4)],by rw[aw,aw];lia,by rw[aw];lia,.sys ?_ fs,λr2 H5 s5 h5=>?_]
   ·refine F.fits λy hy=>?_
    rcases aA.mp hy with hy | hy
    ·exact .inl #[line,ml,hy]
    ·obtain j|_|rfl:=aE.mp mc;obtain xs|hx|rfl:=aE.mp hy;by_cases hj:j < xs.9
     ·refine .inr (.inl #[xs,hx,?_]);rw[ae,af hj];exact aK hj
     ·exact .inr (.inr (.inr (by rw[ae,a8 ()];rfl)))
   ·have em:(iC mv pt st pu)[i]?=some (cm (line++col) (st++pu)):=by
     unfold iC;rw[bN,el,ec]
    refine #[((s2.trans s34).trans s5),?_];rw[take_snoc em];exact bX (Paired.imp' (λ_ _ z=>(z.same (sr.trans s34)).same s5) pr) (.cons h5 .nil)
  ·rintro ys H' hy ⟨s,pr⟩ l hl;have lm:(iC mv pt st pu).9=mv.9:=by unfold iC;rw[bD,cx];lia
   rw[aJ ()] at pr;exact k l _ (s1.none (s.none hl)) ((s1.trans s).trans (aH.new hl)) #[ys,aL,Paired.imp' (λ_ _ z=>z.same (aH.new hl)) pr]
theorem xK:ba ["system","start","puts","states","row"] ["system","start","puts"] (aN AU):=by walk_at "d"
theorem LK (T:Txt K mg Z) (ptree:P.given.tree=none):cB P w K mg base fL 6 Z.HY Z.Ht ["system","start","puts"] (AA K Z.a_System):=by
 have Cd:=zO (P:=P) (w:=w) (base:=base) T ptree;refine T.yd.F.ok xK (λvs H Q E h=>?_) (λcdv A outer s H vs Q E hr h=>?_)
 ·obtain x|s|p|H0|H1|mv|pt|lk|pus|st|rfl|_:=h;rfl
 ·obtain x|s|p|H0|H1|mv|pt|lk|pus|st|rfl|S|D|F|Rs|ls|Gp|lp|wp|cf|k:=h
  refine #[_,(ar (aW (i:=3) xK.nd rfl (Or.inl rfl) (du (aa (dN qD (by rfl) T.list PyProof.Rows.boot_list (aa (pv 1) ai)) ai)))
   (ar (dY PassesOwn.never rfl (cE (pv 2)) (aU (i:=4) xK.nd)
    (az (ie (tV cS c4 cZ ja (pv 3) (aa (Qd (pv 0) T.cl_System T.qN Cd (hr.mono ()) T.sY .nil Dp (aa (aX bT (pv 3) (tU nH ak)) (aa (pv 4) ai))) ai)))))
   (az (aV (pv 3))))),?_]
  refine aT (σ:=[some (.ref x),some (.ref s),some (.ref p),none,none]) rfl ?_;have d1:=D.n8;obtain ss|gs|qs:=id Rs;obtain ps|gp|qp|_:=id Gp;have lps:=qp.9;exists #[s,ss,rfl,.inl (bR.of gs),λc hc=>?_];have sc:aH H (upd H c (.lst ss)):=aH.new hc;have Rc:bV K (upd H c (.lst ss)) c st:=#[ss,aL,Paired.imp' (λ_ _ z=>z.same sc) qs];generalize upd H c (.lst ss)=Hc at sc Rc ⊢;exists cU λl Hl sl nl gl=>?_
  have hl0:=sc.none nl;have s0:=sc.trans sl;have cl:c≠l:=λz=>by obtain _|g|_:=Rc;rw[z,nl] at g;cases g
  have pr0:Paired (yu K H l Hl) ((mW mv pt st pus).take 1) [V.ref c]:=by
   have:(mW mv pt st pus).take 1=[st]:=by
    have e:=take_snoc (tL (mv:=mv) (pt:=pt) (st:=st) (pus:=pus) (k:=0) (bg _));rw[e];rfl
   rw[this];exact .cons #[c,rfl,hc,cl,Rc.same sl] .nil
  exists #[#[_,bR.of (s0 _ _ gp)],?_];refine iq (K:=K) (a:=p) (xs:=ps) (λi σ' H'=>aH H H'/\(∃y ys,σ'=[some (.ref x),some (.ref s),some (.ref p),some (.ref l),y]/\H' l=some (.lst ys)/\Paired (yu K H l H') ((mW mv pt st pus).take (i+1)) ys)) #[s0,_,_,rfl,gl,pr0] (λi σ' H' _ #[e,_]=>bR.of (e _ _ gp)) ?_ ?_
  ·rintro i v σ' H' hv ⟨e,y,ys,rfl,g,pr⟩;obtain pu|epu|u|rfl|_|Ru:=b6 qp hv;have hi:i < pus.9:=(aM.mp epu).1;have mp:=av epu;have ly:=pr.9;rw[cN,vo] at ly;have ec:=tL (mv:=mv) (pt:=pt) (st:=st) (pus:=pus) (k:=i) ();have el:ys[i]?=some (ys[i]'()):=af ()
   obtain ⟨vl,evl,q,hq1,hq2,hq3,Rq⟩:∃vl,ys[i]?=some vl/\∃q,vl=V.ref q/\H q=none/\q≠l/\bV K H' q (qU mv pt st pus i):=by
    obtain xs|ex|w:=b6 pr el;rw[lH (),ec] at ex;cases ex;exact #[_,el,w]
   subst hq1
   have ey:∃zs,ys=zs++[V.ref q]:=by
    refine #[ys.take i,?_];rw[<- take_snoc evl,aJ ()]
   obtain zs|rfl:=ey;exists #[.inl #[rfl,_,bR.of g],?_];walk_at "w";obtain dx|_|_|_|gx|_:=S.same e;refine #[x,dx,_,rfl,gx,Lh,?_];exists cH (bR.of g) (wV _ _) ?_;exists #[x,q,u,H0,mv,pt,lk,_,pu,rfl,S.same e,D,F,Rq,Ru.same e,o7 ls (),wp pu mp,cf.both () mp,λr1 H2 n2 s2 R2=>?_];have gn:=s2 _ _ g;exists iw gn (bC ()) ?_;refine #[Lq (e.trans s2) hl0,_,_,rfl,aL,?_];rw[take_snoc (tL ()),rj epu];have rl:r1≠l:=λz=>by rw[z,g] at n2;cases n2
   exact bX (Paired.imp' (λ_ _ z=>(yu.same z s2).upd gn) pr) (.cons #[r1,rfl,e.none n2,rl,R2.updL gn rl] .nil)
  ·rintro σ' H' ⟨e,y,ys,rfl,g,pr⟩;walk_at "w";rw[aJ (by rw[vo];lia)] at pr;exact k l H' hl0 e #[ys,g,Paired.imp' (λ_ _ z=>yu.rowF z) pr,AX pr]
theorem Cp:ba ["many"] ["many"] (aN pe):=by walk_at "d"
theorem nY (T:Txt K mg Z) (ptree:P.given.tree=none):cB P w K mg base fL 1 Z.wW Z.we ["many"] (RQ K):=by
 refine T.jq.F.ok Cp (λvs H Q E h=>?_) (λcdv A outer s H vs Q E hr h=>?_)
 ·obtain m|rfl|_:=h;rfl
 ·obtain m|rfl|hm|k:=h;refine #[_,(az (aV (b9 ["place"] [] [] (cz rfl T.range (aa (pv 0) ai)) (λ_=>(aU (i:=0) (show ND9 ["place"] by decide +kernel))) (λ_=>cw) (λ_=>(vI (v:=.ref Z.a_NOUGHT) rfl T.mg_NOUGHT rfl))))),?_];refine aT (σ:=[some (.int m)]) rfl ?_;exists #[(),(),?_];refine jc (n:=m) (bQ K) (λ_=>0) () (λa b=>a.same b) ?_ ?_
  ·rintro i Ha NY NN hi sa k1;exists k1 _ _ (aH.refl _) #[_,rfl,T.sq_NOUGHT _]
  ·rintro ys H1 t ht s1 g1 pr _;exact k t H1 ht s1 #[ys,g1,by rw[<- NJ];exact pr]
theorem AH:ba ["system","steps"] ["system","steps"] (aN nN):=by walk_at "d"
theorem so (T:Txt K mg Z) (ptree:P.given.tree=none):cB P w K mg base fL 2 Z.uy Z.uh ["system","steps"] (FW K Z.a_System):=by
 have kf:=nY (P:=P) (w:=w) (base:=base) T ptree;refine T.jX.F.ok AH (λvs H Q E h=>?_) (λcdv A outer s H vs Q E hr h=>?_)
 ·obtain x|tt|H0|mv|pt|lk|rfl|_:=h;rfl
 ·obtain x|tt|H0|mv|pt|lk|rfl|hT|S|D|k:=h;refine #[_,(az (aV (b9 ["step"] ["system"] [0] (cz rfl T.range (aa (pv 1) ai)) (λ_=>(aU (i:=0) (show ND9 ["step","system"] by decide +kernel))) (λ_=>cw) (λ_=>(cy kf hr T.jq (aa (Kj K (pv 1) rfl) ai)))))),?_];refine aT (σ:=[some (.ref x),some (.int tt)]) rfl ?_;obtain dx|a'|b'|c'|gx|_|_|_|Ga|Gb|Gc:=id S;have i4:=D.i4;exists #[(),(),?_];refine jc (n:=tt) (dB K H) (λ(_:Nat)=>List.replicate pt.9 (0:Rat)) () (λa b=>a.same b) ?_ ?_
  ·rintro i Hb NY NN hi sa k1;exists #[x,Z.a_System,dx,_,_,rfl,sa _ _ gx,T.cl_System,T.na_ins,O9,?_];exists #[pt.9,rfl,(),λr H2 nr s2 R2=>k1 _ _ s2 #[r,rfl,sa.none nr,R2]]
  rintro ys Hz t ht sz g pr nx;have e:(List.range tt).map (λ(_:Nat)=>List.replicate pt.9 (0:Rat))=List.replicate tt (List.replicate pt.9 0):=by rw[Cj,bZ]
  rw[e] at pr nx;exact k t Hz ht sz #[ys,g,pr,jV nx]
theorem IL:ba ["system","start","goal","steps"] ["system","start","goal","steps"] (aN xQ):=by walk_at "d"
theorem A7 (T:Txt K mg Z) (ptree:P.given.tree=none):cB P w K mg base fL 7 Z.DT Z.DA ["system","start","goal","steps"] (F3 K Z.a_System):=by
 have Ig:=EG (P:=P) (w:=w) (base:=base) T ptree;have OM:=LK (P:=P) (w:=w) (base:=base) T ptree;have oy:=so (P:=P) (w:=w) (base:=base) T ptree;refine T.pW.F.ok IL (λvs H Q E h=>?_) (λcdv A outer s H vs Q E hr h=>?_)
 ·obtain x|s|g|tt|H0|mv|pt|lk|st|go|rfl|_:=h;rfl
 ·obtain x|s|g|tt|H0|mv|pt|lk|st|go|rfl|hT|S|D|F|Rs|ls|Rg|lg|cf|sg|k:=h;refine #[_,(az (aV (cy Ig hr T.pV (aa (pv 2) (aa (aX bT (cy OM hr T.yd (aa (pv 0) (aa (pv 1) (aa (cy oy hr T.jX (aa (pv 0) (aa (pv 3) ai))) ai)))) (tU nH ak)) ai))))),?_];refine aT (σ:=[some (.ref x),some (.ref s),some (.ref g),some (.int tt)]) rfl ?_;have d8:=D.n8;have i4:=D.i4;exists #[x,tt,H0,mv,pt,lk,rfl,(),S,D,λp1 H1 n1 s1 G1=>?_];exists #[x,s,p1,H0,H,mv,pt,lk,_,st,rfl,S.same s1,D,F,Rs.same s1,ls,G1,by rw[aQ];lia,λxs hx=>by rw[(fB.mp hx).2,aQ],cf,λp2 H2 n2 s2 G2=>?_];obtain us|gu|qu|_:=id G2;have lu:=qu.9;rw[vo,aQ] at lu;have ec:=tL (mv:=mv) (pt:=pt) (st:=st) (pus:=List.replicate tt (List.replicate pt.9 0)) (k:=tt) (by rw[aQ];exact ao _);have el:us[tt]?=some (us[tt]'()):=af ()
  obtain ⟨q,eq,Rq⟩:∃q,us[tt]?=some (V.ref q)/\bV K H2 q (jI mv tt st):=by
   obtain xs|ex|q|e|_|w:=b6 qu el;rw[ec] at ex;cases ex;rw[MJ D ls] at w;exact #[q,by rw[el,e],w]
  have ey:∃zs,us=zs++[V.ref q]:=by
   refine #[us.take tt,?_];rw[<- take_snoc eq,aJ ()]
  obtain zs|rfl:=ey
  have szp:∀y∈jI mv tt st,iI y:=λy hy=>by
   have:=(cf.state (k:=tt) (by rw[aQ];exact ao _)).szn (x:=y);rw[MJ D ls] at this;exact this hy
  exists cH (bR.of gu) (wV _ _) ?_;exists #[g,q,go,_,rfl,(Rg.same s1).same s2,Rq,by rw[lg,jQ ls],(),sg,szp,λr H3 n3 s3 R3=>k r H3 ((s1.trans s2).none n3) ((s1.trans s2).trans s3) R3]
theorem tR:ba ["lines","begin","place","at"] ["lines","begin","place"] (aN pA):=by walk_at "d"
theorem Cv (T:Txt K mg Z) (ptree:P.given.tree=none):cB P w K mg base fL 1 Z.wZ Z.wA ["lines","begin","place"] Di:=by
 refine T.og.F.ok tR (λvs H Q E h=>?_) (λcdv A outer s H vs Q E hr h=>?_)
 ·obtain l|p|ls|b|c|rfl|_:=h;rfl
 ·obtain l|p|ls|b|c|rfl|G|l1000|b1000|hc|k1|k2:=h
  refine #[_,(ar (dY PassesOwn.never rfl (LB rfl T.range (aa (pv 1) (aa (bB bf (by rfl) T.len aZ (aa (pv 0) ai)) ai))) (aU (i:=3) tR.nd)
    (az (cD (br tW (aX bT (aX bT (pv 0) (pv 3)) (pv 2)) ak (bw _)) (az (aV (pv 3))) bK)))
   (az (aV xZ))),?_]
  refine aT (σ:=[some (.ref p),some (.int b),some (.int c),none]) rfl ?_;obtain _|xs|gx|qx:=id G;have lx:=qx.9;exists #[_,_,rfl,.inl (bR.of gx),?_];rw[<- lx];exists #[#[(),(),(),()],?_];refine Dw (lo:=(b:Int)) (n:=((ls.9:Int) - (b:Int)).toNat) (λi σ' H'=>H'=H/\(∃y,σ'=[some (.ref p),some (.int b),some (.int c),y])/\∀s,b<=s->s < b+i->fJ ls s c=0) #[rfl,#[_,rfl],λs h1 h2=>absurd h2 ()] ?_ ?_
  ·rintro i σ' H' hi ⟨rfl,⟨y,rfl⟩,hz⟩;rw[show ((b:Int)+(i:Int))=((b+i:Nat):Int) by lia];obtain zs|v|ez|ev|mz|q|rfl|_|gq:=kz qx (i:=b+i) ();exists cH (bR.of gx) (iH ev) ?_;exists cH (bR.of gq) (Aj (hc zs mz)) ?_;walk_at "w";have ef:=My (c:=c) ez;by_cases e:zs.getD c 0=0
   ·rw[decide_eq_true e];exists #[rfl,#[_,rfl],λs h1 h2=>?_];by_cases e2:s=b+i
    ·rw[e2,ef,e];rfl
    ·exact hz s h1 ()
   ·rw[decide_eq_false e];exists k1 (b+i) () () (by rw[ef];exact U5.mpr e)
  ·rintro σ' H' ⟨rfl,⟨y,rfl⟩,hz⟩;exists k2 λt h1 h2=>hz t h1 ()
theorem mi:ba ["lines","at","place","before","used","by","swept"] ["lines","at","place","before"] (aN xS):=by walk_at "d"
theorem Jh (T:Txt K mg Z) (ptree:P.given.tree=none):cB P w K mg base fL 1 Z.DU Z.DB ["lines","at","place","before"] Dj:=by
 refine T.vm.F.ok mi (λvs H Q E h=>?_) (λcdv A outer s H vs Q E hr h=>?_)
 ·obtain l|p|ls|kk|c|n|b|rfl|_:=h;rfl
 ·obtain l|p|ls|kk|c|n|b|rfl|hl|G|l1000|hk|hw|n1000|hc|b0|sb|hs|k:=h
  refine #[_,(ar (aW (i:=4) mi.nd rfl (Or.inr rfl) (aX bT (pv 0) (pv 1)))
   (ar (aW (i:=5) mi.nd rfl (Or.inr rfl) (aX bT (pv 4) (pv 2)))
   (ar (pN 6 ["line"] ["used","by","place","before"] [4,5,2,3] mi.nd rfl rfl (cE (pv 0)) (λ_=>(aU (i:=0) (show ND9 ["line","used","by","place","before"] by decide +kernel) rfl (Or.inr rfl) (Or.inl rfl))) (λ_=>cw) (λ_=>(b9 ["mine","yours"] ["by","line","place","before"] [2,0,3,4] (Nq K rfl T.zip (aa (pv 0) (aa (pv 1) ai))) (λ_=>(mR K 2 (cO (aU (i:=0) (show ND9 ["mine","yours","by","line","place","before"] by decide +kernel)) (cO (aU (i:=1) (show ND9 ["mine","yours","by","line","place","before"] by decide +kernel)) i8)))) (λ_=>cw) (λ_=>(bJ (iQ rfl mi rfl rfl rfl ptree (sQ hr)) (bJ kB (bJ c5 (pv 2) (pv 0)) (bJ c5 (aX (mI K (by rfl)) (pv 3) (pv 4)) (pv 1))) (pv 5))))))
   (ar (gv (pv 4) (iB (pv 6) (pv 1) set_list))
   (az (aV (pv 6))))))),?_]
  refine aT (σ:=[some (.ref p),some (.int kk),some (.int c),some (.int b),none,none,none]) rfl ?_;obtain pl|xs|gx|qx:=id G;have lx:=qx.9;obtain zk|vk|ek|evk|mk|qk|rfl|qkl|gk:=kz qx hk;have wk:=hw zk mk;have ek':ls.getD kk []=zk:=by rw[ae,ek];rfl
  exists cH (bR.of gx) (iH evk) ?_;exists cH (bR.of gk) (Aj ()) ?_;exists #[#[_,bR.of gx],?_];refine fR (K:=K) (xs:=xs) (λi ys H'=>aH H H'/\Paired (K7 l H') ((ls.take i).map λzs=>List.zipWith (λx y=>(zk.getD c 0*x - zs.getD c 0*y).fdiv b) zs zk) ys) (be (bC ())) #[aH.refl _,.nil] (λi ys H' _ #[s,_]=>bR.of (s _ _ gx)) ?_ ?_
  ·rintro i v ys0 H' hx hlen ⟨s',pr⟩;obtain zs|ec|q|rfl|ql|gq:=b6 qx hx;have mz:=av ec;have wz:=hw zs mz;have gq':=s' _ _ gq;have gk':=s' _ _ gk;exists #[#[_,bR.of gq'],#[_,bR.of gk'],?_];refine oP (K:=K) (xs:=zs.map V.int) (ws:=zk.map V.int) (λj ys H2=>aH H' H2/\ys=((List.zipWith (λx y=>(zk.getD c 0*x - zs.getD c 0*y).fdiv b) zs zk).take j).map V.int) (be (bC (by rw[aj];lia))) (by rw[aj,aj];lia) #[aH.refl _,rfl] (λj ys H2 _ #[s2,_]=>#[bR.of (s2 _ _ gq'),bR.of (s2 _ _ gk')]) ?_ ?_
   ·rintro j v1 v2 ys H2 r h1 h2 hy ⟨s2,rfl⟩ hr
    obtain ⟨x,ex,rfl⟩:∃x,zs[j]?=some x/\V.int x=v1:=by
     rw[aF] at h1;cases e:zs[j]? with
     | none=>rw[e] at h1;cases h1
     | some x=>rw[e] at h1;exact #[x,rfl,cn h1]
    obtain ⟨y,ey,rfl⟩:∃y,zk[j]?=some y/\V.int y=v2:=by
     rw[aF] at h2;cases e:zk[j]? with
     | none=>rw[e] at h2;cases h2
     | some x=>rw[e] at h2;exact #[x,rfl,cn h2]
    have sr:aH H2 (upd H2 r (.tup [.int x,.int y])):=aH.new hr;have gr:(upd H2 r (.tup [.int x,.int y])) r=some (.tup [.int x,.int y]):=aL;generalize upd H2 r (.tup [.int x,.int y])=H3 at sr gr ⊢;have gq3:=sr _ _ (s2 _ _ gq');have sx:=hs zs mz x (av ex);have sy:=hs zk mk y (av ey);have s1:=hs zk mk _ (getD_in (e:=0) (show c < zk.9 by lia));have s3:=hs zs mz _ (getD_in (e:=0) (show c < zs.9 by lia));exists fU (show gJ _ _ from .inr #[_,_,s1,sx,()]) ?_;exists cH (bR.of gq3) (Aj ()) ?_;exists fU (show gJ _ _ from .inr #[_,_,s3,sy,()]) ?_;exists fU (show nD _ _ from #[b0,sb]) ?_;have ez:(List.zipWith (λx y=>(zk.getD c 0*x - zs.getD c 0*y).fdiv b) zs zk)[j]?=some ((zk.getD c 0*x - zs.getD c 0*y).fdiv b):=by rw[bN,ex,ey]
    exact #[s2.trans sr,by rw[take_snoc ez];simp]
   ·rintro ys H2 hy ⟨s2,rfl⟩ r hr;have sn:aH H2 (upd H2 r (.lst (((List.zipWith (λx y=>(zk.getD c 0*x - zs.getD c 0*y).fdiv b) zs zk).take (zs.map V.int).9).map V.int))):=aH.new hr;refine #[(s'.trans s2).trans sn,?_];rw[take_snoc ec,cG];refine bX (Paired.imp' (λ_ _ z=>(K7.same z s2).same sn) pr) (.cons #[r,rfl,ne_old (λz=>hl (s'.none (s2.none z))) hr,?_] .nil);rw[aL,aJ (by rw[bD,aj];lia)]
  ·rintro ys H1 hy ⟨s1,pr⟩ r hr;have sn:aH H1 (upd H1 r (.lst ys)):=aH.new hr;have gn:(upd H1 r (.lst ys)) r=some (.lst ys):=aL;have ly:=pr.9;rw[aj,cN] at ly;generalize upd H1 r (.lst ys)=H2 at sn gn ⊢;exists fI gn (fZ ()) rfl ?_;have s2:aH H1 (upd H2 r (.lst (ys.set kk (.ref qk)))):=sn.after hr;exists k r _ (s1.none hr) (s1.trans s2) #[ne_old (λz=>hl (s1.none z)) hr,_,aL,?_];unfold Hw;rw[ek'];rw[aJ ()] at pr;exact kx (Paired.imp' (λ_ _ z=>K7.same z s2) pr) kk #[qk,rfl,qkl,(s1.trans s2) _ _ gk]
theorem tS:ba ["lines","at","to","swapped"] ["lines","at","to"] (aN pB):=by walk_at "d"
theorem Cw (T:Txt K mg Z) (ptree:P.given.tree=none):cB P w K mg base fL 1 Z.w5 Z.wC ["lines","at","to"] yC:=by
 refine T.oh.F.ok tS (λvs H Q E h=>?_) (λcdv A outer s H vs Q E hr h=>?_)
 ·obtain l|p|ls|t|kk|rfl|_:=h;rfl
 ·obtain l|p|ls|t|kk|rfl|hl|G|l1000|ht|hk|k:=h
  refine #[_,(ar (aW (i:=3) tS.nd rfl (Or.inl rfl) (dN qD (by rfl) T.list PyProof.Rows.boot_list (aa (pv 0) ai)))
   (ar (gv (aX bT (pv 0) (pv 1)) (iB (pv 3) (pv 2) set_list))
   (ar (gv (aX bT (pv 0) (pv 2)) (iB (pv 3) (pv 1) set_list))
   (az (aV (pv 3)))))),?_]
  refine aT (σ:=[some (.ref p),some (.int t),some (.int kk),none]) rfl ?_;obtain pl|xs|gx|qx:=id G;have lx:=qx.9;obtain zt|vt|et|evt|_|Ft:=kz qx ht;obtain zk|vk|ek|evk|_|Fk:=kz qx hk;exists #[p,xs,rfl,.inl (bR.of gx),λc hc=>?_];have sc:aH H (upd H c (.lst xs)):=aH.new hc;have gc:(upd H c (.lst xs)) c=some (.lst xs):=aL;generalize upd H c (.lst xs)=Hc at sc gc ⊢;exists cH (bR.of (sc _ _ gx)) (iH evt) ?_;exists fI gc (fZ ()) rfl ?_;have s1:aH H (upd Hc c (.lst (xs.set kk vt))):=sc.after hc;have g1:(upd Hc c (.lst (xs.set kk vt))) c=some (.lst (xs.set kk vt)):=aL;generalize upd Hc c (.lst (xs.set kk vt))=H1 at s1 g1 ⊢;exists cH (bR.of (s1 _ _ gx)) (iH evk) ?_;exists fI g1 (fZ (by rw[d6];lia)) rfl ?_;have s2:aH H (upd H1 c (.lst ((xs.set kk vt).set t vk))):=s1.after hc;exists k c _ hc s2 #[ne_old hl hc,_,aL,?_];have et':ls.getD t []=zt:=by rw[ae,et];rfl
  have ek':ls.getD kk []=zk:=by rw[ae,ek];rfl
  unfold o6;rw[et',ek'];exact kx (kx (Paired.imp' (λ_ _ z=>K7.same z s2) qx) kk (K7.same Ft s2)) t (K7.same Fk s2)
theorem jL:ba ["rows","wide","lines","leads","before","place","many","at"] ["rows","wide"] (aN Eu):=by walk_at "d"
theorem GA (T:Txt K mg Z) (ptree:P.given.tree=none):cB P w K mg base fL 4 Z.K3 Z.KP ["rows","wide"] (C3 K):=by
 have iX:=pR (P:=P) (w:=w) (base:=base) T ptree;have eU:=kC (P:=P) (w:=w) (base:=base) T ptree;have Fp:=Cv (P:=P) (w:=w) (base:=base) T ptree;have Mg:=Jh (P:=P) (w:=w) (base:=base) T ptree;have Fq:=Cw (P:=P) (w:=w) (base:=base) T ptree;refine T.vS.F.ok jL (λvs H Q E h=>?_) (λcdv A outer s H vs Q E hr h=>?_)
 ·obtain p|n|w|H0|rows|rfl|_:=h;rfl
 ·obtain p|n|w|H0|rows|rfl|G|r100|n100|hw|F|k:=h
  refine #[_,(ar (pN 2 ["row"] [] [] jL.nd rfl rfl (cE (pv 0)) (λ_=>(aU (i:=0) (show ND9 ["row"] by decide +kernel))) (λ_=>cw) (λ_=>(cy iX hr T.ig (aa (pv 0) (aa (cy eU hr T.d7 (aa (pv 0) ai)) ai)))))
   (ar (aW (i:=3) jL.nd rfl (Or.inl rfl) (du ai))
   (ar (aW (i:=4) jL.nd rfl (Or.inl rfl) ak)
   (ar (dY PassesOwn.never rfl (cz rfl T.range (aa (pv 1) ai)) (aU (i:=5) jL.nd)
    (ar (aW (i:=6) jL.nd rfl (Or.inl rfl) (bB bf (by rfl) T.len aZ (aa (pv 3) ai)))
   (ar (aW (i:=7) jL.nd rfl (Or.inl rfl) (cy Fp hr T.og (aa (pv 2) (aa (pv 6) (aa (pv 5) ai)))))
   (az (cD (br EB (pv 7) xZ (bw _)) (ar (aW (i:=2) jL.nd rfl (Or.inl rfl) (cy Mg hr T.vm (aa (cy Fq hr T.oh (aa (pv 2) (aa (pv 7) (aa (pv 6) ai)))) (aa (pv 6) (aa (pv 5) (aa (pv 4) ai))))))
   (ar (aW (i:=4) jL.nd rfl (Or.inl rfl) (aX bT (aX bT (pv 2) (pv 6)) (pv 5)))
   (az (ie (tV cS c4 cZ ja (pv 3) (aa (pv 5) ai)))))) bK)))))
   (az (aV (cI (aa (Gz Kc (pv 2) Ki (Kh (bB bf (by rfl) T.len aZ (aa (pv 3) ai)))) (aa (pv 3) ai))))))))),?_]
  refine aT (σ:=[some (.ref p),some (.int n),none,none,none,none,none,none]) rfl ?_;obtain xs|gx|qx|_:=id G;obtain W|hW|W2|ent:=F.ent;obtain _|_|_|_|_|_|_|_|r15|r89:=id F;exists #[#[_,bR.of gx],?_];refine dy (K:=K) (as:=rows) (F:=dB K H0) (λ(H:Hp) (zs:List Int) (v:V)=>∃q,v=V.ref q/\H q=some (.lst (zs.map V.int))) kS gx qx () (λa b=>a.same b) (λ#[q,a,b] s=>#[q,a,s _ _ b]) ?_ ?_
  ·rintro i qs v H' NY NN ec s' ⟨u,rfl,_,R⟩ k1;have mx:=av ec;obtain M|hM:=F.rowM mx;obtain b1|sb:=hM.bot;have lq:(qs.map nm).9<=1000:=by rw[aj,hw qs mx];lia
   exists #[u,_,M,rfl,R.rowK,lq,hM,λH2 s2=>?_];exists #[u,_,M,_,rfl,(R.same s2).rowK,lq,hM,b1,sb,λr H3 n3 s3 g3=>k1 _ _ (s2.trans s3) #[r,rfl,g3]]
  rintro ys H1 lp0 hlp s1 g1 pr1 nx1;exists cU λqp H2 s2 nq gq=>?_
  have G2:tq qp H2 lp0 (rows.map kS):=#[(λz=>by rw[z,nq] at g1;cases g1),ys,s2 _ _ g1,Paired.imp' (λ_ _ #[q,a,b]=>#[q,a,(λz=>by rw[z,nq] at b;cases b),s2 _ _ b]) pr1];have hq0:H qp=none:=s1.none nq;have s02:=s1.trans s2;have hm:(rows.map kS).9=rows.9:=aj ..;clear g1 pr1 nx1;exists #[(),(),?_];refine d9 (n:=n) (λP σ' H'=>aH H H'/\∃lp ls ps d y1 y2 y3,σ'=[some (.ref p),some (.int n),some (.ref lp),some (.ref qp),some (.int d),y1,y2,y3]/\H' qp=some (.lst (kW ps))/\tq qp H' lp ls/\DX (rows.map kS) n P ls ps d) #[s02,lp0,rows.map kS,[],1,_,_,_,rfl,gq,G2,DX.start λzs hz=>by obtain x|hx|rfl:=aE.mp hz;rw[vw];exact hw x hx] ?_ ?_
  ·rintro P σ' H' hP ⟨s',lp,ls,ps,d,y1,y2,y3,rfl,gq',G',I⟩;have hl:=I.len;have kP:=I.el.kP;have km:=I.el.km;have lps:(kW ps).9=ps.9:=aj ..;have hqp:H' qp≠none:=by rw[gq'];exact λz=>nomatch z
   obtain z1|z2:=I.sz (r:=min rows.9 n) hW ent () (by rw[hm];exact ao _) r15;have big:(16*W)^min rows.9 n < 2^8999000:=bx (IY W2) (dc () ());exists #[_,_,rfl,.inl (bR.of gq'),?_];rw[lps];exists #[qp,lp,ls,ps.9,P,rfl,G',(),(),λzs hz=>by rw[I.wide zs hz];exact hP,λt h1 h2 h3=>?_,λhz=>?_]
   ·exists #[rfl,_,rfl,?_];rw[show decide (V.int (t:Int)=V.non)=false from decide_eq_false (λz=>nomatch z)];exists #[qp,lp,ls,t,ps.9,rfl,hqp,G',(),h2,(),λl1 Ha na sa Ga=>?_];exists #[qp,l1,_,ps.9,P,n,d,rfl,λz=>hqp (sa.none z),Ga,by rw[xB];lia,by rw[xB];lia,JT I.wide () h2,(),hP,I.d0,bx z1 big,λzs hz z hz'=>?_,λl2 Hb nb sb Gb=>?_]
    ·unfold o6 at hz;have key:∀ys,ys∈ls->∀z∈ys,Sz 8999000 z:=λys hy z hz=>bx (z2 ys hy z hz) big
     rcases cv hz with h | h
     ·rcases cv h with h | h
      ·exact key zs h z hz'
      ·rw[h] at hz';exact key _ (getD_in h2) z hz'
     ·rw[h] at hz';exact key _ (getD_in ()) z hz'
    have sab:=sa.trans sb;have I2:=I.step hW ent h1 h2 h3;have hk2:ps.9 < (Hw (o6 ls ps.9 t) ps.9 P d).9:=by rw[OB,xB];lia
    obtain n2|xs2|gx2|qx2:=id Gb;obtain zk|vk|ek|evk|mk|qk|rfl|_|gk:=kz qx2 hk2;have wk:=I2.wide zk mk;exists cH (bR.of gx2) (iH evk) ?_;exists cH (bR.of gk) (Aj ()) ?_;have gqb:=sab _ _ gq';exists #[.inl #[rfl,_,bR.of gqb],?_];exists iw gqb (bC ()) ?_;refine #[(s'.trans sab).after hq0,l2,_,ps++[P],_,_,_,_,rfl,?_,Gb.upd,?_]
    ·rw[aL];unfold kW;rw[cG];rfl
    ·have e:(Hw (o6 ls ps.9 t) ps.9 P d).getD ps.9 []=zk:=by rw[ae,ek];rfl
     rw[e] at I2;exact I2
   ·exists #[rfl,_,rfl,?_];rw[show decide (V.non=V.non)=true from decide_eq_true rfl];exists #[s',lp,ls,ps,d,_,_,_,rfl,gq',G',I.skip hz]
  rintro σ' H' ⟨s',lp,ls,ps,d,y1,y2,y3,rfl,gq',G',I⟩;obtain R|hR:=I.done hw F;have lps:(kW ps).9=ps.9:=aj ..;obtain nl|xs'|gx'|qx':=id G';exists #[_,_,rfl,.inl (bR.of gq'),?_];rw[lps];exists R9 (bR.of gx') λsl H3 s3 n3 g3=>?_
  rw[Ox] at g3;exists bU λt H4 s4 g4=>?_
  have s34:=s3.trans s4;exact k t sl qp R ps d _ H4 g4 (s34 _ _ gq') #[(λz=>by rw[z,gq'] at n3;cases n3),_,s4 _ _ g3,Paired.imp' (λ_ _ z=>K7.same z s34) (yD qx' ps.9)] (s'.trans s34) hR
theorem oG:ba ["rows","wide","due","found","answer","line","lead"] ["rows","wide","due"] (aN AN):=by walk_at "d"
theorem LG (T:Txt K mg Z) (ptree:P.given.tree=none):cB P w K mg base fL 5 Z.HS Z.G7 ["rows","wide","due"] (Ar K):=by
 have Fl:=GA (P:=P) (w:=w) (base:=base) T ptree;have kf:=nY (P:=P) (w:=w) (base:=base) T ptree;have iY:=lY (P:=P) (w:=w) (base:=base) T ptree;refine T.tJ.F.ok oG (λvs H Q E h=>?_) (λcdv A outer s H vs Q E hr h=>?_)
 ·obtain p|q|n|w|H0|rows|due|rfl|_:=h;rfl
 ·obtain p|q|n|w|H0|rows|due|rfl|G|Rd|hd|m99|n99|hw|F|k1|k2:=h
  refine #[_,(ar (aW (i:=3) oG.nd rfl (Or.inl rfl) (cy Fl hr T.vS (aa (b9 ["row","wanted"] [] [] (pO rfl T.zip (aa (pv 0) (aa (pv 2) ai))) (λ_=>(mR K 2 (cO (aU (i:=0) (show ND9 ["row","wanted"] by decide +kernel)) (cO (aU (i:=1) (show ND9 ["row","wanted"] by decide +kernel)) i8)))) (λ_=>cw) (λ_=>(bJ jS (pv 0) (du (aa (pv 1) ai))))) (aa (bJ eJ (pv 1) ak) ai))))
   (ar (cD (br LD (pv 1) (aX bu (pv 3) ak) (by with_unfolding_all rfl)) (az (aV xZ)) bK)
   (ar (aW (i:=4) oG.nd rfl (Or.inl rfl) (cy kf hr T.jq (aa (pv 1) ai)))
   (ar (dY PassesOwn.never rfl (pO rfl T.zip (aa (aX bu (pv 3) ak) (aa (aX bu (pv 3) ak) ai))) (xY rfl (cO (aU (i:=5) oG.nd) (cO (aU (i:=6) oG.nd) i8)))
    (az (gv (cy iY hr T.jF (aa (aX bT (pv 5) (pv 1)) (aa (aX bT (pv 5) (pv 6)) ai))) (iB (pv 4) (pv 6) set_list))))
   (az (aV (pv 4))))))),?_]
  refine aT (σ:=[some (.ref p),some (.int n),some (.ref q),none,none,none,none]) rfl ?_;obtain xs|gx|qx|_:=id G;obtain ds|gd|qd:=id Rd;have lx:=qx.9;have ld:=qd.9;have lj:=kF hd;exists #[#[_,bR.of gx],#[_,bR.of gd],?_];refine oP (K:=K) (xs:=xs) (ws:=ds) (λi ys H'=>aH H H'/\Paired (dB K H H') ((c6 rows due).take i) ys) (be (bC ())) () #[aH.refl _,.nil] (λi ys H' _ #[s,_]=>#[bR.of (s _ _ gx),bR.of (s _ _ gd)]) ?_ ?_
  ·rintro i v1 v2 ys H' r h1 h2 hy ⟨s,pr⟩ hr;obtain row|er|u|rfl|_|Ru:=b6 qx h1;obtain d|ed|nd:=b6 qd h2;have wr:=hw row (av er);have sr:aH H' (upd H' r (.tup [.ref u,v2])):=aH.new hr;have gr:(upd H' r (.tup [.ref u,v2])) r=some (.tup [.ref u,v2]):=aL;generalize upd H' r (.tup [.ref u,v2])=H2 at sr gr ⊢;have s2:=s.trans sr;exists cU λl1 H3 s3 n3 g3=>?_
   have s23:=s2.trans s3;obtain zs|gz|qz:=Ru.same s23;have lz:=qz.9;exists kr gz g3 (be (bC (by rw[bI];lia))) λl2 H4 s4 n4 g4=>?_
   refine #[s23.trans s4,?_];rw[take_snoc (Q7 er ed)];exact bX (Paired.imp' (λ_ _ z=>dB.same z ((sr.trans s3).trans s4)) pr) (.cons #[l2,rfl,s23.none n4,_,g4,Paired.imp' (λ_ _ z=>bQ.same z s4) (bX qz (.cons (nd.same s23) .nil))] .nil)
  rintro ys H1 hy ⟨s1,pr⟩ l hl;have sn:aH H1 (upd H1 l (.lst ys)):=aH.new hl;have gn:(upd H1 l (.lst ys)) l=some (.lst ys):=aL;rw[aJ ()] at pr;generalize upd H1 l (.lst ys)=H2 at sn gn ⊢;have GJ:bL K H H2 l (c6 rows due):=yi pr sn hl gn;have s02:=s1.trans sn;walk_at "w";rw[show ((n:Int)+1)=((n+1:Nat):Int) by lia];refine #[l,n+1,w,H,_,rfl,GJ,(),(),EY hw,F,λt lp qp R ps d ls H3 gt gq GZ s3 S=>?_];have s03:=s02.trans s3;have pn:=S.rr.le;exists #[qp,kW ps,rfl,.inl (bR.of gq),rfl,LO,?_];rw[NV];by_cases hn:n∈ps
  ·rw[decide_eq_true hn,show (if false=true then !true else true)=true from rfl];exists k2 R ps H3 S.rr hn s03
  ·rw[decide_eq_false hn,show (if false=true then !false else false)=false from rfl];obtain lR|wR|rr:=id S.rr;obtain _|zs|gz|qz:=id GZ;have lz:=qz.9;have hl':=S.len
   have low:∀j,j < ps.9->ps.getD j 0 < n:=λj hj=>by
    have:=rr.low j hj;have:ps.getD j 0≠n:=λz=>hn (by rw[<- z];exact getD_in hj)
    lia
   obtain _|_|_|_|_|_|_|_|_|e89:=id F;rw[lj] at e89;have dsz:Sz 8999000 d:=bx S.dsz (dc () (by rw[lj];lia));have lps:=NC (ps:=ps);exists #[n,rfl,(),λan H4 na s4 R4=>?_];rw[<- Pf (R:=R) (ps:=ps)] at R4;obtain vs0|g0|q0:=id R4;have gt4:=s4 _ _ gt;exists #[#[_,bR.of (s4 _ _ gz)],#[_,bR.of (s4 _ _ gq)],?_];refine Qs (K:=K) (xs:=zs) (ws:=kW ps) (λj σ' H'=>aH H3 H'/\∃y1 y2 vs,σ'=[some (.ref p),some (.int n),some (.ref q),some (.ref t),some (.ref an),y1,y2]/\H' an=some (.lst vs)/\Paired (bQ K H') (vB R ps n j) vs) () #[s4,_,_,vs0,rfl,g0,q0] (λj σ' H' _ #[e,_]=>#[bR.of (e _ _ gz),bR.of (e _ _ gq)]) ?_ ?_
   ·rintro j v1 v2 σ' H' r h1 h2 ⟨s',y1,y2,vs,rfl,ga,qa⟩ hr;obtain line|el|u|rfl|_|gu:=b6 qz h1;have wl:=S.wide line (av el);obtain pj|ej|rfl:=Qo h2;have hj:j < ps.9:=(aM.mp ej).1;have ejD:ps.getD j 0=pj:=by rw[ae,ej];rfl
    have pjn:=low j hj;rw[ejD] at pjn;have v0:=S.val j n;rw[My el] at v0
    have ed:line.getD pj 0=d:=by
     have h:=S.val j pj;rw[My el] at h;have u:=rr.unit j hj j hj;rw[if_pos rfl,ejD] at u;rw[u,xp] at h;exact dI.mp h
    have sr:aH H' (upd H' r (.tup [.ref u,.int pj])):=aH.new hr;have gr:(upd H' r (.tup [.ref u,.int pj])) r=some (.tup [.ref u,.int pj]):=aL;generalize upd H' r (.tup [.ref u,.int pj])=H5 at sr gr ⊢;have gu5:=(s'.trans sr) _ _ gu;exists cH (bR.of gu5) (Aj ()) ?_;exists cH (bR.of gu5) (Aj ()) ?_;rw[ed];exists #[_,d,rfl,S.d0,dsz,λr6 H6 s6 g6=>?_];have d0:(d:Rat)≠0:=λz=>S.d0 (sW z)
    have n6:bQ K H6 (cL R j n) (.ref r6):=by
     refine bQ.mk g6 ?_;rcases Int.lt_or_lt_of_ne S.d0 with hd' | hd'
     ·rw[if_pos hd',if_pos hd'];refine mU () ?_;rw[dZ,dZ,v0];grind
     ·rw[if_neg (),if_neg ()];refine mU hd' ?_;rw[v0];grind
    have ga6:=(sr.trans s6) _ _ ga;have la:=qa.9;rw[ib] at la;exists fI ga6 (fZ ()) rfl ?_;refine #[((s'.trans sr).trans s6).after na,_,_,_,rfl,aL,?_];rw[<- Pg S.rr hj,ejD];exact kx (Paired.imp' (λ_ _ z=>(bQ.same z (sr.trans s6)).updL ga6) qa) pj (n6.updL ga6)
   ·rintro σ' H' ⟨s',y1,y2,vs,rfl,ga,qa⟩;rw[show zs.9=ps.9 by lia] at qa;exists k1 an R ps d.natAbs H' S.rr hn (s03.none na) (s03.trans s') #[vs,ga,qa] (by have:=S.d0;lia) (by rw[<- lj];exact S.dsz) ?_;rw[<- lj];exact T5 (by have:=S.d0;lia) S.tp S.rr
theorem AE:ba ["rows","wide","due","answer","columns"] ["rows","wide","due"] (aN Ew):=by walk_at "d"
theorem GC (T:Txt K mg Z) (ptree:P.given.tree=none):cB P w K mg base fL 6 Z.K4 Z.KQ ["rows","wide","due"] (C5 K):=by
 have Ie:=LG (P:=P) (w:=w) (base:=base) T ptree;have eI:=iS (P:=P) (w:=w) (base:=base) T ptree;have kf:=nY (P:=P) (w:=w) (base:=base) T ptree;refine T.vT.F.ok AE (λvs H Q E h=>?_) (λcdv A outer s H vs Q E hr h=>?_)
 ·obtain p|q|n|w|w1|H0|rows|due|rfl|_:=h;rfl
 ·obtain p|q|n|w|w1|H0|rows|due|rfl|G|Rd|hd|m90|n90|hw|F|F1|k1|k2:=h
  refine #[_,(ar (aW (i:=3) AE.nd rfl (Or.inl rfl) (cy Ie hr T.tJ (aa (pv 0) (aa (pv 1) (aa (pv 2) ai)))))
   (ar (cD (br EB (pv 3) xZ (bw _)) (az (aV (cI (aa jR (aa (pv 3) ai))))) bK)
   (ar (aW (i:=4) AE.nd rfl (Or.inl rfl) (cy eI hr T.fH (aa (pv 0) (aa (pv 1) ai))))
   (az (aV (cI (aa jR (aa (cy Ie hr T.tJ (aa (bJ jS (pv 4) (du (aa (pv 2) ai))) (aa (bB bf (by rfl) T.len aZ (aa (pv 0) ai)) (aa (bJ jS (cy kf hr T.jq (aa (pv 1) ai)) (du (aa (vI (v:=.ref Z.a_ONE) rfl T.mg_ONE rfl) ai))) ai)))) ai)))))))),?_]
  refine aT (σ:=[some (.ref p),some (.int n),some (.ref q),none,none]) rfl ?_;exists #[p,q,n,w,H0,rows,due,rfl,G,Rd,hd,(),(),hw,F,λx R ps M H1 RR hn nx s1 Rx M0 M1 tM=>?_,λR ps H1 RR hn s1=>?_]
  ·exists #[rfl,_,rfl,?_];rw[show decide (V.ref x=V.non)=false from decide_eq_false (λz=>nomatch z)];exists bU λt H2 s2 g2=>?_
   exact k1 t x R ps M H2 RR hn g2 nx (s1.trans s2) (Rx.same s2) M0 M1 tM
  ·exists #[rfl,_,rfl,?_];rw[show decide (V.non=V.non)=true from decide_eq_true rfl];exists #[p,n,H0,rows,rfl,G.same s1,(),(),hw,λco H2 nc s2 G2=>?_];have s02:=s1.trans s2;exists cU λl3 H3 s3 n3 g3=>?_
   obtain cs|gc|qc|_:=G2.same s3;have lc:=qc.9;rw[cx] at lc;exists kr gc g3 (be (bC (by rw[bI];lia))) λl4 H4 s4 n4 g4=>?_
   have s03:=s02.trans s3;have s04:=s03.trans s4;have G4:bL K (λ_=>none) H4 l4 (cp rows n++[due]):=yi (H:=H3) (bX (Paired.imp' (λ_ _ #[q',a,_,c]=>#[q',a,rfl,c]) qc) (.cons #[q,rfl,rfl,Rd.same s03] .nil)) s4 n4 g4;obtain xs|gx|qx|_:=G.same s04;have lx:=qx.9;exists #[_,_,rfl,.inl (bR.of gx),?_];rw[<- lx];exists #[n,rfl,(),λl5 H5 n5 s5 R5=>?_];exists cU λl6 H6 s6 n6 g6=>?_
   obtain zs|gz|qz:=R5.same s6;have lz:=qz.9;rw[aQ] at lz;exists kr gz g6 (be (bC (by rw[bI];lia))) λl7 H7 s7 n7 g7=>?_
   have s47:=(s5.trans s6).trans s7;have s07:=s04.trans s47;have R7:bV K H7 l7 (List.replicate n 0++[1]):=#[_,g7,Paired.imp' (λ_ _ z=>bQ.same z s7) (bX qz (.cons #[_,rfl,T.sq_ONE _] .nil))];have l1:(cp rows n++[due]).9=n+1:=by rw[aw,cx];rfl
   have w1':∀xs∈cp rows n++[due],xs.9=rows.9:=λxs hx=>by
    rcases aA.mp hx with hx | hx
    ·exact gO xs hx
    ·rw[bA.mp hx];exact hd
   exists #[l4,l7,rows.9,w1,_,_,_,rfl,G4.same s47,R7,by rw[l1,aw,aQ];rfl,(),(),w1',F1,λx R1 p1 M H8 RR1 hn1 nx s8 Rx M0 M1 tM=>?_,λR1 p1 H8 RR1 hn1 s8=>?_]
   ·exists bU λt H9 s9 g9=>?_
    rw[l1] at M1 tM;exact k2 t x R ps R1 p1 M H9 RR hn RR1 hn1 g9 (s07.none nx) ((s07.trans s8).trans s9) (Rx.same s9) M0 M1 tM
   ·exact absurd hn1 (Ly hd hw RR hn RR1)
theorem Em:ba ["lists","joined","each"] ["lists"] (aN IQ):=by walk_at "d"
theorem Kk (T:Txt K mg Z) (ptree:P.given.tree=none):cB P w K mg base fL 1 Z.OF Z.Ou ["lists"] F5:=by
 refine T.vU.F.ok Em (λvs H Q E h=>?_) (λcdv A outer s H vs Q E hr h=>?_)
 ·obtain p|us|zss|rfl|_:=h;rfl
 ·obtain p|us|zss|rfl|gx|qx|hl|k:=h
  refine #[_,(ar (aW (i:=1) Em.nd rfl (Or.inl rfl) (du ai))
   (ar (dY PassesOwn.never rfl (cE (pv 0)) (aU (i:=2) Em.nd)
    (az (ie (tV cS PySem.F.slot_list_extend PySem.F.type_list_extend LP (pv 1) (aa (pv 2) ai)))))
   (az (aV (pv 1))))),?_]
  refine aT (σ:=[some (.ref p),none,none]) rfl ?_;have lx:=qx.9;exists cU λj H1 s1 n1 g1=>?_
  exists #[#[_,bR.of (s1 _ _ gx)],?_];refine iq (K:=K) (a:=p) (xs:=us) (λi σ' H'=>aH H H'/\∃x:Option V,σ'=[some (.ref p),some (.ref j),x]/\H' j=some (.lst (zss.take i).flatten)) #[s1,none,rfl,g1] (λi σ' H' _ #[s,_]=>bR.of (s _ _ gx)) ?_ ?_
  ·rintro i x σ' H' hx ⟨s,y,rfl,gj⟩;obtain zs|ez|q|rfl|gz:=b6 qx hx;have tl:(zss.take (i+1)).flatten=(zss.take i).flatten++zs:=by rw[take_snoc ez,eY];simp
   have bl:(zss.take i).flatten.length+zs.9<=1000:=by
    have e:zss.flatten=(zss.take (i+1)).flatten++(zss.drop (i+1)).flatten:=by rw[<- eY,List.take_append_drop]
    rw[e,tl,aw,aw] at hl
    lia
   exists #[.inl #[rfl,_,bR.of gj],?_];exists #[j,q,_,zs,rfl,rfl,gj,s _ _ gz,be (bC ()),?_];exact #[s.after n1,_,rfl,by rw[aL,tl]]
  ·rintro σ' H' ⟨s,y,rfl,gj⟩;rw[aJ ()] at gj;exists k j H' n1 s gj
theorem vJ (T:Txt K mg Z) (ptree:P.given.tree=none):cB P w K mg base fL 4 Z.yr Z.yl ["one","other"] (J8 K):=by
 have eU:=kC (P:=P) (w:=w) (base:=base) T ptree;have iX:=pR (P:=P) (w:=w) (base:=base) T ptree;have iY:=lY (P:=P) (w:=w) (base:=base) T ptree;refine T.jy.F.ok iM (λvs H Q E h=>?_) (λcdv A outer s H vs Q E hr h=>?_)
 ·obtain p|q|xs|ys|rfl|_:=h;rfl
 ·obtain p|q|xs|ys|rfl|hp|hq|hl|hz|⟨⟨M,h1⟩,⟨N,h2⟩⟩|kk:=h
  refine #[_,(ar (aW (i:=2) iM.nd rfl (Or.inl rfl) (cy eU hr T.d7 (aa (pv 0) ai)))
   (ar (aW (i:=3) iM.nd rfl (Or.inl rfl) (cy eU hr T.d7 (aa (pv 1) ai)))
   (ar (aW (i:=4) iM.nd rfl (Or.inl rfl) (A2 rfl T.list rfl T.zip (aa (cy iX hr T.ig (aa (pv 0) (aa (pv 2) ai))) (aa (cy iX hr T.ig (aa (pv 1) (aa (pv 3) ai))) ai))))
   (az (aV (cy iY hr T.jF (aa (bB (HP rfl) (by rfl) T.sum PyProof.Rows.boot_sum (aa (b9 ["mine","yours"] [] [] (cE (pv 4)) (λ_=>(mR K 2 (cO (aU (i:=0) (show ND9 ["mine","yours"] by decide +kernel)) (cO (aU (i:=1) (show ND9 ["mine","yours"] by decide +kernel)) i8)))) (λ_=>cw) (λ_=>(bJ c5 (pv 0) (pv 1)))) ai)) (aa (bJ c5 (pv 2) (pv 3)) ai)))))))),?_]
  refine aT (σ:=[some (.ref p),some (.ref q),none,none,none]) rfl ?_;replace hp:=hp.rowK;replace hq:=hq.rowK;replace hl:(ys.map nm).9=(xs.map nm).9:=by simpa using hl
  replace hz:(xs.map nm).9<=1000:=by simpa using hz
  obtain b1|s1:=h1.bot;obtain b2|s2:=h2.bot;have k2:∀r H',aH H H'->H' r=some (.tup [.int (lo (JB (xs.map nm) (ys.map nm)) (ft (xs.map nm)*ft (ys.map nm))),.int (hi (JB (xs.map nm) (ys.map nm)) (ft (xs.map nm)*ft (ys.map nm)))])->Q (.ref r) H':=λr H' s g=>kk r H' s (bQ.mk g (KH b1 b2))
  clear kk;generalize xs.map nm=ns at hp hq hl hz h1 h2 b1 b2 s1 s2 k2;generalize ys.map nm=ms at hp hq hl hz h1 h2 b1 b2 s1 s2 k2;have hb:0 < ft ns*ft ms:=jr b1 b2;exists #[p,ns,M,rfl,hp,hz,h1,λH1 t1=>?_];exists #[q,ms,N,rfl,hq.same t1,(),h2,λH2 t2=>?_];have u2:=t1.trans t2;exists #[p,ns,M,_,rfl,hp.same u2,hz,h1,b1,s1,λr1 H3 n3 t3 g3=>?_];exists #[q,ms,N,_,rfl,(hq.same u2).same t3,(),h2,b2,s2,λr2 H4 n4 t4 g4=>?_];exists #[r1,r2,_,_,rfl,bR.of (t4 _ _ g3),bR.of g4,by simp [dO,hl],λL ts H5 t5 n5 g5 pr=>?_];have lt:=pr.9;have ll:(dO ns (ft ns)).9=ns.9:=by simp [dO]
  have lm:(dO ms (ft ms)).9=ns.9:=by simp [dO,hl]
  rw[qY,aj,aj,ll,lm] at lt;exists #[#[_,bR.of g5],?_];refine fR (K:=K) (xs:=ts) (λi ys H'=>H'=H5/\ys=((List.zipWith (λx y=>x*y) (dO ns (ft ns)) (dO ms (ft ms))).take i).map V.int) (be (bC ())) #[rfl,rfl] (λi ys H' _ #[e,_]=>by subst e;exact bR.of g5) ?_ ?_
  ·rintro i x ys H' hx hlen ⟨rfl,rfl⟩;obtain pq|epq|T|rfl|gT:=b6 pr hx;obtain t|u|et|eu|rfl:=JN epq;exists fU (show gJ _ _ from .inr #[_,_,vv h1 b1 s1 (av et),vv h2 b2 s2 (av eu),()]) ?_;have ez:(List.zipWith (λx y=>x*y) (dO ns (ft ns)) (dO ms (ft ms)))[i]?=some (t*u):=by rw[bN,et,eu]
   exact #[rfl,by rw[take_snoc ez];simp]
  ·rintro ys H' hy ⟨rfl,rfl⟩ l hl';exists #[l,List.zipWith (λx y=>x*y) (dO ns (ft ns)) (dO ms (ft ms)),rfl,bR.of (by rw[aL,aJ (by rw[bD];lia)]),?_];exists fU (show gJ _ _ from .inr #[_,_,s1,s2,()]) ?_;exists #[_,_,rfl,(),(s1.mul s2).mono (),λr H6 t6 g6=>?_];rw[if_neg (),if_neg ()] at g6;exact k2 r H6 ((((u2.trans t3).trans t4).trans t5).trans ((aH.new hl').trans t6)) g6
theorem vM (T:Txt K mg Z) (ptree:P.given.tree=none):cB P w K mg base fL 5 Z.yt Z.ym ["grid","row"] (J6 K):=by
 have G_row_dot_R:=vJ (P:=P) (w:=w) (base:=base) T ptree;refine T.kD.F.ok AJ (λvs H Q E h=>?_) (λcdv A outer s H vs Q E hr h=>?_)
 ·obtain p|q|H0|rows|ys|rfl|_:=h;rfl
 ·obtain p|q|H0|rows|ys|rfl|hp|hq|hz|hl|hr1|kk:=h;refine #[_,(az (aV (b9 ["line"] ["row"] [1] (cE (pv 0)) (λ_=>(aU (i:=0) (show ND9 ["line","row"] by decide +kernel))) (λ_=>cw) (λ_=>(cy G_row_dot_R hr T.jy (aa (pv 0) (aa (pv 1) ai))))))),?_];refine aT (σ:=[some (.ref p),some (.ref q)]) rfl ?_;obtain xs|gx|qx|_:=id hp;exists #[#[_,bR.of gx],?_];refine dy (K:=K) (F:=dB K H0) (bQ K) (λxs=>cm xs ys) gx qx hz (λa b=>a.same b) (λa b=>a.same b) ?_ ?_
  ·rintro i ns x H' NY NN en s ⟨u,rfl,_,hu⟩ k;obtain e1|e2:=hr1 ns (av en);exists #[u,q,ns,ys,rfl,hu,hq.same s,e1.symm,(),e2,λr H2 s2 h2'=>k _ _ s2 h2']
  ·rintro ys' H' r hr s g pr nx;exact kk r H' hr s #[ys',g,pr]
theorem tQ:ba ["one","other","wide","columns"] ["one","other","wide"] (aN pk):=by walk_at "d"
theorem Cu (T:Txt K mg Z) (ptree:P.given.tree=none):cB P w K mg base fL 6 Z.wY Z.wo ["one","other","wide"] (Az K):=by
 have eI:=iS (P:=P) (w:=w) (base:=base) T ptree;have G_grid_on_R:=vM (P:=P) (w:=w) (base:=base) T ptree;refine T.oa.F.ok tQ (λvs H Q E h=>?_) (λcdv A outer s H vs Q E hr h=>?_)
 ·obtain p|q|w|H0|H1|one|other|rfl|_:=h;rfl
 ·obtain p|q|w|H0|H1|one|other|rfl|hp|hq|z1|z2|hw|h1|h2|kk:=h
  refine #[_,(ar (aW (i:=3) tQ.nd rfl (Or.inr rfl) (cy eI hr T.fH (aa (pv 1) (aa (pv 2) ai))))
   (az (aV (b9 ["line"] ["columns"] [3] (cE (pv 0)) (λ_=>(aU (i:=0) (show ND9 ["line","columns"] by decide +kernel))) (λ_=>cw) (λ_=>(cy G_grid_on_R hr T.kD (aa (pv 1) (aa (pv 0) ai)))))))),?_]
  refine aT (σ:=[some (.ref p),some (.ref q),some (.int w),none]) rfl ?_;exists #[q,w,H1,other,rfl,hq,z2,hw,h2,λc H2 nc s2 hc=>?_];obtain xs|gx|qx|_:=hp.same s2;exists #[#[_,bR.of gx],?_];refine dy (K:=K) (F:=dB K H0) (dB K H) (λxs=>(cp other w).map λys=>cm ys xs) gx qx z1 (λa b=>a.same b) (λa b=>a.same b) ?_ ?_
  ·rintro i ns x H3 NY NN en s3 ⟨u,rfl,_,hu⟩ k;obtain e1|e2:=h1 ns (av en);exists #[c,u,H,cp other w,ns,rfl,hc.same s3,hu,by simp [cp];lia,(),λys hy=>#[?_,e2 ys hy],λr H4 nr s4 hr=>k _ _ s4 #[r,rfl,s2.none (s3.none nr),hr]];obtain j|_|rfl:=aE.mp hy;rw[aj];exact e1.symm
  ·rintro ys' H3 r hr s3 g pr nx;exact kk r H3 (s2.none hr) (s2.trans s3) #[ys',g,pr,jV nx]
theorem Lo:ba ["one","other"] ["one","other"] (aN AO):=by walk_at "d"
theorem LH (T:Txt K mg Z) (ptree:P.given.tree=none):cB P w K mg base fL 3 Z.HU Z.G9 ["one","other"] (Au K):=by
 have iY:=lY (P:=P) (w:=w) (base:=base) T ptree;refine T.ya.F.ok Lo (λvs H Q E h=>?_) (λcdv A outer s H vs Q E hr h=>?_)
 ·obtain u|v|x|y|rfl|hx|hy|y0|sx|sy|k:=h;rfl
 ·obtain u|v|x|y|rfl|hx|hy|y0|sx|sy|k:=h;obtain p|rfl|gp:=id hx;obtain q|rfl|gq:=id hy
  refine #[_,(ar (cD (br dS (aX bu (pv 1) ak) ak (bw _)) (az Kg) bK)
   (az (aV (cy iY hr T.jF (aa (bJ c5 (aX bu (pv 0) ak) (aX bu (pv 1) ak)) (aa (bJ c5 (aX bu (pv 0) ak) (aX bu (pv 1) ak)) ai)))))),?_]
  refine aT (σ:=[some (.ref p),some (.ref q)]) rfl ?_;obtain hb|e:=Qk (x:=x) y0;have yn:0 < (nm y).1:=qX.mp y0;walk_at "w";rw[decide_eq_false (show ¬((nm y).1=0) by lia)];exists fU (show gJ _ _ from .inr #[_,_,sx.1,sy.2,()]) ?_;exists fU (show gJ _ _ from .inr #[_,_,sx.2,sy.1,()]) ?_;exists #[_,_,rfl,(),(sx.2.mul sy.1).mono (),λr H' s' h'=>?_];rw[if_neg (),if_neg ()] at h';exact k r H' s' (bQ.mk h' e)
theorem Ek:ba ["weights","row"] ["weights","row"] (aN rF):=by walk_at "d"
theorem vK (T:Txt K mg Z) (ptree:P.given.tree=none):cB P w K mg base fL 4 Z.zf Z.yM ["weights","row"] (JZ K):=by
 have OJ:=LH (P:=P) (w:=w) (base:=base) T ptree;refine T.lM.F.ok Ek (λvs H Q E h=>?_) (λcdv A outer s H vs Q E hr h=>?_)
 ·obtain p|q|wq|xq|rfl|_:=h;rfl
 ·obtain p|q|wq|xq|rfl|hp|hq|hl|hz|hw|hx|k:=h;refine #[_,(az (aV (b9 ["value","weight"] [] [] (pO rfl T.zip (aa (pv 1) (aa (pv 0) ai))) (λ_=>(mR K 2 (cO (aU (i:=0) (show ND9 ["value","weight"] by decide +kernel)) (cO (aU (i:=1) (show ND9 ["value","weight"] by decide +kernel)) i8)))) (λ_=>cw) (λ_=>(cy OJ hr T.ya (aa (pv 0) (aa (pv 1) ai))))))),?_];refine aT (σ:=[some (.ref p),some (.ref q)]) rfl ?_;obtain ws|gw|qw:=id hp;obtain xs|gx|qx:=id hq;have lx:=qx.9;have lw:=qw.9;exists #[#[_,bR.of gx],#[_,bR.of gw],?_];refine oP (K:=K) (xs:=xs) (ws:=ws) (λi zs H'=>aH H H'/\Paired (bQ K H') ((tT wq xq).take i) zs) (be (bC ())) () #[aH.refl _,.nil] (λi zs H' _ #[s,_]=>#[bR.of (s _ _ gx),bR.of (s _ _ gw)]) ?_ ?_
  ·rintro i x y zs H' r h1 h2 hlen ⟨s,hP⟩ hr;obtain n|en|hn1:=b6 qx h1;obtain m|em|hm1:=b6 qw h2;obtain w0|w1:=hw m (av em);have s1:=aH.new (o:=.tup [x,y]) hr;have s01:=s.trans s1;have gr:(upd H' r (.tup [x,y])) r=some (.tup [x,y]):=aL;generalize upd H' r (.tup [x,y])=Hr at s1 s01 gr ⊢;exists #[_,_,n,m,rfl,hn1.same s01,hm1.same s01,w0,hx n (av en),w1,λr3 H3 s3 h3=>?_];refine #[s01.trans s3,?_];have ez:(tT wq xq)[i]?=some (n / m):=by unfold tT;rw[bN,en,em]
   rw[take_snoc ez];exact bX (Paired.imp' (λ_ _ z=>z.same (s1.trans s3)) hP) (.cons h3 .nil)
  ·rintro zs H' hy ⟨s,hP⟩ l hl';rw[aJ (by unfold tT;rw[bD];lia)] at hP;exact k l _ (s.none hl') (s.trans (aH.new hl')) #[zs,aL,Paired.imp' (λ_ _ z=>z.same (aH.new hl')) hP]
theorem tG:ba ["weights","lists","wide","rows","all_weights","columns"] ["weights","lists","wide"] (aN AR):=by walk_at "d"
theorem LI (T:Txt K mg Z) (ptree:P.given.tree=none):cB P w K mg base fL 7 Z.HW Z.Hq ["weights","lists","wide"] (J0 K):=by
 have Fo:=Kk (P:=P) (w:=w) (base:=base) T ptree;have eI:=iS (P:=P) (w:=w) (base:=base) T ptree;have Fn:=Cu (P:=P) (w:=w) (base:=base) T ptree;have tx:=vK (P:=P) (w:=w) (base:=base) T ptree;refine T.yb.F.ok tG (λvs H Q E h=>?_) (λcdv A outer s H vs Q E hr h=>?_)
 ·obtain q|l|n|us|Rs|ws|rfl|_:=h;rfl
 ·obtain q|l|n|us|Rs|ws|rfl|Rq|gl|pl|n1|l1|f1|fw|hx|hw|rc|k:=h
  refine #[_,(ar (aW (i:=3) tG.nd rfl (Or.inl rfl) (cy Fo hr T.vU (aa (pv 1) ai)))
   (ar (aW (i:=4) tG.nd rfl (Or.inr rfl) (cy Fo hr T.vU (aa (b9 ["each"] ["weights"] [0] (cE (pv 1)) (λ_=>(aU (i:=0) (show ND9 ["each","weights"] by decide +kernel))) (λ_=>cw) (λ_=>(pv 1))) ai)))
   (ar (aW (i:=5) tG.nd rfl (Or.inl rfl) (cy eI hr T.fH (aa (pv 3) (aa (pv 2) ai))))
   (az (aV (cy Fn hr T.oa (aa (b9 ["column"] ["all_weights"] [4] (cE (pv 5)) (λ_=>(aU (i:=0) (show ND9 ["column","all_weights"] by decide +kernel))) (λ_=>cw) (λ_=>(cy tx hr T.lM (aa (pv 1) (aa (pv 0) ai))))) (aa (pv 3) (aa (pv 2) ai))))))))),?_]
  refine aT (σ:=[some (.ref q),some (.ref l),some (.int n),none,none,none]) rfl ?_;have lu:=pl.9;obtain zss|pz|pr:=By pl;have pf:=lK pr;have lf:=pf.9;exists #[l,us,zss,rfl,gl,pz,(),λr1 H1 nr1 s1 g1=>?_];have G1:bL K (λ_=>none) H1 r1 Rs.flatten:=#[_,g1,Paired.imp' (λ_ _ #[a,b,_,d]=>#[a,b,rfl,d.same s1]) pf,jV #[H,nr1,pf]];obtain wz|gw|qw:=id Rq;exists #[#[_,bR.of (s1 _ _ gl)],?_];refine dy (K:=K) (F:=λ_ (_:LR9) _=>True) (λ_ (_:LR9) v=>v=V.ref q) id (as:=Rs) (s1 _ _ gl) (Paired.imp' (λ_ _ _=>trivial) pl) () (λa b=>a) (λa b=>a) ?_ ?_
  ·rintro i c x H' NY NN ec s' _ k1;exists k1 _ _ (aH.refl _) rfl
  rintro ys H2 r2 nr2 s2 g2 pr2 _;rw[iJ] at pr2;have s02:=s1.trans s2;have py:Paired (λzs u=>∃q,u=V.ref q/\H2 q=some (.lst zs)) (List.replicate Rs.9 wz) ys:=AY (λ_ y e=>#[q,e,s02 _ _ gw]) pr2;have pw:=lK (Ke (G:=λR zs=>Paired (bQ K H) R zs) qw Rs.9);have lw:=pw.9;exists #[r2,ys,_,rfl,g2,py,by unfold tF at fw;lia,λr3 H3 nr3 s3 g3=>?_];have s03:=s02.trans s3;have R3:bV K H3 r3 (tF ws Rs.9):=#[_,g3,Paired.imp' (λ_ _ z=>z.same s03) pw];have s13:=s2.trans s3;exists #[r1,n,_,_,rfl,G1.same s13,f1,(),λxs h=>(hx xs h).1,λr4 H4 nr4 s4 G4=>?_];obtain cs|gc|qc|_:=id G4;have lc:=qc.9;rw[cx] at lc;exists #[#[_,bR.of gc],?_];refine dy (K:=K) (F:=dB K H3) (dB K H3) (tT (tF ws Rs.9)) gc qc (by rw[cx];lia) (λa b=>a.same b) (λa b=>a.same b) ?_ ?_
  ·rintro i c x H' NY NN ec s' ⟨u,rfl,nu,Ru⟩ k1;have mc:=av ec;have wc:=gO c mc;exists #[r3,u,_,c,rfl,R3.same (s4.trans s'),Ru,by rw[fw,wc],(),λw h=>hw w (IE h),Al hx c mc,λr5 H5 nr5 s5 R5=>k1 _ _ s5 #[r5,rfl,(s4.trans s').none nr5,R5]]
  rintro zs H5 r5 nr5 s5 g5 pr5 nx5;have G5:bL K H3 H5 r5 ((cp Rs.flatten n).map (tT (tF ws Rs.9))):=#[zs,g5,pr5,jV nx5];have s15:=(s13.trans s4).trans s5;exists #[r5,r1,n,_,_,_,_,rfl,G5,G1.same s15,by rw[aj,cx];lia,f1,(),λxs h=>?_,λxs h=>(hx xs h).1,λr6 H6 nr6 s6 G6=>k r6 _ H6 ((s1.trans s15).none nr6) ((s1.trans s15).trans s6) G6];obtain ys'|hy|rfl:=aE.mp h;refine #[?_,λzs hz=>#[(rc zs hz).1,(rc ys' hy).2]];unfold tT;rw[bD,fw,gO ys' hy,fN]
theorem AG:ba ["rows","wide","found"] ["rows","wide"] (aN xO):=by walk_at "d"
theorem Je (T:Txt K mg Z) (ptree:P.given.tree=none):cB P w K mg base fL 5 Z.DR Z.Dy ["rows","wide"] (yB K):=by
 have Fl:=GA (P:=P) (w:=w) (base:=base) T ptree;have iY:=lY (P:=P) (w:=w) (base:=base) T ptree;refine T.vg.F.ok AG (λvs H Q E h=>?_) (λcdv A outer s H vs Q E hr h=>?_)
 ·obtain p|n|w|H0|rows|rfl|_:=h;rfl
 ·obtain p|n|w|H0|rows|rfl|G|r100|n100|hw|F|k:=h
  refine #[_,(ar (aW (i:=2) AG.nd rfl (Or.inl rfl) (cy Fl hr T.vS (aa (pv 0) (aa (pv 1) ai))))
   (az (aV (b9 ["line","lead"] [] [] (pO rfl T.zip (aa (aX bu (pv 2) ak) (aa (aX bu (pv 2) ak) ai))) (λ_=>(mR K 2 (cO (aU (i:=0) (show ND9 ["line","lead"] by decide +kernel) rfl (Or.inr rfl) (Or.inl rfl)) (cO (aU (i:=1) (show ND9 ["line","lead"] by decide +kernel) rfl (Or.inr rfl) (Or.inl rfl)) i8)))) (λ_=>cw) (λ_=>(b9 ["top"] ["line","lead"] [0,1] (Gy K (pv 0)) (λ_=>(aU (i:=0) (show ND9 ["top","line","lead"] by decide +kernel))) (λ_=>cw) (λ_=>(cy iY hr T.jF (aa (pv 0) (aa (aX (mI K (by rfl)) (pv 1) (pv 2)) ai)))))))))),?_]
  refine aT (σ:=[some (.ref p),some (.int n),none]) rfl ?_;obtain _|_|_|_|_|_|_|_|r15|r89:=id F;exists #[p,n,w,H0,rows,rfl,G,r100,n100,hw,F,λt lp qp R ps d ls H1 gt gq G1 s1 S=>?_];obtain lR|wR|RR:=id S.rr;have hl:=S.len;obtain _|xs|gx|qx:=id G1;have lx:=qx.9;have lps:(kW ps).9=ps.9:=aj ..;have d0:(d:Rat)≠0:=λz=>S.d0 (sW z)
  have dsz:Sz 8999000 d:=bx S.dsz (dc () ())
  have km:ps.9<=n:=by
   rcases cR n ps.9 with z | z
   ·have inc:∀j,j < ps.9->j<=ps.getD j 0:=by
     intro j
     induction j with
     | zero=>intro _;exact bg _
     | succ j ih =>
      intro hj;have:=ih ();have:=RR.inc j (j+1) () hj
      lia
    have h1:=inc (ps.9 - 1) ();have h2:=RR.low (ps.9 - 1) ()
    lia
   ·exact z
  exists #[#[_,bR.of gx],#[_,bR.of gq],?_];refine oP (K:=K) (xs:=xs) (ws:=kW ps) (λi ys H'=>aH H1 H'/\Paired (dB K H1 H') (R.take i) ys) (be (bC ())) () #[aH.refl _,.nil] (λi ys H' _ #[s,_]=>#[bR.of (s _ _ gx),bR.of (s _ _ gq)]) ?_ ?_
  ·rintro i v1 v2 ys H' r h1 h2 hy ⟨s,pr⟩ hr;obtain zs|ez|q|rfl|_|gq1:=b6 qx h1;have hi:i < ls.9:=(aM.mp ez).1;have mz:=av ez;have wz:=S.wide zs mz
   obtain ⟨j,ej,rfl⟩:∃j:Nat,ps[i]?=some j/\V.int (j:Int)=v2:=by
    unfold kW at h2;rw[aF] at h2;cases e:ps[i]? with
    | none=>rw[e] at h2;cases h2
    | some x=>rw[e] at h2;exact #[x,rfl,cn h2]
   have ej':ps.getD i 0=j:=by rw[ae,ej];rfl
   have jn:j < n:=by have:=RR.low i ();rw[ej'] at this;exact this
   have sr:aH H' (upd H' r (.tup [.ref q,.int j])):=aH.new hr;have gr:(upd H' r (.tup [.ref q,.int j])) r=some (.tup [.ref q,.int j]):=aL;generalize upd H' r (.tup [.ref q,.int j])=H2 at sr gr ⊢;have s2:=s.trans sr;have iR:i < R.9:=()
   have eR:=af iR;have wRi:=wR _ (aK iR)
   have ed:zs.getD j 0=d:=by
    have h:=S.val i j;rw[My ez] at h;have u:=RR.unit i () i ();rw[if_pos rfl,ej'] at u;rw[u,xp] at h;exact dI.mp h
   have val:∀c,((zs.getD c 0:Int):Rat)=(d:Rat)*(R[i]).getD c 0:=λc=>by
    have h:=S.val i c;rw[My ez] at h;rw[h];unfold cL;rw[ae (l:=R),eR];rfl
   exists #[#[_,bR.of (s2 _ _ gq1)],?_];refine fR (K:=K) (xs:=zs.map V.int) (λc ys' H3=>aH H2 H3/\Paired (bQ K H3) ((R[i]).take c) ys') (be (bC (by rw[aj];lia))) #[aH.refl _,.nil] (λc ys' H3 _ #[s3,_]=>bR.of ((s2.trans s3) _ _ gq1)) ?_ ?_
   ·rintro c x ys' H3 hx hlen ⟨s3,pr3⟩
    obtain ⟨z,ec,rfl⟩:∃z,zs[c]?=some z/\V.int z=x:=by
     rw[aF] at hx;cases e:zs[c]? with
     | none=>rw[e] at hx;cases hx
     | some x=>rw[e] at hx;exact #[x,rfl,cn hx]
    have hc:c < zs.9:=(aM.mp ec).1;have vc:=val c;have e1:zs.getD c 0=z:=by rw[ae,ec];rfl
    rw[e1] at vc;exists cH (bR.of ((s2.trans s3) _ _ gq1)) (Aj ()) ?_;rw[ed];exists #[z,d,rfl,S.d0,dsz,λr4 H4 s4 g4=>?_];have ec':(R[i])[c]?=some ((R[i]).getD c 0):=by rw[ae,af (show c < (R[i]).9 by lia)];rfl
    refine #[s3.trans s4,?_];rw[take_snoc ec'];refine bX (Paired.imp' (λ_ _ z=>bQ.same z s4) pr3) (.cons (bQ.mk g4 ?_) .nil);rcases Int.lt_or_lt_of_ne S.d0 with hd | hd
    ·rw[if_pos hd,if_pos hd];refine mU () ?_;rw[dZ,dZ,vc];grind
    ·rw[if_neg (),if_neg ()];refine mU hd ?_;rw[vc];grind
   ·rintro ys' H3 hy' ⟨s3,pr3⟩ l4 hl4;have sn:aH H3 (upd H3 l4 (.lst ys')):=aH.new hl4;refine #[(s2.trans s3).trans sn,?_];rw[take_snoc eR];rw[aJ (by rw[aj];lia)] at pr3;exact bX (Paired.imp' (λ_ _ z=>dB.same z ((sr.trans s3).trans sn)) pr) (.cons #[l4,rfl,(s2.trans s3).none hl4,ys',aL,Paired.imp' (λ_ _ z=>bQ.same z sn) pr3] .nil)
  ·rintro ys H' hy ⟨s,pr⟩ r hr;have sn:aH H' (upd H' r (.lst ys)):=aH.new hr;rw[aJ ()] at pr;refine k r R ps d.natAbs _ (s1.none (s.none hr)) ((s1.trans s).trans sn) #[ys,aL,Paired.imp' (λ_ _ z=>(dB.weak z s1).same sn) pr,jV (H0:=H1) (rows:=R) #[H',hr,pr]] S.rr S.km ?_ S.dsz S.tp;have:=S.d0
   lia
theorem md:ba ["system","steps","lists","rows"] ["system","steps"] (aN nM):=by walk_at "d"
theorem A6 (T:Txt K mg Z) (ptree:P.given.tree=none):cB P w K mg base fL 7 Z.uw Z.ug ["system","steps"] (Dg K Z.a_System):=by
 have Md:=Je (P:=P) (w:=w) (base:=base) T ptree;have qF:=tZ (P:=P) (w:=w) (base:=base) T ptree;refine T.mE.F.ok md (λvs H Q E h=>?_) (λcdv A outer s H vs Q E hr h=>?_)
 ·obtain x|a|c|st|H0|mv|pt|lk|rfl|_:=h;rfl
 ·obtain x|a|c|st|H0|mv|pt|lk|rfl|s1000|S|D|F|k:=h
  refine #[_,(ar (aW (i:=2) md.nd rfl (Or.inl rfl) (du (aa (du ai) ai)))
   (ar (AZ PassesOwn.never (br Nw (bB bf (by rfl) T.len aZ (aa (pv 2) ai)) (pv 1) (bw _))
    (ar (aW (i:=3) md.nd rfl (Or.inl rfl) (cy Md hr T.vg (aa (bJ jS (jk (pv 0) rfl) (cy qF hr T.kK (aa (pv 0) (aa (aX bT (pv 2) (tU nH ak)) ai)))) (aa (jk (pv 0) rfl) ai))))
   (ar (cD (br dS (bB bf (by rfl) T.len aZ (aa (pv 3) ai)) (bB bf (by rfl) T.len aZ (aa (aX bT (pv 2) (tU nH ak)) ai)) (bw _)) (az (aV (pv 2))) bK)
   (az (ie (tV cS c4 cZ ja (pv 2) (aa (pv 3) ai)))))))
   (az (aV (pv 2))))),?_]
  refine aT (σ:=[some (.ref x),some (.int st),none,none]) rfl ?_;obtain dx|a'|b'|c'|gx|_|_|_|Ga|Gb|Gc:=id S;have d8:=D.n8;have i4:=D.i4;have lP:=fj (mv:=mv) (pt:=pt) rfl D.pw;exists cU λq0 H1 s1 nq0 g1=>?_
  exists cU λl H2 s2 nl g2=>?_
  have s02:=s1.trans s2;have nl0:H l=none:=s1.none nl;obtain ⟨Hz,eHz⟩:∃Hz,Hz=upd H l (.lst []):=#[_,rfl];have zl:Hz l≠none:=by rw[eHz,aL];exact λz=>nomatch z
  have zn:∀q,Hz q=none->H q=none/\q≠l:=λq h=>by
   have ne:q≠l:=λz=>zl (by rw[<- z];exact h)
   rw[eHz,bM ne] at h;exact #[h,ne]
  have nz:∀q,H q=none->q≠l->Hz q=none:=λq h ne=>by rw[eHz,bM ne];exact h
  clear eHz;have q0l:q0≠l:=λz=>by rw[z,nl] at g1;cases g1
  have G0:bL K Hz H2 q0 []:=#[[],s2 _ _ g1,.nil,λz=>nomatch z];exists D5 (λσ' H'=>aH H H'/\∃Rs R us y,σ'=[some (.ref x),some (.int st),some (.ref l),y]/\H' l=some (.lst us)/\Paired (λR v=>∃q,v=V.ref q/\Hz q=none/\bL K Hz H' q R) (Rs++[R]) us/\BZ mv pt (Rs++[R])/\Rs.9<=st) (λ_ H'=>match H' l with | some (.lst us)=>st+1 - us.9 | _=>0) #[s02,[],[],_,_,rfl,g2,.cons #[q0,rfl,nz q0 nq0 q0l,G0] .nil,#[by simp,λt R e=>?_,λt R R' e e'=>?_],bg _] ?_
  ·have ht:=(aM.mp e).1;have:t=0:=by simpa using ht
   subst this;cases e;exact #[[],RX]
  ·have ht:=(aM.mp e').1;simp at ht
  rintro σ' Ha ⟨sa,Rs,R,us,y,rfl,gu,pa,Gw,hst⟩;have lu:=pa.9;rw[aw,bI] at lu;have eR:(Rs++[R])[Rs.9]?=some R:=by rw[bp (ao _),fM];rfl
  obtain ps|RR:=Gw.rr _ _ eR;have tn:Rs.9<=mv.9:=by have:=Gw.len _ _ eR;have:=RR.le;have:=RR.1;lia
  have fin:∀(Hx:Hp) (sx:aH Ha Hx) (hh:∀s,(Rs.9=st/\s=st\/Rs.9 < st/\Rs.9<=s)->∃ps,cC (kry mv pt s) mv.9 R ps),Q (.ref l) Hx:=λHx sx hh=>by
   refine k l (Rs++[R]) Hx nl0 (sa.trans sx) #[us,sx _ _ gu,Paired.imp' (λ_ _ #[q,e1,e2,e3]=>#[q,e1,(zn q e2).1,(zn q e2).2,bL.weakN (bL.same e3 sx) λq h=>(zn q h).1]) pa] Gw (by rw[aw,bI];lia) λR2 e2 s hs=>?_
   rw[List.getLast?_concat] at e2;cases e2;rw[aw,bI,Nat.add_sub_cancel] at hs;exact hh s hs
  exists #[_,_,rfl,.inl (bR.of gu),?_];exists gY (λh0=>?_) (λh0=>?_)
  ·have h0:=of_decide_eq_true h0;refine QZ ?_
   obtain ⟨zs,gS⟩:∃zs q,us=zs++[V.ref q]/\Hz q=none/\bL K Hz Ha q R:=by
    obtain ⟨v,ev,q,rfl,e2,e3⟩:∃v,us[Rs.9]?=some v/\∃q,v=V.ref q/\Hz q=none/\bL K Hz Ha q R:=by
     have ev:=af (show Rs.9 < us.9 by lia);obtain R2|e2|w:=b6 pa ev;rw[eR] at e2;cases e2;exact #[_,ev,w]
    refine #[us.take Rs.9,q,?_,e2,e3];rw[<- take_snoc ev,aJ ()]
   obtain q|rfl|zq|Gq:=gS;have gxa:=sa _ _ gx;exists #[x,Z.a_System,dx,_,_,rfl,gxa,T.cl_System,T.na_put,D9,?_];exists cH (bR.of gu) (wV _ _) ?_;have wR:=RR.2.1;have lR:=RR.1;have pn:=RR.le;exists #[x,q,H0,Hz,mv,pt,lk,R,rfl,S.same sa,D,Gq,(),wR,F.fit d8 D.mw D.pw tn RR,λmr Hb nmr sb Gm=>?_];obtain pv|gpv|qpv|_:=Gb.same (sa.trans sb);obtain mvs|gmv|qmv|_:=id Gm;have lpv:=qpv.9;have lmv:=qmv.9;rw[aj] at lmv;exists kr gpv gmv (be (bC ())) λcr Hc sc nc gc=>?_
   have sab:=sa.trans (sb.trans sc);have Gc':bL K (λ_=>none) Hc cr (pt++R.map (qW mv)):=yi (H:=Hb) (bX (Paired.imp' (λ_ _ #[q,e1,e2,e3]=>#[q,e1,rfl,e3]) qpv) (Paired.imp' (λ_ _ #[q,e1,e2,e3]=>#[q,e1,rfl,e3]) qmv)) sc nc gc;exists #[x,Z.a_System,dx,_,_,rfl,sab _ _ gx,T.cl_System,T.na_states,ma,?_];exists #[cr,mv.9,_,_,_,rfl,Gc',by rw[aw,aj];lia,(),λxs hx=>?_,F.step d8 D.mw D.pw tn RR,λrr R' ps' M' Hd nrr sd G' RR' pm' _ _ _=>?_]
   ·rcases aA.mp hx with hx | hx
    ·exact D.pw xs hx
    ·obtain y|_|rfl:=aE.mp hx;exact ED
   have sbd:=sb.trans (sc.trans sd);have sad:=sa.trans sbd;have K1:=Bu rfl D.mw D.pw RR RR';have gud:=sbd _ _ gu;obtain rv|grv|qrv|_:=id G';have lrv:=qrv.9;have lR':=RR'.1;have pn':=RR'.le;exists #[_,_,rfl,.inl (bR.of grv),?_];exists cH (bR.of gud) (wV _ _) ?_;obtain ov|gov|qov|_:=Gq.same sbd;have lov:=qov.9;exists #[_,_,rfl,.inl (bR.of gov),?_];exists gY (λh1=>?_) (λh1=>?_)
   ·have h1:=of_decide_eq_true h1;exists fin Hd sbd λs hs=>#[ps,?_]
    obtain ⟨s',rfl⟩:∃s',s=Rs.9+s':=#[s - Rs.9,()];exact LV rfl D.mw D.pw RR RR' () s'
   ·have h1:¬((rv.9:Int)=ov.9):=λz=>h1 (decide_eq_true z)
    have gr:=NR rfl D.mw D.pw RR K1;have rl:rr≠l:=λz=>by rw[z,(sb.trans sc) _ _ gu] at nrr;cases nrr
    have zc:∀q,Hc q=none->Hz q=none:=λq h=>nz q (sab.none h) (λz=>by rw[z,(sb.trans sc) _ _ gu] at h;cases h)
    exists #[.inl #[rfl,_,bR.of gud],?_];exists iw gud (bC ()) ?_;refine #[#[sad.after nl0,Rs++[R],R',_,_,rfl,aL,bX (Paired.imp' (λ_ _ #[q,e1,e2,e3]=>#[q,e1,e2,bL.updL (bL.same e3 sbd) gud zl (zn q e2).2]) pa) (.cons #[rr,rfl,zc rr nrr,bL.updL (G'.weakN zc) gud zl rl] .nil),Gw.snoc K1 (),by rw[aw,bI];lia],?_];simp only[gu,aL,aw,bI] at lu h0 ⊢
    lia
  ·have h0:¬((us.9:Int)<=st):=λz=>h0 (decide_eq_true z)
   walk_at "w"
   exact fin Ha (aH.refl _) λs hs=>#[ps,by
    have:s=Rs.9:=()
    rw[this];exact RR]
theorem rn:ba ["rows","wide","row","answer"] ["rows","wide","row"] (aN nK):=by walk_at "d"
theorem A4 (T:Txt K mg Z) (ptree:P.given.tree=none):cB P w K mg base fL 7 Z.uv Z.uf ["rows","wide","row"] (MM K):=by
 have Fm:=GC (P:=P) (w:=w) (base:=base) T ptree;have eI:=iS (P:=P) (w:=w) (base:=base) T ptree;refine T.mD.F.ok rn (λvs H Q E h=>?_) (λcdv A outer s H vs Q E hr h=>?_)
 ·obtain p|q|n|w|w1|H0|rows|row|rfl|_:=h;rfl
 ·obtain p|q|n|w|w1|H0|rows|row|rfl|G|Rr|hl|m90|n90|hw|F|F1|k0|k1:=h
  refine #[_,(ar (aW (i:=3) rn.nd rfl (Or.inl rfl) (cy Fm hr T.vT (aa (cy eI hr T.fH (aa (pv 0) (aa (pv 1) ai))) (aa (bB bf (by rfl) T.len aZ (aa (pv 0) ai)) (aa (pv 2) ai)))))
   (az (aV (cI (aa (Nu (br dS (aX bu (pv 3) ak) jR (bw _)) jR jR) (aa (aX bu (pv 3) ak) ai)))))),?_]
  refine aT (σ:=[some (.ref p),some (.int n),some (.ref q),none]) rfl ?_;exists #[p,n,H0,rows,rfl,G,(),(),hw,λco H1 nc s1 G1=>?_];obtain xs|gx|qx|_:=G.same s1;have lx:=qx.9;exists #[_,_,rfl,.inl (bR.of gx),?_];rw[<- lx];have lT:(cp rows n).9=n:=cx;have eS:Ea (cp rows n) rows.9 row=c6 (rows++[row]) (List.replicate rows.9 0++[1]):=by unfold Ea;rw[CZ hw]
  exists #[co,q,rows.9,w,w1,_,cp rows n,row,rfl,G1,Rr.same s1,(),(),(),λxs hx=>gO xs hx,F,by rw[eS,lT];exact F1,λt x R ps M H2 RR hn g2 nx s2 Rx M0 M1 tM=>?_,λt x R ps R1 p1 M H2 RR hn RR1 hn1 g2 nx s2 Rx M0 M1 tM=>?_]
  ·exact absurd (k0 R ps RR) hn
  ·rw[lT] at M1 tM RR1 hn1 Rx;rw[eS] at RR1;walk_at "w";rw[decide_eq_false (show ¬(Str.ofString "no"=Str.ofString "yes") by decide)];exists bU λt2 H3 s3 g3=>?_
   exact k1 t2 x R1 p1 H3 RR1 hn1 g3 (s1.none nx) ((s1.trans s2).trans s3) (Rx.same s3)
theorem RV:ba ["row","many","wide"] ["row","many","wide"] (aN MW):=by walk_at "d"
theorem SJ (T:Txt K mg Z) (ptree:P.given.tree=none):cB P w K mg base fL 1 Z.Rn Z.Rl ["row","many","wide"] Pd:=T.Jk.F.ok RV (λvs H Q E h=>(show False from h).elim) (λcdv A outer s H vs Q E hr h=>(show False from h).elim)
theorem vD:ba ["system","start","goal","steps","used","rows","answer","latest_first"] ["system","start","goal","steps"] (aN IS):=by walk_at "d"
theorem Qi (T:Txt K mg Z) (ptree:P.given.tree=none):cB P w K mg base fL 8 Z.OG Z.Ov ["system","start","goal","steps"] (F7 K Z.a_System):=by
 have CP:=A6 (P:=P) (w:=w) (base:=base) T ptree;have Fo:=Kk (P:=P) (w:=w) (base:=base) T ptree;have tz:=vN (P:=P) (w:=w) (base:=base) T ptree;have CO:=A4 (P:=P) (w:=w) (base:=base) T ptree;have yx:=A7 (P:=P) (w:=w) (base:=base) T ptree;have US:=SJ (P:=P) (w:=w) (base:=base) T ptree;have oy:=so (P:=P) (w:=w) (base:=base) T ptree;refine T.ET.F.ok vD (λvs H Q E h=>?_) (λcdv A outer s H vs Q E hr h=>?_)
 ·obtain x|s|g|tt|a|c|D0|W0|E0|W1|H0|mv|pt|lk|st|go|rfl|_:=h;rfl
 ·obtain x|s|g|tt|a|c|D0|W0|E0|W1|H0|mv|pt|lk|st|go|rfl|hT|S|D|SF|F|AF|Rs|ls|Rg|lg|cf|sg|CF|hr9|k1:=h
  refine #[_,(ar (aW (i:=4) vD.nd rfl (Or.inl rfl) (bJ kB (bB bf (by rfl) T.len aZ (aa (cy CP hr T.mE (aa (pv 0) (aa (pv 3) ai))) ai)) ak))
   (ar (aW (i:=5) vD.nd rfl (Or.inl rfl) (cy Fo hr T.vU (aa (cy tz hr T.lN (aa (pv 0) (aa (pv 4) ai))) ai)))
   (ar (aW (i:=6) vD.nd rfl (Or.inl rfl) (cy CO hr T.mD (aa (pv 5) (aa (jk (pv 0) rfl) (aa (cy yx hr T.pW (aa (pv 0) (aa (pv 1) (aa (pv 2) (aa (pv 3) ai))))) ai)))))
   (ar (cD (br dS (aX bu (pv 6) ak) jR (bw _)) (az (aV (cI (aa jR (aa (aX bu (pv 6) ak) ai))))) bK)
   (ar (aW (i:=7) vD.nd rfl (Or.inl rfl) (cy US hr T.Jk (aa (aX bu (pv 6) ak) (aa (pv 4) (aa (jk (pv 0) rfl) ai)))))
   (az (aV (cI (aa jR (aa (bJ jS (cy oy hr T.jX (aa (pv 0) (aa (bJ kB (pv 3) (pv 4)) ai))) (Ja K rfl T.list rfl T.reversed (aa (pv 7) ai))) ai)))))))))),?_]
  refine aT (σ:=[some (.ref x),some (.ref s),some (.ref g),some (.int tt),none,none,none,none]) rfl ?_;have d8:=D.n8;have i4:=D.i4;obtain dx|a'|b'|c'|gx|_:=id S;exists #[x,a,c,tt,H0,mv,pt,lk,rfl,(),S,D,F,λr1 Rs1 H1 n1 s1 GL Gw ln hlast=>?_];obtain us|gus|pus1:=id GL;have lus:=pus1.9;have rne:=Gw.ne;have lpos:0 < Rs1.9:=List.length_pos_iff.mpr rne;exists #[_,_,rfl,.inl (bR.of gus),?_];rw[<- lus];obtain ⟨u,eu⟩:∃u,Rs1.9=u+1:=#[Rs1.9 - 1,()];rw[eu];have eL:Rs1[u]?=some (Rs1[u]'()):=af ();obtain ⟨R,eR⟩:∃R,Rs1[u]?=some R:=#[_,eL];obtain ps|RRu:=Gw.rr u R eR;have ul:=Gw.len u R eR;have un:u<=mv.9:=by have:=RRu.le;have:=RRu.1;lia
  have uT:u<=tt:=()
  obtain ⟨psT,RRT⟩:∃ps,cC (kry mv pt tt) mv.9 R ps:=by
   refine hlast R ?_ tt ();rw[List.getLast?_eq_getElem?,eu];exact eR
  walk_at "w";rw[show ((((u+1:Nat):Int)) - 1)=(u:Int) by lia];refine #[x,u,H0,mv,pt,lk,rfl,(),S.same s1,D,AF.le uT,λr2 us2 H2 n2 s2 g2 p2=>?_];have s02:=s1.trans s2;have kl:=kM (mv:=mv) (pt:=pt) u;have kl2:u*pt.9<=8*4:=ay () i4;walk_at "w";obtain zss|pz9|pr9:=By p2;have pf9:=lK pr9;rw[je] at pf9;have lf9:=pf9.9;refine #[r2,us2,zss,rfl,g2,pz9,(),λr3 H3 n3 s3 g3=>?_];obtain ⟨H9,G3⟩:∃H9,bL K H9 H3 r3 (kry mv pt u):=#[_,_,g3,Paired.imp' (λ_ _ z=>dB.same z s3) pf9,jV #[H2,n3,pf9]];have s03:=s02.trans s3;exists #[x,Z.a_System,dx,_,_,rfl,s03 _ _ gx,T.cl_System,T.na_states,ma,?_];exists #[x,s,g,tt,H0,mv,pt,lk,st,go,rfl,(),S.same s03,D,SF,Rs.same s03,ls,Rg.same s03,lg,cf,sg,λr4 H4 n4 s4 R4=>?_];have s04:=s03.trans s4;have lL:=vX (T:=tt) ls lg;have wk:=fj (mv:=mv) (pt:=pt) rfl D.pw u;have tk:=CF.tk u un;have up0:∀y,Tp D0 W0 y->Tp (D0*E0) (W0*E0+W1*D0+D0*E0) y:=λy h=>h.up E0 ()
  have up1:∀y,Tp E0 W1 y->Tp (D0*E0) (W0*E0+W1*D0+D0*E0) y:=λy h=>by
   rw[bY D0 E0];exact h.up D0 ()
  have up2:∀y,y=0\/y=1->Tp (D0*E0) (W0*E0+W1*D0+D0*E0) y:=λy h=>by
   rcases h with rfl | rfl
   ·exact Tp.zero
   ·exact #[((D0*E0:Nat):Int),by rw[qQ,aS],by rw[bW];lia]
  obtain wa|sw1:=CF.join (rows:=cp (kry mv pt u) mv.9) (due:=cQ mv tt st go) (n':=(kry mv pt u).9+1) (by rw[cx];exact lL) (λys hy y hy'=>by
   obtain j|_|rfl:=aE.mp hy;obtain zs|hz|rfl:=aE.mp hy';exact up0 _ (iE (tk zs hz) j)) (λy hy=>up1 y (CF.tl y hy)) d8 (by rw[cx];lia)
  obtain wb|sw2:=CF.join (rows:=kry mv pt u++[cQ mv tt st go]) (due:=List.replicate (kry mv pt u).9 0++[1]) (n':=mv.9+1) (by simp) (λys hy y hy'=>by
   rcases aA.mp hy with hy | hy
   ·exact up0 _ (tk ys hy y hy')
   ·rw[bA.mp hy] at hy';exact up1 _ (CF.tl y hy')) (λy hy=>by
   rcases aA.mp hy with hy | hy
   ·exact up2 _ (.inl (fB.mp hy).2)
   ·exact up2 _ (.inr (bA.mp hy))) d8 (zJ _ _)
  have hin:∀R' ps',cC (c6 (cp (kry mv pt u) mv.9) (cQ mv tt st go)) ((kry mv pt u).9+1) R' ps'->(kry mv pt u).9∈ps':=λR' ps' RR'=>Classical.byContradiction λhn=>hr9 (P0 D.pw lL uT ib (Le lL RR' hn))
  exists #[r3,r4,mv.9,wa,wb,H9,kry mv pt u,cQ mv tt st go,rfl,G3.same s4,R4,lL,(),(),wk,sw1,sw2,hin,λt5 x5 R6 ps6 H5 RR6 hn6 g5 n5 s5 R5'=>?_];have s05:=s04.trans s5;have x50:=s04.none n5;have lw:(ia R6 ps6 mv.9).9=mv.9:=ib;obtain pr1|pr2:=Lx wk lL RR6 hn6;obtain q|q0|q1|q2:=Nl wk lL () CF.d0 CF.e0 CF.w0 tk CF.tl RR6 hn6;walk_at "w";rw[decide_eq_true rfl];exists bU λt10 H10 s10 g10=>?_
  exact k1 t10 x5 _ q H10 g10 x50 (s05.trans s10) (R5'.same s10) lw (Lz D.pw RRu RRT lw pr2) pr1 q0 q1 q2
theorem IK:ba ["price","weights","lists"] ["price","weights","lists"] (aN xP):=by walk_at "d"
theorem Jf (T:Txt K mg Z) (ptree:P.given.tree=none):cB P w K mg base fL 6 Z.DS Z.Dz ["price","weights","lists"] (FU K):=by
 have tx:=vK (P:=P) (w:=w) (base:=base) T ptree;have G_grid_on_R:=vM (P:=P) (w:=w) (base:=base) T ptree;refine T.vh.F.ok IK (λvs H Q E h=>?_) (λcdv A outer s H vs Q E hr h=>?_)
 ·obtain p|q|l|us|Rs|ws|x|rfl|_:=h;rfl
 ·obtain p|q|l|us|Rs|ws|x|rfl|Rp|Rq|gl|pl|l1|l2|l3|rx|hw|hR|k:=h;refine #[_,(az (aV (b9 ["rows"] ["weights","price"] [1,0] (SE rfl T.reversed (aa (pv 2) ai)) (λ_=>(aU (i:=0) (show ND9 ["rows","weights","price"] by decide +kernel))) (λ_=>cw) (λ_=>(cy tx hr T.lM (aa (pv 1) (aa (cy G_grid_on_R hr T.kD (aa (pv 0) (aa (pv 2) ai))) ai))))))),?_];refine aT (σ:=[some (.ref p),some (.ref q),some (.ref l)]) rfl ?_;have lu:=pl.9;walk_at "w";unfold UC;exists #[l,us,rfl,bR.of gl,?_];refine OA (K:=K) (a:=l) (xs:=us) (λi zs H'=>aH H H'/\Paired (dB K H H') ((Rs.reverse.map λrows=>tT ws (rows.map λr=>cm r x)).take i) zs) (be (bC ())) #[aH.refl _,.nil] (λi zs H' _ #[s,_]=>bR.of (s _ _ gl)) ?_ ?_
  ·rintro i v zs H' hi hv hlen ⟨s,hP⟩;obtain R|eR|u|rfl|_|Gu:=b6 pl hv;obtain h1|h2:=hR R (av eR);exists #[u,p,_,R,x,rfl,Gu.same s,Rp.same s,(),(),λxs hx=>#[(h2 xs hx).1,(h2 xs hx).2.1,rx],λr1 H1 n1 s1 R1=>?_];have s01:=s.trans s1;exists #[q,r1,ws,_,rfl,Rq.same s01,R1,by rw[aj];exact h1.symm,by rw[aj];lia,hw,λy hy=>?_,λr2 H2 n2 s2 R2=>?_]
   ·obtain xs|hx|rfl:=aE.mp hy;exact (h2 xs hx).2.2
   refine #[s01.trans s2,?_]
   have ez:(Rs.reverse.map λrows=>tT ws (rows.map λr=>cm r x))[i]?=some (tT ws (R.map λr=>cm r x)):=by
    rw[aF,List.getElem?_reverse (),show Rs.9 - 1 - i=us.9 - 1 - i by lia,eR];rfl
   rw[take_snoc ez];exact bX (Paired.imp' (λ_ _ z=>dB.same z (s1.trans s2)) hP) (.cons #[r2,rfl,s01.none n2,R2] .nil)
  ·rintro zs H' hy ⟨s,hP⟩ r hr;rw[aJ (by rw[aj,jg];lia)] at hP;exact k r _ (s.none hr) (s.trans (aH.new hr)) #[zs,aL,Paired.imp' (λ_ _ z=>dB.same z (aH.new hr)) hP,jV #[_,hr,hP]]
theorem rz:ba ["system","weights","start","goal","steps","lists","due","answer","price"] ["system","weights","start","goal","steps"] (aN Ey):=by walk_at "d"
theorem vL (T:Txt K mg Z) (ptree:P.given.tree=none):cB P w K mg base fL 9 Z.K6 Z.KS ["system","weights","start","goal","steps"] (F0 K Z.a_System):=by
 have tz:=vN (P:=P) (w:=w) (base:=base) T ptree;have yx:=A7 (P:=P) (w:=w) (base:=base) T ptree;have Fm:=GC (P:=P) (w:=w) (base:=base) T ptree;have OK:=LI (P:=P) (w:=w) (base:=base) T ptree;have Tj:=Qi (P:=P) (w:=w) (base:=base) T ptree;have G_row_dot_R:=vJ (P:=P) (w:=w) (base:=base) T ptree;have Me:=Jf (P:=P) (w:=w) (base:=base) T ptree;refine T.oJ.F.ok rz (λvs H Q E h=>?_) (λcdv A outer s H vs Q E hr h=>?_)
 ·obtain x|q|s|g|tt|N|X|a9|c9|D0|W0|E0|W1|H0|mv|pt|lk|ws|st|go|rfl|_:=h;rfl
 ·obtain x|q|s|g|tt|N|X|a9|c9|D0|W0|E0|W1|H0|mv|pt|lk|ws|st|go|rfl|S|D|SF|KF|Rq|Rs|ls|Rg|lg|cf|sg|F|CF|k1|k2:=h
  refine #[_,(ar (aW (i:=5) rz.nd rfl (Or.inl rfl) (cy tz hr T.lN (aa (pv 0) (aa (pv 4) ai))))
   (ar (aW (i:=6) rz.nd rfl (Or.inl rfl) (cy yx hr T.pW (aa (pv 0) (aa (pv 2) (aa (pv 3) (aa (pv 4) ai))))))
   (ar (aW (i:=7) rz.nd rfl (Or.inl rfl) (cy Fm hr T.vT (aa (cy OK hr T.yb (aa (pv 1) (aa (pv 5) (aa (jk (pv 0) rfl) ai)))) (aa (jk (pv 0) rfl) (aa (pv 6) ai)))))
   (ar (cD (br dS (aX bu (pv 7) ak) jR (bw _)) (az (aV (cy Tj hr T.ET (aa (pv 0) (aa (pv 2) (aa (pv 3) (aa (pv 4) ai))))))) bK)
   (ar (aW (i:=8) rz.nd rfl (Or.inl rfl) (aX bu (pv 7) ak))
   (az (aV (cI (aa jR (aa (cy G_row_dot_R hr T.jy (aa (pv 8) (aa (pv 6) ai))) (aa (cy Me hr T.vh (aa (pv 8) (aa (pv 1) (aa (pv 5) ai)))) (aa (pv 8) ai)))))))))))),?_]
  refine aT (σ:=[some (.ref x),some (.ref q),some (.ref s),some (.ref g),some (.int tt),none,none,none,none]) rfl ?_;have d8:=D.n8;have i4:=D.i4;have t40:=F.t40;obtain dx|a'|b'|c'|gx|_:=id S;have kl:=kM (mv:=mv) (pt:=pt) tt;have kl2:tt*pt.9<=20*4:=ay t40 i4;have wk:=fj (mv:=mv) (pt:=pt) rfl D.pw tt;have lL:=vX (T:=tt) ls lg;have la:(CM mv pt tt).9=tt:=by unfold CM;rw[aj,bZ]
  have lwt:(tF ws tt).9=(kry mv pt tt).9:=by rw[zV,kl,F.lw]
  exists #[x,tt,H0,mv,pt,lk,rfl,(),S,D,F.ad,λr1 us H1 n1 s1 g1 p1=>?_];exists #[x,s,g,tt,H0,mv,pt,lk,st,go,rfl,(),S.same s1,D,SF,Rs.same s1,ls,Rg.same s1,lg,cf,sg,λr2 H2 n2 s2 R2=>?_];have s02:=s1.trans s2;have p2:=Paired.imp' (λ_ _ z=>Iy.same z s2) p1;exists #[x,Z.a_System,dx,_,_,rfl,s02 _ _ gx,T.cl_System,T.na_states,ma,?_];exists #[q,r1,mv.9,us,_,ws,rfl,Rq.same s02,s2 _ _ g1,p2,(),(),by rw[je];lia,by rw[je,la];exact lwt,λxs h=>?_,F.wp,by rw[je,la];exact F.rc,λr3 H9 H3 n3 s3 G3=>?_]
  ·rw[je] at h;exact #[wk xs h,(F.rk xs h).2]
  rw[je,la] at G3;have s03:=s02.trans s3;obtain w|sw:=F.sw;exists #[x,Z.a_System,dx,_,_,rfl,s03 _ _ gx,T.cl_System,T.na_states,ma,?_];walk_at "w";obtain wB|swb:=F.sb;refine #[r3,r2,mv.9,w,wB,_,_,_,rfl,G3,R2.same s3,by rw[qj,lL],by rw[qj];lia,(),vV,sw,by rw[qj];exact swb,#[λt4 x4 R ps M4 H4 RR hn g4 n4 s4 R4 _ _ _=>?_,λt4 x4 R ps R' ps' M4 H4 RR hn _ _ g4 n4 s4 R4 _ _ _=>?_]]
  rotate_left
  ·have s04:=s03.trans s4
   have no:∀pr,¬OI mv pt ws tt (cQ mv tt st go) pr:=λpr #[R2,p2,r2,h2,_]=>h2 (by
    obtain _|b:=cC.uniq RR r2 (λ_ hi=>fK.row hi) (λ_ hi=>fK.row hi);rw[<- b];exact hn)
   walk_at "w";rw[decide_eq_true rfl];exists #[x,s,g,tt,a9,c9,D0,W0,E0,W1,H0,mv,pt,lk,st,go,rfl,t40,S.same s04,D,SF,KF,F.ad,Rs.same s04,ls,Rg.same s04,lg,cf,sg,CF,λrc=>?_,λt p pr q5 H5 g5 n5 s5 R5 lp z1 z2 q0 q1 q2=>?_]
   ·exact absurd hn (Pj wk lwt (λw h=>(F.wp w (IE h)).1) lL rc RR)
   exact k2 t p pr q5 H5 g5 (s04.none n5) (s04.trans s5) no R5 lp z1 z2 q0 q1 q2
  have tp:=F.ok R ps RR hn;have ls1:OI mv pt ws tt (cQ mv tt st go) (ia R ps mv.9):=#[R,ps,RR,hn,rfl];have sl:=RU wk lwt lL RR hn;have lx:(ia R ps mv.9).9=mv.9:=ib;generalize ia R ps mv.9=pr at R4 tp sl lx ls1;have s04:=s03.trans s4;have s24:=s3.trans s4;have rx:Iv pr:=AV F.n0 (ag F.nb (au () ())) (ag F.xb (au () ())) tp;walk_at "w";rw[decide_eq_false (show ¬(Str.ofString "yes"=Str.ofString "no") by decide)];exists #[x4,r2,pr,_,rfl,R4,R2.same s24,by rw[lL,lx],(),#[rx,F.rd],λe5 H5 s5 N5=>?_];have s05:=s04.trans s5;have s25:=s24.trans s5;exists #[x4,q,r1,us,_,ws,pr,rfl,R4.same s5,Rq.same s05,(s2.trans s25) _ _ g1,Paired.imp' (λ_ _ z=>Iy.same z s25) p2,(),by rw[F.lw];lia,(),rx,F.wp,λR' hR=>?_,λp6 H6 n6 s6 G6=>?_]
  ·have:∀xs∈R',xs∈kry mv pt tt:=λxs hx=>by rw[<- je];exact eo.mpr #[R',hR,hx]
   refine #[?_,λxs hx=>#[by rw[wk xs (this xs hx),lx],(F.rk xs (this xs hx)).1,F.pz xs (this xs hx) pr lx tp]];unfold CM at hR;obtain t|_|rfl:=aE.mp hR;rw[aj,F.lw]
  have s06:=s05.trans s6;exists bU λt7 H7 s7 g7=>?_
  exact k1 t7 e5 p6 x4 pr H7 g7 (s03.none n4) #[H5,s05,(by obtain _|g|_:=R4.same s5;rw[g];exact λz=>nomatch z),n6,G6.same s7] (s06.trans s7) ((N5.same s6).same s7) ((R4.same (s5.trans s6)).same s7) sl ls1 tp
theorem jo:ba ["_law_bag_here","_law_system_here","_law_weights_here","_law_start","_law_goal_here","_law_most","_law_found","_law_limit_here"] ["_law_bag_here","_law_system_here","_law_weights_here","_law_start","_law_goal_here","_law_most"] (aN pJ):=by walk_at "d"
theorem CD (T:Txt K mg Z) (ptree:P.given.tree=none):cB P w K mg base fL 10 Z.xi Z.wK ["_law_bag_here","_law_system_here","_law_weights_here","_law_start","_law_goal_here","_law_most"] (Aw K Z.a_System):=by
 have qH:=vL (P:=P) (w:=w) (base:=base) T ptree;have aO:=dn (P:=P) (w:=w) (base:=base) T ptree;have oA:=sv (P:=P) (w:=w) (base:=base) T ptree;have gH:=kT (P:=P) (w:=w) (base:=base) T ptree;refine T.ot.F.ok jo (λvs H Q E h=>?_) (λcdv A outer s H vs Q E hr h=>?_)
 ·obtain b|x|q|s|g|m|a9|c9|H0|mv|pt|lk|ws|st|go|rfl|_:=h;rfl
 ·obtain b|x|q|s|g|m|a9|c9|H0|mv|pt|lk|ws|st|go|rfl|m12|hB|hb0|nq|ns|ng|S|D|SF|KF|Rq|Rs|ls|Rg|lg|sg|Z9|k1:=h
  refine #[_,(ar (aW (i:=6) jo.nd rfl (Or.inl rfl) (cy qH hr T.oJ (aa (pv 1) (aa (pv 2) (aa (pv 3) (aa (pv 4) (aa (cy aO hr T.aR (aa (pv 0) (aa (bJ eJ (pv 5) ak) ai))) ai)))))))
   (ar (aW (i:=7) jo.nd rfl (Or.inl rfl) (cy oA hr T.jZ (aa (pv 0) (aa ak ai))))
   (fA (cD (br dS (aX bu (pv 6) ak) jR (bw _)) (az (aW (i:=7) jo.nd rfl (Or.inl rfl) (cy gH hr T.gZ (aa (aX bu (pv 6) ak) (aa (aX bT (du (aa (cI (aa ak (aa ak ai))) (aa (cI (aa (tU nH ak) (aa ak ai))) (aa (cI (aa ak (aa ak ai))) ai)))) (cy aO hr T.aR (aa (pv 0) (aa ak ai)))) ai))))) bK)
   (fA (cD (br dS (cy aO hr T.aR (aa (pv 0) (aa ak ai))) ak (bw _)) (az (aW (i:=7) jo.nd rfl (Or.inl rfl) (aX bT (du (aa (cI (aa ak (aa ak ai))) (aa (cI (aa (tU nH ak) (aa ak ai))) (aa (cI (aa ak (aa ak ai))) ai)))) (cy aO hr T.aR (aa (pv 0) (aa ak ai)))))) bK)
   (az (aV (pv 7))))))),?_]
  refine aT (σ:=[some (.ref b),some (.ref x),some (.ref q),some (.ref s),some (.ref g),some (.int m),none,none]) rfl ?_;exists #[b,_,rfl,hB,(),(),λv Ha v0 v1 Ba ua=>?_];obtain kk|rfl:=b8 v0;have Z1:=Z9 kk ();obtain N|X|LS|hd:=Z1.ls;obtain D0|W0|E0|W1|CF|_:=Z1.co;exists #[x,q,s,g,kk,N,X,a9,c9,D0,W0,E0,W1,H0,mv,pt,lk,ws,st,go,rfl,S.upto ua hB hb0,D,SF,KF,Rq.upto ua hB nq,Rs.upto ua hB ns,ls,Rg.upto ua hB ng,lg,Z1.cf,sg,LS,CF,λt e p y pr Hb gt ny #[Hm,sm,my,np,Gp] sb Ne Ry sl lt tp=>?_,λt p pr q5 Hb gt np sb nl _ _ _ _ _ _ _=>?_]
  ·have Bb:=Ba.same sb;have ub:=ua.same sb;exists #[b,9,rfl,Bb,(),(),λfa f Hc df Nf Bc uc=>?_];have gtc:=uc.tup Bb gt;have ubc:=ub.trans uc;have sf:iI f:=j8 () df;have Nec:=Ne.upto uc Bb
   have lp:pr.9=mv.9:=by
    obtain R|ps|_|_|e:=lt;rw[e];exact ib
   have hr:=(hd pr lp tp).2;exists #[λσ' H'=>∃(lv:Addr) (L:Rat),σ'=[some (.ref b),some (.ref x),some (.ref q),some (.ref s),some (.ref g),some (.int m),some (.ref t),some (.ref lv)]/\bQ K H' L (.ref lv)/\iI L/\gV H' b/\cP b H H',?_,?_]
   ·walk_at "w";rw[decide_eq_true rfl];exists bU λt1 H1 s1 g1=>?_
    exists bU λt2 H2 s2 g2=>?_
    exists bU λt3 H3 s3 g3=>?_
    exists cU λl4 H4 s4 n4 g4=>?_
    have s14:=((s1.trans s2).trans s3).trans s4;have B4:=Bc.same s14;exists #[b,3,rfl,B4,(),(),λv5 H5 v50 v51 B5 u5=>?_];have g5:=u5.other (λz=>(((Bc.same s1).same s2).same s3).at (by rw[<- z];exact n4)) g4;obtain w|ew|mw|_:=ir (xs:=[V.ref t1,V.ref t2,V.ref t3]) v50 (by simpa using v51)
    obtain ⟨tw,r,rfl,Nr,dr⟩:∃tw r,w=V.ref tw/\bQ K H5 r (.ref tw)/\Dr 9 r:=by
     simp only[aG,aP,or_false] at mw;have up:=λ{t:Addr} {a:Rat} (h:bQ K H4 a (.ref t))=>bQ.upto h u5 B4
     rcases mw with rfl | rfl | rfl
     ·exact #[t1,0,rfl,up (bQ.mk (((s2.trans s3).trans s4) _ _ g1) rfl),by decide +kernel,by decide +kernel]
     ·exact #[t2,(-1 / 7),rfl,up (bQ.mk ((s3.trans s4) _ _ g2) (by decide +kernel)),by decide +kernel,by decide +kernel]
     ·exact #[t3,(1 / 7),rfl,up (bQ.mk (s4 _ _ g3) (by decide +kernel)),by decide +kernel,by decide +kernel]
    have u15:=(s14.upto (p:=b)).trans u5;exists cH (bR.of g5) ew ?_;exists #[_,_,_,r,rfl,Nec.upto u15 Bc,Nr,(hd pr lp tp).1,j8 () dr,λt6 H6 s6 N6=>?_];exists #[_,_,rfl,N6,hr r dr,B5.same s6,(ubc.trans u15).same s6]
   rintro σ' Hd ⟨lv,L,rfl,NL,sL,Bd,ud⟩;exists #[λσ' H'=>∃(lv:Addr) (L:Rat),σ'=[some (.ref b),some (.ref x),some (.ref q),some (.ref s),some (.ref g),some (.int m),some (.ref t),some (.ref lv)]/\bQ K H' L (.ref lv)/\iI L/\gV H' b/\cP b H H',?_,?_]
   ·exists #[b,8,rfl,Bd,(),(),λv7 H7 v70 v71 B7 u7=>?_];exists gY (λh0=>?_) (λh0=>?_)
    ·exists bU λt1 H1 s1 g1=>?_
     exists bU λt2 H2 s2 g2=>?_
     exists bU λt3 H3 s3 g3=>?_
     exists cU λl4 H4 s4 n4 g4=>?_
     have s14:=((s1.trans s2).trans s3).trans s4;have B4:=B7.same s14;exists #[b,3,rfl,B4,(),(),λv5 H5 v50 v51 B5 u5=>?_];have g5:=u5.other (λz=>(((B7.same s1).same s2).same s3).at (by rw[<- z];exact n4)) g4;obtain w|ew|mw|_:=ir (xs:=[V.ref t1,V.ref t2,V.ref t3]) v50 (by simpa using v51)
     obtain ⟨tw,r,rfl,Nr,dr⟩:∃tw r,w=V.ref tw/\bQ K H5 r (.ref tw)/\iI r:=by
      simp only[aG,aP,or_false] at mw;have up:=λ{t:Addr} {a:Rat} (h:bQ K H4 a (.ref t))=>bQ.upto h u5 B4
      rcases mw with rfl | rfl | rfl
      ·exact #[t1,0,rfl,up (bQ.mk (((s2.trans s3).trans s4) _ _ g1) rfl),j8 (c:=1000) () #[by decide +kernel,by decide +kernel]]
      ·exact #[t2,(-1 / 3),rfl,up (bQ.mk ((s3.trans s4) _ _ g2) (by decide +kernel)),j8 (c:=1000) () #[by decide +kernel,by decide +kernel]]
      ·exact #[t3,1000,rfl,up (bQ.mk (s4 _ _ g3) (by decide +kernel)),j8 (c:=1000) () #[by decide +kernel,by decide +kernel]]
     have u15:=(s14.upto (p:=b)).trans u5;exists cH (bR.of g5) ew ?_;exists #[_,_,rfl,Nr,dr,B5,(ud.trans u7).trans u15]
    ·exists #[_,_,rfl,NL.upto u7 Bd,sL,B7,ud.trans u7]
   rintro σ' He ⟨lv,L,rfl,NL,sL,Be,ue⟩;exists k1 _ _ _ NL sL Be ue
  ·have Bb:=Ba.same sb;have ub:=ua.same sb;exists #[b,9,rfl,Bb,(),(),λfa f Hc df Nf Bc uc=>?_];have gtc:=uc.tup Bb gt;have ubc:=ub.trans uc;have sf:iI f:=j8 () df;exists #[λσ' H'=>∃(lv:Addr) (L:Rat),σ'=[some (.ref b),some (.ref x),some (.ref q),some (.ref s),some (.ref g),some (.int m),some (.ref t),some (.ref lv)]/\bQ K H' L (.ref lv)/\iI L/\gV H' b/\cP b H H',?_,?_]
   ·walk_at "w";rw[decide_eq_false (show ¬(Str.ofString "never"=Str.ofString "puts") by decide)];exists #[_,_,rfl,Nf,sf,Bc,ubc]
   rintro σ' Hd ⟨lv,L,rfl,NL,sL,Bd,ud⟩;exists #[λσ' H'=>∃(lv:Addr) (L:Rat),σ'=[some (.ref b),some (.ref x),some (.ref q),some (.ref s),some (.ref g),some (.int m),some (.ref t),some (.ref lv)]/\bQ K H' L (.ref lv)/\iI L/\gV H' b/\cP b H H',?_,?_]
   ·exists #[b,8,rfl,Bd,(),(),λv7 H7 v70 v71 B7 u7=>?_];exists gY (λh0=>?_) (λh0=>?_)
    ·exists bU λt1 H1 s1 g1=>?_
     exists bU λt2 H2 s2 g2=>?_
     exists bU λt3 H3 s3 g3=>?_
     exists cU λl4 H4 s4 n4 g4=>?_
     have s14:=((s1.trans s2).trans s3).trans s4;have B4:=B7.same s14;exists #[b,3,rfl,B4,(),(),λv5 H5 v50 v51 B5 u5=>?_];have g5:=u5.other (λz=>(((B7.same s1).same s2).same s3).at (by rw[<- z];exact n4)) g4;obtain w|ew|mw|_:=ir (xs:=[V.ref t1,V.ref t2,V.ref t3]) v50 (by simpa using v51)
     obtain ⟨tw,r,rfl,Nr,dr⟩:∃tw r,w=V.ref tw/\bQ K H5 r (.ref tw)/\iI r:=by
      simp only[aG,aP,or_false] at mw;have up:=λ{t:Addr} {a:Rat} (h:bQ K H4 a (.ref t))=>bQ.upto h u5 B4
      rcases mw with rfl | rfl | rfl
      ·exact #[t1,0,rfl,up (bQ.mk (((s2.trans s3).trans s4) _ _ g1) rfl),j8 (c:=1000) () #[by decide +kernel,by decide +kernel]]
      ·exact #[t2,(-1 / 3),rfl,up (bQ.mk ((s3.trans s4) _ _ g2) (by decide +kernel)),j8 (c:=1000) () #[by decide +kernel,by decide +kernel]]
      ·exact #[t3,1000,rfl,up (bQ.mk (s4 _ _ g3) (by decide +kernel)),j8 (c:=1000) () #[by decide +kernel,by decide +kernel]]
     have u15:=(s14.upto (p:=b)).trans u5;exists cH (bR.of g5) ew ?_;exists #[_,_,rfl,Nr,dr,B5,(ud.trans u7).trans u15]
    ·exists #[_,_,rfl,NL.upto u7 Bd,sL,B7,ud.trans u7]
   rintro σ' He ⟨lv,L,rfl,NL,sL,Be,ue⟩;exists k1 _ _ _ NL sL Be ue
theorem MT:ba ["one","other"] ["one","other"] (aN Et):=by walk_at "d"
theorem Ny (T:Txt K mg Z) (ptree:P.given.tree=none):cB P w K mg base fL 1 Z.K2 Z.KO ["one","other"] (Ap K):=by
 refine T.Bl.F.ok MT (λvs H Q E h=>?_) (λcdv A outer s H vs Q E hr h=>?_)
 ·obtain u|v|x|y|rfl|_:=h;rfl
 ·obtain u|v|x|y|rfl|⟨p,rfl,hp⟩|⟨q,rfl,hq⟩|sx|sy|k:=h;refine #[_,(az (aV (iG rZ (bJ c5 (aX bu (pv 0) ak) (aX bu (pv 1) ak)) (bJ c5 (aX bu (pv 1) ak) (aX bu (pv 0) ak)) (bw _)))),?_];refine aT (σ:=[some (.ref p),some (.ref q)]) rfl ?_;exists fU (show gJ _ _ from .inr #[_,_,sx.1,sy.2,()]) ?_;exists fU (show gJ _ _ from .inr #[_,_,sy.1,sx.2,()]) ?_;walk_at "w";rw[decide_eq_decide.mpr (NB (x:=x) (y:=y))];exact k
theorem xJ:ba ["system","weights","start","goal","most","limit","steps","answer"] ["system","weights","start","goal","most","limit"] (aN AM):=by walk_at "d"
theorem LF (T:Txt K mg Z) (ptree:P.given.tree=none):cB P w K mg base fL 10 Z.HR Z.GY ["system","weights","start","goal","most","limit"] (xF K Z.a_System):=by
 have qH:=vL (P:=P) (w:=w) (base:=base) T ptree;have QK:=Ny (P:=P) (w:=w) (base:=base) T ptree;refine T.tI.F.ok xJ (λvs H Q E h=>?_) (λcdv A outer s H vs Q E hr h=>?_)
 ·obtain x|q|s|g|lm|m|a9|c9|H0|mv|pt|lk|ws|st|go|lim|rfl|_:=h;rfl
 ·obtain x|q|s|g|lm|m|a9|c9|H0|mv|pt|lk|ws|st|go|lim|rfl|m12|S|D|SF|KF|Rq|Rs|ls|Rg|lg|sg|NL|sL|Z9|k1|k2:=h
  refine #[_,(ar (dY PassesOwn.never rfl (cz rfl T.range (aa (bJ eJ (pv 4) ak) ai)) (aU (i:=6) xJ.nd)
    (ar (aW (i:=7) xJ.nd rfl (Or.inl rfl) (cy qH hr T.oJ (aa (pv 0) (aa (pv 1) (aa (pv 2) (aa (pv 3) (aa (pv 6) ai)))))))
   (az (cD (PW.pt (jx (br dS (aX bu (pv 7) ak) jR (bw _)) (jP (iP (fQ (cy QK hr T.Bl (aa (pv 5) (aa (aX bu (pv 7) ak) ai)))))))) (az (aV (cI (aa (pv 6) (aa (pv 7) ai))))) bK))))
   (az (aV xZ))),?_]
  refine aT (σ:=[some (.ref x),some (.ref q),some (.ref s),some (.ref g),some (.int m),some (.ref lm),none,none]) rfl ?_;exists #[(),(),?_];rw[show ((m:Int)+1)=((m+1:Nat):Int) by lia];refine d9 (n:=m+1) (λi σ' H'=>aH H H'/\(∀j,j < i->¬Wi mv pt ws st go lim j)/\∃u6 u7,σ'=[some (.ref x),some (.ref q),some (.ref s),some (.ref g),some (.int m),some (.ref lm),u6,u7]) #[aH.refl _,(λj h=>absurd h (d5 j)),_,_,rfl] ?_ ?_
  ·rintro i σ' Ha hi ⟨sa,no,u6,u7,rfl⟩;have Z1:=Z9 i ();obtain N|X|LS|hd:=Z1.ls;obtain D0|W0|E0|W1|CF|_:=Z1.co;exists #[x,q,s,g,i,N,X,a9,c9,D0,W0,E0,W1,H0,mv,pt,lk,ws,st,go,rfl,S.same sa,D,SF,KF,Rq.same sa,Rs.same sa,ls,Rg.same sa,lg,Z1.cf,sg,LS,CF,λt e p y pr Hb gt ny #[Hm,sm,my,np,Gp] sb Ne Ry sl lt tp=>?_,λt p pr q5 Hb gt np sb nl _ _ _ _ _ _ _=>?_]
   ·have lp:pr.9=mv.9:=by
     obtain R|ps|_|_|e:=lt;rw[e];exact ib
    walk_at "w";rw[decide_eq_true rfl];exists #[_,_,lim,_,rfl,(NL.same sa).same sb,Ne,sL,(hd pr lp tp).1,?_];by_cases z:lim < cm pr (cQ mv i st go)
    ·rw[decide_eq_true z];exists #[sa.trans sb,λj hj=>?_,_,_,rfl];by_cases e9:j=i
     ·subst e9;rintro ⟨pr',l',h'⟩;rw[lt.uniq l'] at z;exact absurd z (Iz.mpr h')
     ·exact no j ()
    ·rw[decide_eq_false z];exists bU λt9 H9 s9 g9=>?_
     exact k2 i t9 t e p y pr H9 () no g9 (s9 _ _ gt) (sa.none ny) #[Hm,sa.trans sm,my,np,Gp.same s9] ((sa.trans sb).trans s9) (Ne.same s9) (Ry.same s9) sl lt (Iz.mp z)
   ·walk_at "w";rw[decide_eq_false (show ¬(Str.ofString "never"=Str.ofString "puts") by decide)];exists #[sa.trans sb,λj hj=>?_,_,_,rfl];by_cases e9:j=i
    ·subst e9;rintro ⟨pr',l',_⟩;exact nl pr' l'
    ·exact no j ()
  rintro σ' Ha ⟨sa,no,u6,u7,rfl⟩;exists k1 Ha sa λk hk=>no k ()
theorem vF:ba ["_law_thing"] ["_law_thing"] (aN rW):=by walk_at "d"
theorem tY (T:Txt K mg Z) (ptree:P.given.tree=none):∀i:Nat,cB P w K mg base fL (0+i+1) Z.td Z.sU ["_law_thing"] (xH K i)
| 0=>T.eH.F.ok vF (λvs H Q E h=>(show False from h).elim) (λcdv A outer s H vs Q E hr h=>(show False from h).elim)
| i+1=>by
 have nh:=tY T ptree i;refine T.eH.F.ok vF (λvs H Q E h=>?_) (λcdv A outer s H vs Q E hr h=>?_)
 ·obtain x|rfl|_:=h;rfl
 ·obtain x|rfl|h:=h
  refine #[_,(ar (cD (fQ (pP rfl T.isinstance PyProof.Rows.boot_list T.list (pv 0))) (az (aV (b9 ["_law_one"] [] [] (cE (pv 0)) (λ_=>(aU (i:=0) (show ND9 ["_law_one"] by decide +kernel))) (λ_=>cw) (λ_=>(zY nh (hr.mono ()) rfl T.eH.m T.eH.F.kp T.eH.b .nil Dp (aa (pv 0) ai)))))) bK)
   (ar (cD (fQ (pP rfl T.isinstance PyProof.Rows.boot_tuple T.tuple (pv 0))) (az (aV (dN CJ (by rfl) T.tuple PyProof.Rows.boot_tuple (aa (b9 ["_law_one"] [] [] (Nt (pv 0)) (λ_=>(aU (i:=0) (show ND9 ["_law_one"] by decide +kernel))) (λ_=>cw) (λ_=>(zY nh (hr.mono ()) rfl T.eH.m T.eH.F.kp T.eH.b .nil Dp (aa (pv 0) ai)))) ai)))) bK)
   (az (aV (pv 0))))),?_]
  refine aT (σ:=[some x]) rfl ?_;rcases h with ⟨fx,k⟩ | ⟨hi,q,nq,k⟩ | ⟨hi,p,qs,rfl,Rp,l100,k⟩ | ⟨hi,p,H0,rs,rfl,Gp,l100,w100,k⟩ | ⟨m,hi,t,xs,H0,ds,rfl,st,pd,l10,hok,k⟩
  ·walk_at "w";cases x with
   | non =>
    refine .inl #[_,false,.non,rfl,?_];exists .inl #[_,false,.non,rfl,?_];exists k _ (aH.refl _)
   | bl v =>
    refine .inl #[_,false,.bl v,rfl,?_];exists .inl #[_,false,.bl v,rfl,?_];exists k _ (aH.refl _)
   | int v =>
    refine .inl #[_,false,.int v,rfl,?_];exists .inl #[_,false,.int v,rfl,?_];exists k _ (aH.refl _)
   | str v =>
    refine .inl #[_,false,.str v,rfl,?_];exists .inl #[_,false,.str v,rfl,?_];exists k _ (aH.refl _)
   | _=>exact absurd (show false=true from fx) bo
  ·obtain ⟨j,rfl⟩:∃j,i=j+1:=#[i - 1,()];obtain p|rfl|sq:=id nq;exists .inr #[p,_,false,rfl,sq,rfl,?_];exists .inr #[p,_,true,rfl,sq,rfl,?_];exists #[#[_,sq],?_];refine DH (K:=K) (as:=[(nm q).1,(nm q).2]) (F:=λ_ c x=>x=V.int c) (λ_ c x=>x=V.int c) id sq (.cons rfl (.cons rfl .nil)) (by simp) (λh _=>h) (λh _=>h) ?_ ?_
   ·rintro i2 c x H' NY NN ec s' rfl k1;exists #[_,rfl,.inl #[rfl,λH2 s2=>k1 _ _ s2 rfl]]
   rintro ys H2 l hl s2 g2 pr _
   obtain rfl:ys=[V.int (nm q).1,V.int (nm q).2]:=by
    cases pr with
    | cons h1 t=>cases t with
     | cons h2 t'=>cases t';rw[h1,h2];rfl
   exists #[l,_,rfl,.inl #[bR.of g2,λr hr=>?_]];exact k r _ (s2.trans (aH.new hr)) #[r,rfl,jB.of aL]
  ·obtain ⟨j,rfl⟩:∃j,i=j+1:=#[i - 1,()];obtain xs|g|qx:=id Rp;have lx:=qx.9;exists .inl #[_,true,.lst g,rfl,?_];exists #[#[_,bR.of g],?_];refine dy (K:=K) (as:=qs) (F:=bQ K) (bQ K) id g qx () (λh s=>h.same s) (λh s=>h.same s) ?_ ?_
   ·rintro i2 c x H' NY NN ec s' nc k1;exists #[_,rfl,.inr (.inl #[(),c,nc,λr H2 s2 n2=>k1 _ _ s2 n2])]
   rintro ys H2 l hl s2 g2 pr _;rw[iJ] at pr;exact k l H2 hl s2 #[ys,g2,pr]
  ·obtain ⟨j,rfl⟩:∃j,i=j+1:=#[i - 1,()];obtain xs|g|qx|_:=id Gp;have lx:=qx.9;exists .inl #[_,true,.lst g,rfl,?_];exists #[#[_,bR.of g],?_];refine dy (K:=K) (as:=rs) (F:=dB K H0) (dB K H) id g qx () (λh s=>h.same s) (λh s=>h.same s) ?_ ?_
   ·rintro i2 c x H' NY NN ec s' ⟨q,rfl,nq,Rq⟩ k1;exists #[_,rfl,.inr (.inr (.inl #[(),q,c,rfl,Rq,w100 c (av ec),λr H2 nr s2 R2=>k1 _ _ s2 #[r,rfl,s'.none nr,R2]]))]
   rintro ys H2 l hl s2 g2 pr nx;rw[iJ] at pr nx;exact k l H2 hl s2 #[ys,g2,pr,jV nx]
  ·obtain ⟨j,rfl⟩:∃j,i=j+1:=#[i - 1,()];exists .inr #[t,_,false,rfl,st,rfl,?_];exists .inr #[t,_,true,rfl,st,rfl,?_];exists #[#[_,st],?_];refine DH (K:=K) (as:=ds) (F:=Mn K H0) (Mn K H) id st pd () (λh s=>h.same s) (λh s=>h.same s) ?_ ?_
   ·rintro i2 c x H' NY NN ec s' ec' k1;obtain ok|lv:=hok c (av ec);walk_at "w";cases c with
    | fl v =>
     obtain rfl:x=v:=ec';exact #[_,rfl,.inl #[ok,λH2 s2=>k1 _ _ s2 rfl]]
    | nm q=>exact #[_,rfl,.inr (.inl #[ag (show 1<=m from lv) (),q,ec',λr H2 s2 n2=>k1 _ _ s2 n2])]
    | inn e rs qs =>
     have lv:4<=m:=lv;obtain u|a|p|y|rfl|gu|ne|⟨np,Gp⟩|ny|Ry:=ec';refine #[_,rfl,.inr (.inr (.inr (.inr #[3,(),u,_,H0,[.fl (.str (Str.ofString "puts")),.nm e,.grid rs,.row qs],rfl,jB.of gu,.cons rfl (.cons ne (.cons #[p,rfl,np,Gp] (.cons #[y,rfl,ny,Ry] .nil))),(show 4<=10 by decide),λd hd=>?_,λr ys H2 s2 g2 pr2=>k1 _ _ s2 ?_])))]
     ·simp only[aG,aP,or_false] at hd;rcases hd with rfl | rfl | rfl | rfl
      ·exact #[rfl,()]
      ·exact #[True.intro,(show 1<=3 by decide)]
      ·exact #[ok.1,ao _]
      ·exact #[ok.2,(show 2<=3 by decide)]
     ·obtain v1|v2|v3|v4|rfl|rfl|N2|⟨p2,rfl,np2,Gp2⟩|y2|rfl|ny2|Ry2:=Sy pr2;obtain a2|rfl|_:=id N2;exact #[r,a2,p2,y2,rfl,g2,N2,#[s'.none np2,Gp2.weak s'],s'.none ny2,Ry2]
    | row qs =>
     have lv:2<=m:=lv;obtain p|rfl|np|Rp:=ec';exact #[_,rfl,.inr (.inr (.inl #[(),p,qs,rfl,Rp,ok,λr H2 nr s2 R2=>k1 _ _ s2 #[r,rfl,s'.none nr,R2]]))]
    | grid rs =>
     have lv:3<=m:=lv;obtain p|rfl|np|Gp:=ec';exact #[_,rfl,.inr (.inr (.inr (.inl #[(),p,H0,rs,rfl,Gp,ok.1,ok.2,λr H2 nr s2 G2=>k1 _ _ s2 #[r,rfl,s'.none nr,G2.weak s']])))]
   rintro ys H2 l hl s2 g2 pr _;rw[iJ] at pr;have ly:=pr.9;exists #[l,_,rfl,.inl #[bR.of g2,λr hr=>?_]];exact k r ys _ (s2.trans (aH.new hr)) aL (Paired.imp' (λ_ _ z=>Mn.same z (aH.new hr)) pr)
theorem EO (T:Txt K mg Z) (ptree:P.given.tree=none):cB P w K mg base fL 7 Z.td Z.sU ["_law_thing"] (xH K 6):=tY T ptree 6
theorem nJ:ba ["_law_thing","_law_one"] ["_law_thing"] (aN pE):=by walk_at "d"
theorem sk (T:Txt K mg Z) (ptree:P.given.tree=none):∀i:Nat,cB P w K mg base fL (0+i+1) Z.qE Z.qv ["_law_thing"] (uO K i)
| 0=>T.gE.F.ok nJ (λvs H Q E h=>(show False from h).elim) (λcdv A outer s H vs Q E hr h=>(show False from h).elim)
| i+1=>by
 have qI:=sk T ptree i;refine T.gE.F.ok nJ (λvs H Q E h=>?_) (λcdv A outer s H vs Q E hr h=>?_)
 ·obtain x|rfl|_:=h;rfl
 ·obtain x|rfl|h:=h
  refine #[_,(ar (cD (fQ (bB L9 (by rfl) T.isinstance PyProof.Rows.boot_isinstance (aa (pv 0) (aa (cI (aa (zZ (v:=.ty "list") rfl T.list PyProof.Rows.boot_list rfl) (aa (zZ (v:=.ty "tuple") rfl T.tuple PyProof.Rows.boot_tuple rfl) ai))) ai)))) (az (dY PassesOwn.never rfl (SD (pv 0)) (aU (i:=1) nJ.nd)
    (az (ie (zY qI (hr.mono ()) rfl T.gE.m T.gE.F.kp T.gE.b .nil Dp (aa (pv 1) ai)))))) bK)
   (az (cD (fQ (pP rfl T.isinstance PyProof.Rows.boot_list T.list (pv 0))) (az (ie (tV cS c4 cZ ja (pv 0) (aa (cI (aa ak (aa ak ai))) ai)))) bK))),?_]
  refine aT (σ:=[some x,none]) rfl ?_;exists bU λtp H1 s1 g1=>?_
  rcases h with ⟨fx,k⟩ | ⟨hi,n,nq,k⟩ | ⟨hi,p,zs,rfl,gp,l500,hz,k⟩ | ⟨hi,p,us,rfl,gp,l100,pu,hu,k⟩ | ⟨m9,hi,t,xs,ews,rfl,st,pd,l10,hok,dj,k⟩
  ·walk_at "w";cases x with
   | non =>
    refine #[_,tp,rfl,g1,.inl #[_,false,.non,rfl,?_]];exists .inl #[_,false,.non,rfl,?_];exists k _ s1
   | bl v =>
    refine #[_,tp,rfl,g1,.inl #[_,false,.bl v,rfl,?_]];exists .inl #[_,false,.bl v,rfl,?_];exists k _ s1
   | int v =>
    refine #[_,tp,rfl,g1,.inl #[_,false,.int v,rfl,?_]];exists .inl #[_,false,.int v,rfl,?_];exists k _ s1
   | str v =>
    refine #[_,tp,rfl,g1,.inl #[_,false,.str v,rfl,?_]];exists .inl #[_,false,.str v,rfl,?_];exists k _ s1
   | _=>exact absurd (show false=true from fx) bo
  ·obtain ⟨j,rfl⟩:∃j,i=j+1:=#[i - 1,()];obtain p|rfl|sq:=id nq;have sq1:=s1.sqt sq;exists #[_,tp,rfl,g1,.inr #[p,_,rfl,sq1,?_]];walk_at "w";unfold NW;exists .inr #[#[_,sq1],?_];refine E6 (K:=K) (a:=p) (xs:=[V.int n.1,V.int n.2]) (λi σ' H'=>aH H1 H'/\∃y,σ'=[some (.ref p),y]) #[aH.refl _,_,rfl] (λi σ' H' _ #[s,_]=>s.sqt sq1) ?_ ?_
   ·rintro i2 x σ' H2 hx ⟨s2,y,rfl⟩;have hm:=av hx
    have fx:oK x=true:=by
     simp only[aG,aP,or_false] at hm;rcases hm with rfl | rfl <;> rfl
    exists #[_,rfl,.inl #[fx,λH3 s3=>#[s2.trans s3,_,rfl]]]
   rintro σ' H2 ⟨s2,y,rfl⟩;exists .inr #[p,_,false,rfl,s2.sqt sq1,rfl,?_];exists k _ (s1.trans s2)
  ·obtain ⟨j,rfl⟩:∃j,i=j+1:=#[i - 1,()];have gp1:=s1 _ _ gp;exists #[_,tp,rfl,g1,.inl #[_,true,.lst gp1,rfl,?_]];walk_at "w";unfold NW;exists .inl #[#[_,bR.of gp1],?_];refine iq (K:=K) (a:=p) (xs:=zs) (λi σ' H'=>aH H1 H'/\∃y,σ'=[some (.ref p),y]) #[aH.refl _,_,rfl] (λi σ' H' _ #[s,_]=>bR.of (s _ _ gp1)) ?_ ?_
   ·rintro i2 x σ' H2 hx ⟨s2,y,rfl⟩;obtain n|nx:=hz x (av hx);exists #[_,rfl,.inr (.inl #[(),n,(s1.trans s2).num nx,λH3 s3=>#[s2.trans s3,_,rfl]])]
   rintro σ' H2 ⟨s2,y,rfl⟩;have gp2:=s2 _ _ gp1;exists .inl #[_,true,.lst gp2,rfl,?_];exists #[.inl #[rfl,_,bR.of gp2],?_];exists bU λt7 H3 s3 g3=>?_
   walk_at "w";have gp3:=s3 _ _ gp2;refine iw gp3 (bC ()) ?_;exists k t7 _ ((Kp.of ((s1.trans s2).trans s3)).trans (Kp.upd gp3 rfl)) (by rw[bM λz=>by rw[z,gp3] at g3;cases g3];exact g3) aL
  ·obtain ⟨j,rfl⟩:∃j,i=j+1:=#[i - 1,()];have gp1:=s1 _ _ gp;exists #[_,tp,rfl,g1,.inl #[_,true,.lst gp1,rfl,?_]];walk_at "w";unfold NW;exists .inl #[#[_,bR.of gp1],?_];refine iq (K:=K) (a:=p) (xs:=us) (λi σ' H'=>Kp (λa=>V.ref a∈us) H H'/\H' p=some (.lst us)/\(∀y∈us,∃q zs,y=.ref q/\H' q=some (.lst zs)/\zs.9<=100+i/\∀z∈zs,∃n,xm K H' z n)/\∃y,σ'=[some (.ref p),y]) #[.of s1,gp1,λy hy=>?_,_,rfl] (λi σ' H' _ #[_,g,_]=>bR.of g) ?_ ?_
   ·obtain q|zs|a1|a2|a3|a4:=hu y hy;exact #[q,zs,a1,s1 _ _ a2,a3,λz hz=>by obtain n|hn:=a4 z hz;exact #[n,s1.num hn]]
   ·rintro i2 x σ' H2 hx ⟨k2,g2,hu2,y,rfl⟩;have mx:=av hx;have hi2:i2 < us.9:=(aM.mp hx).1;obtain q|zs|rfl|gq|lz|hz:=hu2 x mx;have qp:p≠q:=λz=>pu (by rw[z];exact mx)
    exists #[_,rfl,.inr (.inr (.inl #[(),q,zs,rfl,gq,(),hz,λt7 H3 k3 g7 gq3=>?_]))];refine #[k2.trans (k3.mono λa e=>by rw[e];exact mx),k3 _ _ g2 (.inl qp),λy' hy'=>?_,_,rfl];obtain q'|zs'|rfl|gq'|lz'|hz':=hu2 y' hy';by_cases e:q'=q
    ·subst e;refine #[q',_,rfl,gq3,by rw[aw,bI];rw[gq] at gq';cases gq';lia,λz mz=>?_];rcases aA.mp mz with mz | mz
     ·obtain n|hn:=hz z mz;exact #[n,k3.numR hn]
     ·rw[bA.mp mz];exact #[(7,1),t7,rfl,jB.of g7]
    ·exact #[q',zs',rfl,k3 _ _ gq' (.inl e),(),λz mz=>by obtain n|hn:=hz' z mz;exact #[n,k3.numR hn]]
   rintro σ' H2 ⟨k2,gp2,_,y,rfl⟩;exists .inl #[_,true,.lst gp2,rfl,?_];exists #[.inl #[rfl,_,bR.of gp2],?_];exists bU λt7 H3 s3 g3=>?_
   walk_at "w";have gp3:=s3 _ _ gp2;refine iw gp3 (bC ()) ?_;exists k _ (((k2.mono λa e=>.inr e).trans (Kp.of s3)).trans (Kp.upd gp3 (.inl rfl)))
  ·obtain ⟨j,rfl⟩:∃j,i=j+1:=#[i - 1,()];have st1:=s1.sqt st;have lx:=pd.9;exists #[_,tp,rfl,g1,.inr #[t,_,rfl,st1,?_]];walk_at "w";unfold NW;exists .inr #[#[_,st1],?_];refine E6 (K:=K) (a:=t) (xs:=xs) (λi σ' H'=>Kp (λa=>∃e∈ews,e.2 a) H H'/\(∀m e v,i<=m->ews[m]?=some e->xs[m]?=some v->Mh K e.2 H' e.1 v)/\∃y,σ'=[some (.ref t),y]) #[.of s1,λm e v _ he hv=>?_,_,rfl] (λi σ' H' _ #[k2,_]=>k2.sqt st) ?_ ?_
   ·obtain e'|he'|el:=b6 pd hv;rw[he] at he';cases he';exact el.kp (S:=λ_=>False) (.of s1) (λ_ _ z=>z)
   ·rintro i2 x σ' H2 hx ⟨k2,hel,y,rfl⟩;obtain e|he|_:=b6 pd hx;have el:=hel i2 e x (ao _) he hx;have me:=av he;obtain ok|lv:=hok e me;have nxt:∀H3,Kp e.2 H2 H3->∀m e' v,i2+1<=m->ews[m]?=some e'->xs[m]?=some v->Mh K e'.2 H3 e'.1 v:=λH3 k3 m e' v hm he' hv=>(hel m e' v () he' hv).kp k3 λa h1 h2=>dj i2 m e e' () he he' a h1 h2
    have upk:∀H3,Kp e.2 H2 H3->Kp (λa=>∃e∈ews,e.2 a) H H3:=λH3 k3=>k2.trans (k3.mono λa h=>#[e,me,h])
    walk_at "w";obtain d|W:=e;cases d with
    | fl v =>
     obtain rfl:x=v:=el;exact #[_,rfl,.inl #[ok,λH3 s3=>#[upk H3 (.of s3),nxt H3 (.of s3),_,rfl]]]
    | nm q=>exact #[_,rfl,.inr (.inl #[ag (show 1<=m9 from lv) (),_,el,λH3 s3=>#[upk H3 (.of s3),nxt H3 (.of s3),_,rfl]])]
    | inn e9 rs qs =>
     have lv:4<=m9:=lv;obtain u|a9|p|y9|W1|W2|rfl|gu|ne|u1|u2|d12|E1|E2:=el;refine #[_,rfl,.inr (.inr (.inr (.inr #[3,(),u,_,[(.fl (.str (Str.ofString "puts")),λ_=>False),(.nm e9,λ_=>False),(.grid rs,W1),(.row qs,W2)],rfl,jB.of gu,.cons rfl (.cons ne (.cons E1 (.cons E2 .nil))),(show 4<=10 by decide),λd hd=>?_,λi j f f' hij hf hf' a h1 h2=>?_,λH3 k3=>?_])))]
     ·simp only[aG,aP,or_false] at hd;rcases hd with rfl | rfl | rfl | rfl
      ·exact #[rfl,bg _]
      ·exact #[True.intro,(show 1<=3 by decide)]
      ·exact #[ok.1,ao _]
      ·exact #[ok.2,(show 2<=3 by decide)]
     ·match i,j,hij,hf,hf' with
      | 0,_,_,hf,_=>cases hf;exact h2
      | 1,_,_,hf,_=>cases hf;exact h2
      | 2,3,_,hf,hf'=>cases hf;cases hf';exact d12 a h1 h2
      | 2,j+4,_,_,hf'=>cases hf'
      | 3,j+4,_,_,hf'=>cases hf'
      | i+4,_,_,hf,_=>cases hf
     ·have k3':Kp W H2 H3:=k3.mono λa #[f,mf,wf]=>by
       simp only[aG,aP,or_false] at mf;rcases mf with rfl | rfl | rfl | rfl
       ·exact wf.elim
       ·exact wf.elim
       ·exact u1 a wf
       ·exact u2 a wf
      exact #[upk H3 k3',nxt H3 k3',_,rfl]
    | row qs =>
     have lv:2<=m9:=lv;obtain p|rfl|wp|zs|gz|qz:=el;have lz:=qz.9;have ok:qs.9<=100:=ok;refine #[_,rfl,.inr (.inr (.inl #[(),p,zs,rfl,gz,(),λz mz=>?_,λt7 H3 k3 _ _=>?_]))]
     ·obtain c|_|nc:=cX qz mz;exact #[_,nc]
     ·have k3':Kp W H2 H3:=k3.mono λa e=>by rw[e];exact wp
      exact #[upk H3 k3',nxt H3 k3',_,rfl]
    | grid rs =>
     have lv:3<=m9:=lv;obtain p|us|rfl|wp|gu|nu|qu:=el;have lu:=qu.9;have ok1:rs.9<=100:=ok.1;refine #[_,rfl,.inr (.inr (.inr (.inl #[(),p,us,rfl,gu,(),nu,λy my=>?_,λH3 k3=>?_])))]
     ·obtain qs|mq|q|rfl|_|zs|gz|qz:=cX qu my;have lz:=qz.9;have:=ok.2 qs mq;exact #[q,zs,rfl,gz,(),λz mz=>by obtain c|_|nc:=cX qz mz;exact #[_,nc]]
     ·have k3':Kp W H2 H3:=k3.mono λa e=>by
       rcases e with e | e
       ·rw[e];exact wp
       ·obtain qs|_|q|eq|wq|_:=cX qu e;cases eq;exact wq
      exact #[upk H3 k3',nxt H3 k3',_,rfl]
   rintro σ' H2 ⟨k2,_,y,rfl⟩;exists .inr #[t,_,false,rfl,k2.sqt st,rfl,?_];exists k _ k2
theorem Cz (T:Txt K mg Z) (ptree:P.given.tree=none):cB P w K mg base fL 7 Z.qE Z.qv ["_law_thing"] (uO K 6):=sk T ptree 6
theorem mO:ba ["_law_thing","_law_part"] ["_law_thing"] (aN ko):=by walk_at "d"
theorem vR (T:Txt K mg Z) (ptree:P.given.tree=none):cB P w K mg base fL 2 Z.oT Z.oO ["_law_thing"] (Lm K):=by
 have eX:=jD (P:=P) (w:=w) (base:=base) T ptree;refine T.j6.F.ok mO (λvs H Q E h=>?_) (λcdv A outer s H vs Q E hr h=>?_)
 ·obtain x|n|rfl|_:=h;rfl
 ·obtain x|n|rfl|⟨p,rfl,hp⟩|hn|k:=h
  refine #[_,(ar (cD (PW.pt (lE (iP (fQ (pP rfl T.isinstance PyProof.Rows.boot_tuple T.tuple (pv 0)))) (jw (br tW (bB bf (by rfl) T.len aZ (aa (pv 0) ai)) ak (bw _))))) (az (aV lF)) bK)
   (ar (dY PassesOwn.never rfl (Nt (pv 0)) (aU (i:=1) mO.nd)
    (az (cD (PW.pt (lE (iP (fQ (pP rfl T.isinstance PyProof.Rows.boot_int T.int (pv 1)))) (jw (fQ (pP rfl T.isinstance PyProof.Rows.boot_bool T.bool (pv 1)))))) (az (aV lF)) bK)))
   (az (aV (Jb (iG oI (aX bu (pv 0) ak) ak (bw _)) (IZ (iG (Jc (Jr hr)) (cy eX hr T.fX (aa (aX bu (pv 0) ak) (aa (aX bu (pv 0) ak) ai))) (pv 0) (bw _)))))))),?_]
  refine aT (σ:=[some (.ref p),none]) rfl ?_;obtain hb|hg|_|hs:=hn;exists .inr #[p,_,_,rfl,hp,rfl,?_];exists #[_,_,rfl,.inr hp,?_];walk_at "w"
  try refine NS ?_
  exists #[#[_,hp],?_];refine E6 (K:=K) (a:=p) (xs:=[.int n.1,.int n.2]) (λi σ' H'=>H'=H/\∃x,σ'=[some (.ref p),x]) #[rfl,none,rfl] (λi σ' H' _ #[e,_]=>by subst e;exact hp) ?_ ?_
  ·rintro i x σ' H' hx ⟨rfl,y,rfl⟩
   obtain ⟨z,rfl⟩:∃z,x=V.int z:=by
    have hm:x∈[V.int n.1,V.int n.2]:=av hx;simp only[aG,aP,or_false] at hm;rcases hm with e | e
    ·exact #[_,e]
    ·exact #[_,e]
   exists .inl #[_,_,.int z,rfl,?_];exists .inl #[_,_,.int z,rfl,?_];exists #[rfl,_,rfl]
  ·rintro σ' H' ⟨rfl,x,rfl⟩;walk_at "w";rw[decide_eq_true hb];exists #[n.1,n.2,rfl,hb,hs.mono (),λr H' s1 h'=>?_];obtain e1|e2:=SQ hb hg;exists #[_,_,Uv,(lo n.1 n.2,hi n.1 n.2),n,(),#[r,rfl,jB.of h'],#[p,rfl,s1.sqt hp],?_];rw[e1,e2,decide_eq_true rfl];exact k _ s1
theorem AK:ba ["_law_thing","_law_many"] ["_law_thing","_law_many"] (aN nV):=by walk_at "d"
theorem sE (T:Txt K mg Z) (ptree:P.given.tree=none):cB P w K mg base fL 3 Z.uF Z.ur ["_law_thing","_law_many"] (xI K):=by
 have yz:=vR (P:=P) (w:=w) (base:=base) T ptree;refine T.j5.F.ok AK (λvs H Q E h=>?_) (λcdv A outer s H vs Q E hr h=>?_)
 ·obtain p|ns|rfl|_:=h;rfl
 ·obtain p|ns|rfl|hp|hl|hn|k:=h
  refine #[_,(ar (cD (PW.pt (lE (iP (fQ (pQ rfl T.isinstance PyProof.Rows.boot_list T.list (pv 0)))) (jw (br tW (bB bf (by rfl) T.len aZ (aa (pv 0) ai)) (pv 1) (bw _))))) (az (aV lF)) bK)
   (az (aV (bB (wQ rfl) (by rfl) T.all PyProof.Rows.boot_all (aa (b9 ["_law_one"] [] [] (cE (pv 0)) (λ_=>(aU (i:=0) (show ND9 ["_law_one"] by decide +kernel))) (λ_=>cw) (λ_=>(cy yz hr T.j6 (aa (pv 0) ai)))) ai))))),?_]
  refine aT (σ:=[some (.ref p),some (.int ns.9)]) rfl ?_;obtain xs|gx|qx:=id hp;have lx:=qx.9;exists #[_,_,.lst gx,rfl,?_];exists #[_,_,rfl,.inl (bR.of gx),?_];walk_at "w";rw[show ((xs.9:Nat):Int)=(ns.9:Nat) by rw[lx],decide_eq_true rfl];exists #[#[_,bR.of gx],?_];refine fR (K:=K) (xs:=xs) (λi ys H'=>aH H H'/\ys=List.replicate i (.bl true)) (be (bC ())) #[aH.refl _,rfl] (λi ys H' _ #[s,_]=>bR.of (s _ _ gx)) ?_ ?_
  ·rintro i x ys H' hx hlen ⟨s,rfl⟩;obtain n|en|z:=b6 qx hx;exists #[x,n,rfl,s.num z,hn n (av en),λH2 s2=>#[s.trans s2,by rw[kh]]]
  ·rintro ys H' hy ⟨s,rfl⟩ l hl';exists #[l,List.replicate xs.9 true,rfl,bR.of (by rw[aL];simp),?_];have e4:(List.replicate xs.9 true).all id=true:=by simp
   rw[e4];exact k _ (s.trans (aH.new hl'))
theorem zL:ba ["_law_thing","_law_many","_law_wide"] ["_law_thing","_law_many","_law_wide"] (aN mo):=by walk_at "d"
theorem zN (T:Txt K mg Z) (ptree:P.given.tree=none):cB P w K mg base fL 4 Z.tm Z.sV ["_law_thing","_law_many","_law_wide"] (Ay K):=by
 have oB:=sE (P:=P) (w:=w) (base:=base) T ptree;refine T.lD.F.ok zL (λvs H Q E h=>?_) (λcdv A outer s H vs Q E hr h=>?_)
 ·obtain p|rows|m|rfl|_:=h;rfl
 ·obtain p|rows|m|rfl|hp|hl|hm|hn|k:=h
  refine #[_,(ar (cD (PW.pt (lE (iP (fQ (pQ rfl T.isinstance PyProof.Rows.boot_list T.list (pv 0)))) (jw (br tW (bB bf (by rfl) T.len aZ (aa (pv 0) ai)) (pv 1) (bw _))))) (az (aV lF)) bK)
   (az (aV (bB (wQ rfl) (by rfl) T.all PyProof.Rows.boot_all (aa (b9 ["_law_row_here"] ["_law_wide"] [2] (cE (pv 0)) (λ_=>(aU (i:=0) (show ND9 ["_law_row_here","_law_wide"] by decide +kernel))) (λ_=>cw) (λ_=>(cy oB hr T.j5 (aa (pv 0) (aa (pv 1) ai))))) ai))))),?_]
  refine aT (σ:=[some (.ref p),some (.int rows.9),some (.int m)]) rfl ?_;obtain xs|gx|qx:=id hp;have lx:=qx.9;exists #[_,_,.lst gx,rfl,?_];exists #[_,_,rfl,.inl (bR.of gx),?_];walk_at "w";rw[show ((xs.9:Nat):Int)=(rows.9:Nat) by rw[lx],decide_eq_true rfl];exists #[#[_,bR.of gx],?_];refine fR (K:=K) (xs:=xs) (λi ys H'=>aH H H'/\ys=List.replicate i (.bl true)) (be (bC ())) #[aH.refl _,rfl] (λi ys H' _ #[s,_]=>bR.of (s _ _ gx)) ?_ ?_
  ·rintro i x ys H' hx hlen ⟨s,rfl⟩;obtain ns|en|q|rfl|z:=b6 qx hx;obtain e1|e2:=hn ns (av en);exists #[q,ns,by rw[e1],z.same s,(),e2,λH2 s2=>#[s.trans s2,by rw[kh]]]
  ·rintro ys H' hy ⟨s,rfl⟩ l hl';exists #[l,List.replicate xs.9 true,rfl,bR.of (by rw[aL];simp),?_];have e4:(List.replicate xs.9 true).all id=true:=by simp
   rw[e4];exact k _ (s.trans (aH.new hl'))
theorem Cs:ba ["_law_parts_here","_law_start","_law_goal_here","_law_steps_here","_law_puts_here"] ["_law_parts_here","_law_start","_law_goal_here","_law_steps_here","_law_puts_here"] (aN pK):=by walk_at "d"
theorem CG (T:Txt K mg Z) (ptree:P.given.tree=none):cB P w K mg base fL 7 Z.xj Z.wL ["_law_parts_here","_law_start","_law_goal_here","_law_steps_here","_law_puts_here"] (De K):=by
 have Cc:=zN (P:=P) (w:=w) (base:=base) T ptree;have vq:=yF (P:=P) (w:=w) (base:=base) T ptree;refine T.ou.F.ok Cs (λvs H Q E h=>?_) (λcdv A outer s H vs Q E hr h=>?_)
 ·obtain r|s|g0|p0|tt|H0|H1|mv|pt|lk|pus|st|go|rfl|_:=h;rfl
 ·obtain r|s|g0|p0|tt|H0|H1|mv|pt|lk|pus|st|go|rfl|hT|PQ|D|Rs|ls|Rg|Gp|lp|wp|EF|est|k:=h
  refine #[_,(ar (cD (iP (fQ (cy Cc hr T.lD (aa (pv 4) (aa (pv 3) (aa (bB bf (by rfl) T.len aZ (aa (aX bu (pv 0) ak) ai)) ai)))))) (az (aV lF)) bK)
   (az (aV (iG (Jc (Jr hr)) (cy vq hr T.mT (aa (pv 0) (aa (pv 1) (aa (pv 4) ai)))) (pv 2) (bw _))))),?_]
  refine aT (σ:=[some (.ref r),some (.ref s),some (.ref g0),some (.int tt),some (.ref p0)]) rfl ?_;have i4:=D.i4;obtain m|p|l|g|n1|n2|n3|Gm|Gpt|Gl:=id PQ;obtain up|gp|qp|_:=id Gpt;have lup:=qp.9;have lm1:(pus.map (List.map nm)).9=tt:=by rw[aj];exact lp
  exists #[_,_,rfl,.inl (bR.of gp),?_];rw[<- lup];exists #[p0,_,pt.9,by rw[lm1],Gp.gridK,by rw[lm1];lia,(),λns' hx=>?_,λH2 s2=>?_]
  ·obtain xs|mx|rfl:=aE.mp hx;refine #[by rw[aj];exact wp xs mx,λv hv=>?_];obtain v|mv'|rfl:=aE.mp hv;exact MI (EF.sznP xs mx v mv')
  exists #[r,s,p0,H0,H1,mv,pt,lk,pus,st,rfl,PQ.same s2,D,Rs.same s2,ls,Gp.same s2,(),wp,EF,λt3 H3 n3' s3 R3=>?_];rw[lp,est] at R3;exists #[_,_,GR,go,go,(),R3.kind,((Rg.same s2).same s3).kind,?_];rw[decide_eq_true rfl];exact k _ (s2.trans s3)
theorem Es:ba ["_law_one","_law_other"] ["_law_one","_law_other"] (aN rV):=by walk_at "d"
theorem pT (T:Txt K mg Z) (ptree:P.given.tree=none):cB P w K mg base fL 2 Z.zD Z.yY ["_law_one","_law_other"] (o8 K (λx y=>x - y)):=by
 have eX:=jD (P:=P) (w:=w) (base:=base) T ptree;refine T.j4.F.ok Es (λvs H Q E h=>?_) (λcdv A outer s H vs Q E hr h=>?_)
 ·obtain p|q|a|b|c|d|rfl|hp|hq|hb|hd|sa|sb|sc|sd|k:=zX h;rfl
 ·obtain p|q|a|b|c|d|rfl|hp|hq|hb|hd|sa|sb|sc|sd|k:=zX h;refine #[_,(az (aV (cy eX hr T.fX (aa (bJ kB (bJ c5 (aX bu (pv 0) ak) (aX bu (pv 1) ak)) (bJ c5 (aX bu (pv 1) ak) (aX bu (pv 0) ak))) (aa (bJ c5 (aX bu (pv 0) ak) (aX bu (pv 1) ak)) ai))))),?_];refine aT (σ:=[some (.ref p),some (.ref q)]) rfl ?_;have hbd:0 < b*d:=jr hb hd;have sbd:Sz 8999000 (b*d):=(sb.mul sd).mono ();exists fU (show gJ _ _ from .inr #[_,_,sa,sd,()]) ?_;exists fU (show gJ _ _ from .inr #[_,_,sc,sb,()]) ?_;exists fU (show gJ _ _ from .inr #[_,_,sb,sd,()]) ?_;walk_at "w";exists #[_,_,rfl,hbd,sbd,k]
theorem iu:ba ["_law_parts_here","_law_steps_here","_law_rows","_law_some","_law_turn"] ["_law_parts_here","_law_steps_here"] (aN pM):=by walk_at "d"
theorem CI (T:Txt K mg Z) (ptree:P.given.tree=none):cB P w K mg base fL 5 Z.xl Z.wN ["_law_parts_here","_law_steps_here"] (Dm K):=by
 have oU:=vd (P:=P) (w:=w) (base:=base) T ptree;refine T.ox.F.ok iu (λvs H Q E h=>?_) (λcdv A outer s H vs Q E hr h=>?_)
 ·obtain r|tt|H0|mv|pt|lk|rfl|_:=h;rfl
 ·obtain r|tt|H0|mv|pt|lk|rfl|hT|PQ|D|AF|k:=h
  refine #[_,(ar (pN 2 ["_law_row_here"] [] [] iu.nd rfl rfl (cE (aX bu (pv 0) ak)) (λ_=>(aU (i:=0) (show ND9 ["_law_row_here"] by decide +kernel))) (λ_=>cw) (λ_=>(dN (fz K (by rfl)) (by rfl) T.list PyProof.Rows.boot_list (aa (pv 0) ai))))
   (ar (aW (i:=3) iu.nd rfl (Or.inl rfl) (du ai))
   (ar (dY PassesOwn.never rfl (cz rfl T.range (aa (pv 1) ai)) (aU (i:=4) iu.nd)
    (ar (aW (i:=3) iu.nd rfl (Or.inl rfl) (bJ jS (pv 3) (pv 2)))
   (az (pN 2 ["_law_row_here"] ["_law_parts_here"] [0] iu.nd rfl rfl (cE (pv 2)) (λ_=>(aU (i:=0) (show ND9 ["_law_row_here","_law_parts_here"] by decide +kernel))) (λ_=>cw) (λ_=>(cy oU hr T.mH (aa (aX (qo K (by rfl)) (pv 1) ak) (aa (pv 0) ai))))))))
   (az (aV (pv 3)))))),?_]
  refine aT (σ:=[some (.ref r),some (.int tt),none,none,none]) rfl ?_;have d1:=D.n8;have i4:=D.i4;obtain m|p|l|g|n1|n2|n3|Gm|Gp|Gl:=id PQ;obtain up|gp|qp|_:=id Gp;have lup:=qp.9;exists #[#[_,bR.of gp],?_];refine dy (K:=K) (F:=dB K H0) (dB K H) id gp qp () (λa b=>a.same b) (λa b=>a.same b) ?_ ?_
  ·rintro i ns x H' NY NN en s ⟨u,rfl,_,zs,gz,qz⟩ k1;exists #[u,zs,rfl,.inl (bR.of gz),λl1 hl1=>?_];exact k1 _ _ (aH.new hl1) #[l1,rfl,s.none hl1,zs,aL,Paired.imp' (λ_ _ z=>z.same (aH.new hl1)) qz]
  rintro ys1 H1 rq1 hr1 s1 g1 pr1 nx1;rw[iJ] at pr1 nx1;have G1:bL K H H1 rq1 pt:=#[ys1,g1,pr1,jV nx1];exists cU λsm0 H2 s2 nf gf=>?_
  have s02:=s1.trans s2;exists #[(),(),?_];refine d9 (n:=tt) (λt σ' H'=>aH H H'/\∃rq sm y,σ'=[some (.ref r),some (.int tt),some (.ref rq),some (.ref sm),y]/\H sm=none/\bL K H H' sm (kry mv pt t)/\bL K H H' rq (pt.map (jI mv t))) #[s02,rq1,sm0,_,rfl,s1.none nf,#[[],gf,.nil,λz=>nomatch z],by rw[show pt.map (jI mv 0)=pt from iJ pt];exact G1.same s2] ?_ ?_
  ·rintro t σ' H' ht ⟨s',rq,sm,y,rfl,nsm,Gs,Gq⟩;obtain us|gu|pu|_:=id Gs;obtain zs|gz|qz|_:=id Gq;have lz:=qz.9;rw[aj] at lz;have lu:=pu.9;rw[kM] at lu;have lb:t*pt.9<=20*4:=ay () i4;exists kr gu gz (be (bC ())) λcc H3 s3 nc gc=>?_
   have ek:kry mv pt (t+1)=kry mv pt t++pt.map (jI mv t):=by
    rw[<- je,Ad,eY,je];simp
   have Gc:bL K H H3 cc (kry mv pt (t+1)):=by
    rw[ek];exact #[_,gc,Paired.imp' (λ_ _ z=>dB.same z s3) (bX pu qz),jV #[H',nc,bX pu qz]]
   have s03:=s'.trans s3;have g3:=s03 _ _ g;exists #[#[_,bR.of (s3 _ _ gz)],?_];refine dy (K:=K) (F:=dB K H) (dB K H) (qW mv) (s3 _ _ gz) (Paired.imp' (λ_ _ z=>dB.same z s3) qz) (by rw[aj];lia) (λa b=>a.same b) (λa b=>a.same b) ?_ ?_
   ·rintro i ns v Ha NY NN en sa ⟨u,rfl,_,Ru⟩ k1;have mn:=av en;obtain y0|hy0|rfl:=aE.mp mn;have wy:=D.pw y0 hy0;have ga:=sa _ _ g3;exists #[m,u,H0,mv,_,rfl,(Gm.same s03).same sa,Ru,(),by rw[jQ wy];lia,λxs hx=>#[by rw[D.mw xs hx,jQ wy],((AF.row D.mw D.pw y0 hy0).fit D.mw wy (show t<=tt by lia)).1 xs hx],λz Hj nz sj Rz=>k1 _ _ sj #[z,rfl,s03.none (sa.none nz),Rz]]
   ·rintro ys Hb rr hrr sb gb prb nxb;have e:(pt.map (jI mv t)).map (qW mv)=pt.map (jI mv (t+1)):=by rw[tP];rfl
    rw[e] at prb nxb;exact #[s03.trans sb,rr,cc,_,rfl,s'.none nc,Gc.same sb,ys,gb,prb,jV nxb]
  ·rintro σ' H' ⟨s',rq,sm,y,rfl,nsm,Gs,Gq⟩;exists k sm H' nsm s' Gs
theorem Cr:ba ["_law_one","_law_other"] ["_law_one","_law_other"] (aN pH):=by walk_at "d"
theorem CC (T:Txt K mg Z) (ptree:P.given.tree=none):cB P w K mg base fL 3 Z.xh Z.wJ ["_law_one","_law_other"] (xG K):=by
 have kZ:=pT (P:=P) (w:=w) (base:=base) T ptree;refine T.oq.F.ok Cr (λvs H Q E h=>?_) (λcdv A outer s H vs Q E hr h=>?_)
 ·obtain p|q|xs|ys|rfl|_:=h;rfl
 ·obtain p|q|xs|ys|rfl|hp|hq|hl|hz|h1|h2|kk:=h;refine #[_,(az (aV (b9 ["_law_k"] ["_law_one","_law_other"] [0,1] (cz rfl T.range (aa (bB bf (by rfl) T.len aZ (aa (pv 0) ai)) ai)) (λ_=>(aU (i:=0) (show ND9 ["_law_k","_law_one","_law_other"] by decide +kernel))) (λ_=>cw) (λ_=>(cy kZ hr T.j4 (aa (aX (mI K (by rfl)) (pv 1) (pv 0)) (aa (aX (mI K (by rfl)) (pv 2) (pv 0)) ai))))))),?_];refine aT (σ:=[some (.ref p),some (.ref q)]) rfl ?_;obtain us|gu|qu:=id hp;obtain ws|gw|qw:=id hq;have lu:=qu.9;exists #[_,_,rfl,.inl (bR.of gu),?_];exists #[(),(),?_];refine jc (n:=us.9) (bQ K) (λi=>xs.getD i 0 - ys.getD i 0) () (λa b=>a.same b) ?_ ?_
  ·rintro i H' NY NN hi s k1;have ix:i < xs.9:=()
   have iy:i < ys.9:=()
   obtain vx|ex|nx:=LX (Paired.imp' (λ_ _ z=>z.same s) qu) ix;obtain vy|ey|ny:=LX (Paired.imp' (λ_ _ z=>z.same s) qw) iy;exists cH (bR.of (s _ _ gu)) ex ?_;exists cH (bR.of (s _ _ gw)) ey ?_;exists #[_,_,_,_,rfl,nx,ny,h1 _ (getD_mem ix),h2 _ (getD_mem iy),λr3 H3 s3 n3=>k1 _ _ s3 n3]
  ·rintro ys' H' l hl' s g pr nx;exact kk l H' hl' s #[ys',g,by rw[IC ()];rw[<- lu] at pr;exact pr]
theorem kJ:ba ["_law_parts_here","_law_start","_law_steps_here","_law_state","_law_turn"] ["_law_parts_here","_law_start","_law_steps_here"] (aN pL):=by walk_at "d"
theorem CH (T:Txt K mg Z) (ptree:P.given.tree=none):cB P w K mg base fL 5 Z.xk Z.wM ["_law_parts_here","_law_start","_law_steps_here"] (Dk K):=by
 have oU:=vd (P:=P) (w:=w) (base:=base) T ptree;refine T.ow.F.ok kJ (λvs H Q E h=>?_) (λcdv A outer s H vs Q E hr h=>?_)
 ·obtain r|s|tt|H0|mv|pt|lk|st|rfl|_:=h;rfl
 ·obtain r|s|tt|H0|mv|pt|lk|st|rfl|hT|PQ|D|Rs|ls|AF|k:=h
  refine #[_,(ar (aW (i:=3) kJ.nd rfl (Or.inl rfl) (dN (fz K (by rfl)) (by rfl) T.list PyProof.Rows.boot_list (aa (pv 1) ai)))
   (ar (dY PassesOwn.never rfl (cz rfl T.range (aa (pv 2) ai)) (aU (i:=4) kJ.nd)
    (az (aW (i:=3) kJ.nd rfl (Or.inl rfl) (cy oU hr T.mH (aa (aX bu (pv 0) ak) (aa (pv 3) ai))))))
   (az (aV (pv 3))))),?_]
  refine aT (σ:=[some (.ref r),some (.ref s),some (.int tt),none,none]) rfl ?_;have d1:=D.n8;obtain m|p|l|g|n1|n2|n3|Gm|Gp|Gl:=id PQ;obtain ss|gs|qs:=id Rs;exists #[s,ss,rfl,.inl (bR.of gs),λc hc=>?_];have sc:aH H (upd H c (.lst ss)):=aH.new hc;have Rc:bV K (upd H c (.lst ss)) c st:=#[ss,aL,Paired.imp' (λ_ _ z=>z.same sc) qs];generalize upd H c (.lst ss)=Hc at sc Rc ⊢;exists #[(),(),?_];refine d9 (n:=tt) (λi σ' H'=>aH H H'/\∃q y,σ'=[some (.ref r),some (.ref s),some (.int tt),some (.ref q),y]/\H q=none/\bV K H' q (jI mv i st)) #[sc,c,_,rfl,hc,Rc] ?_ ?_
  ·rintro i σ' H' hi ⟨e,q,y,rfl,nq,Rq⟩;have ge:=e _ _ g;exists #[m,q,H0,mv,_,rfl,Gm.same e,Rq,(),by rw[jQ ls];lia,λxs hx=>#[by rw[D.mw xs hx,jQ ls],(AF.fit D.mw ls (show i<=tt by lia)).1 xs hx],λq2 H2 n2 s2 R2=>?_];exact #[e.trans s2,q2,_,rfl,e.none n2,R2]
  ·rintro σ' H' ⟨e,q,y,rfl,nq,Rq⟩;exists k q H' nq e Rq
theorem rA:ba ["_law_parts_here","_law_start","_law_goal_here","_law_steps_here","_law_price","_law_row_here"] ["_law_parts_here","_law_start","_law_goal_here","_law_steps_here","_law_price"] (aN nR):=by walk_at "d"
theorem Bf (T:Txt K mg Z) (ptree:P.given.tree=none):cB P w K mg base fL 6 Z.uD Z.uo ["_law_parts_here","_law_start","_law_goal_here","_law_steps_here","_law_price"] (As K):=by
 have oB:=sE (P:=P) (w:=w) (base:=base) T ptree;have FA:=CI (P:=P) (w:=w) (base:=base) T ptree;have qK:=yG (P:=P) (w:=w) (base:=base) T ptree;have Fw:=CC (P:=P) (w:=w) (base:=base) T ptree;have Fz:=CH (P:=P) (w:=w) (base:=base) T ptree;refine T.mG.F.ok rA (λvs H Q E h=>?_) (λcdv A outer s H vs Q E hr h=>?_)
 ·obtain r|s|g0|p0|tt|H0|mv|pt|lk|st|go|pr|rfl|_:=h;rfl
 ·obtain r|s|g0|p0|tt|H0|mv|pt|lk|st|go|pr|rfl|hT|PQ|D|Rs|ls|Rg|lg|Rp|lpr|PF|hz|h1|k:=h
  refine #[_,(ar (cD (iP (fQ (cy oB hr T.j5 (aa (pv 4) (aa (bB bf (by rfl) T.len aZ (aa (aX bu (pv 0) ak) ai)) ai))))) (az (aV lF)) bK)
   (ar (dY PassesOwn.never rfl (cE (cy FA hr T.ox (aa (pv 0) (aa (pv 3) ai)))) (aU (i:=5) rA.nd)
    (az (cD (br (EC (Jr hr)) (cy qK hr T.kX (aa (pv 4) (aa (pv 5) ai))) (cI (aa ak (aa ak ai))) (bw _)) (az (aV lF)) bK)))
   (az (aV (iG (Jc (Jr hr)) (cy qK hr T.kX (aa (pv 4) (aa (cy Fw hr T.oq (aa (pv 2) (aa (cy Fz hr T.ow (aa (pv 0) (aa (pv 1) (aa (pv 3) ai)))) ai))) ai))) (cI (aa ak (aa ak ai))) (bw _)))))),?_]
  refine aT (σ:=[some (.ref r),some (.ref s),some (.ref g0),some (.int tt),some (.ref p0),none]) rfl ?_;have d8:=D.n8;have i4:=D.i4;obtain m|p|l|g|n1|n2|n3|Gm|Gpt|Gl:=id PQ;obtain um|gm|qm|_:=id Gm;have lum:=qm.9;exists #[_,_,rfl,.inl (bR.of gm),?_];rw[<- lum];exists #[p0,pr.map nm,by rw[aj,lpr],Rp.rowK,by rw[aj];lia,λv hv=>?_,λH2 s2=>?_]
  ·obtain v|mv'|rfl:=aE.mp hv;exact MI (PF.sr v mv')
  exists #[r,tt,H0,mv,pt,lk,rfl,hT,PQ.same s2,D,PF.ad,λq H3 nq s3 Gq=>?_];obtain us|gu|qu|_:=id Gq;have wk:=fj (mv:=mv) (pt:=pt) rfl D.pw tt;have s03:=s2.trans s3;exists #[#[_,bR.of gu],?_];refine iq (K:=K) (a:=q) (xs:=us) (λi σ' H'=>aH H3 H'/\∃x1,σ'=[some (.ref r),some (.ref s),some (.ref g0),some (.int tt),some (.ref p0),x1]) #[aH.refl _,_,rfl] (λi σ' H' _ #[e,_]=>bR.of (e _ _ gu)) ?_ ?_
  ·rintro i v σ' H' hv ⟨e,x1,rfl⟩;obtain row|er|u|rfl|_|Ru:=b6 qu hv;have mr:=av er;have wr:=wk row mr;have e3:=s03.trans e;have dz:cm pr row=0:=by rw[GW ()];exact hz row mr
   exists #[p0,u,pr,row,rfl,Rp.same e3,bV.same Ru e,(),(),PF.f1 row mr,λd1 H4 s4 N4=>?_];rw[dz] at N4;exists bU λt5 H5 s5 g5=>?_
   exists #[_,_,GS,0,0,(),N4.same s5,bQ.mk (q:=0) g5 rfl,?_];rw[decide_eq_true rfl];exists #[(e.trans s4).trans s5,_,rfl]
  ·rintro σ' H' ⟨e,x1,rfl⟩;have e3:=s03.trans e;exists #[r,s,tt,H0,mv,pt,lk,st,rfl,(),PQ.same e3,D,Rs.same e3,ls,PF.al,λal H4 n4 s4 R4=>?_];have lpw:=jQ (mv:=mv) ls tt;exists #[g0,al,go,_,rfl,(Rg.same e3).same s4,R4,by rw[lpw,lg],(),PF.sg,(PF.al.fit D.mw ls (ao _)).2,λlq H5 n5 s5 R5=>?_];have R5:bV K H5 lq (cQ mv tt st go):=R5;have ll:=vX (T:=tt) ls lg;have e5:=(e3.trans s4).trans s5;exists #[p0,lq,pr,_,rfl,Rp.same e5,R5,(),(),PF.f2,λd1 H6 s6 N6=>?_];rw[h1] at N6;exists bU λt7 H7 s7 g7=>?_
   exists #[_,_,GS,1,1,(),N6.same s7,bQ.mk (q:=1) g7 rfl,?_];rw[decide_eq_true rfl];exact k _ ((e5.trans s6).trans s7)
theorem vE:ba ["_law_parts_here","_law_system_here","_law_weights_here","_law_start","_law_goal_here","_law_steps_here","_law_limit_here","_law_found"] ["_law_parts_here","_law_system_here","_law_weights_here","_law_start","_law_goal_here","_law_steps_here","_law_limit_here"] (aN rO):=by walk_at "d"
theorem EJ (T:Txt K mg Z) (ptree:P.given.tree=none):cB P w K mg base fL 10 Z.zv Z.yT ["_law_parts_here","_law_system_here","_law_weights_here","_law_start","_law_goal_here","_law_steps_here","_law_limit_here"] (C7 K Z.a_System):=by
 have qH:=vL (P:=P) (w:=w) (base:=base) T ptree;have CS:=Bf (P:=P) (w:=w) (base:=base) T ptree;have kZ:=pT (P:=P) (w:=w) (base:=base) T ptree;refine T.pZ.F.ok vE (λvs H Q E h=>?_) (λcdv A outer s H vs Q E hr h=>?_)
 ·obtain r|x|q|s|g|lm|kk|a9|c9|H0|H1|mv|pt|lk|ws|st|go|lim|rfl|_:=h;rfl
 ·obtain r|x|q|s|g|lm|kk|a9|c9|H0|H1|mv|pt|lk|ws|st|go|lim|rfl|k12|PQ|S|D|SF|KF|Rq|Rs|ls|Rg|lg|sg|NL|sL|Z1|nw|k1:=h
  refine #[_,(ar (aW (i:=7) vE.nd rfl (Or.inl rfl) (cy qH hr T.oJ (aa (pv 1) (aa (pv 2) (aa (pv 3) (aa (pv 4) (aa (pv 5) ai)))))))
   (ar (cD (br dS (aX bu (pv 7) ak) jR (bw _)) (az (aV (cy CS hr T.mG (aa (pv 0) (aa (pv 3) (aa (pv 4) (aa (pv 5) (aa (aX bu (pv 7) ak) ai)))))))) bK)
   (az (aV (iG oI (aX bu (cy kZ hr T.j4 (aa (aX bu (pv 7) ak) (aa (pv 6) ai))) ak) ak (bw _)))))),?_]
  refine aT (σ:=[some (.ref r),some (.ref x),some (.ref q),some (.ref s),some (.ref g),some (.int kk),some (.ref lm),none]) rfl ?_;obtain N|X|LS|hd:=Z1.ls;obtain D0|W0|E0|W1|CF|hp:=Z1.co;exists #[x,q,s,g,kk,N,X,a9,c9,D0,W0,E0,W1,H0,mv,pt,lk,ws,st,go,rfl,S,D,SF,KF,Rq,Rs,ls,Rg,lg,Z1.cf,sg,LS,CF,λt e p y pr Hb gt ny #[Hm,sm,my,np,Gp] sb Ne Ry sl lt tp=>?_,λt p pr q5 Hb gt np sb nl Rp lp z1 z2 q0 q1 q2=>?_]
  ·have lp:pr.9=mv.9:=by
    obtain R|ps|_|_|e:=lt;rw[e];exact ib
   have hlt:lim < cm pr (cQ mv kk st go):=Classical.byContradiction λz=>nw #[pr,lt,Iz.mp z]
   walk_at "w";rw[decide_eq_false (show ¬(Str.ofString "puts"=Str.ofString "never") by decide)];exists #[_,_,_,_,rfl,Ne,NL.same sb,(hd pr lp tp).1,sL,λrG HG sG NG=>?_];have t0:(nm (cm pr (cQ mv kk st go) - lim)).1 > 0:=Ql (by grind);obtain qG|eG|sqG:=id NG;cases eG;walk_at "w";rw[decide_eq_true t0];exact k1 HG (sb.trans sG)
  ·walk_at "w";rw[decide_eq_true rfl];exists #[r,s,g,p,kk,H1,mv,pt,lk,st,go,pr,rfl,(),PQ.same sb,D,Rs.same sb,ls,Rg.same sb,lg,Rp,lp,hp pr q5 lp q0 q1 q2,z1,z2,λH' s'=>k1 H' (sb.trans s')]
theorem iN:ba ["_law_script","_law_bag_here","_law_parts_here","_law_wide","_law_system_here","_law_weights_here","_law_most","_law_start","_law_goal_here","_law_limit_here","_law_handed","_law_found","_law_steps_here","_law_kept_here"] ["_law_script"] (aN MV):=by walk_at "d"
theorem SI (T:Txt K mg Z) (ptree:P.given.tree=none):cB P w K mg base fL 11 Z.Rm Z.Rk ["_law_script"] (Ax K):=by
 have JJ:=GG (P:=P) (w:=w) (base:=base) T ptree;have CQ:=A9 (P:=P) (w:=w) (base:=base) T ptree;have Im:=EM (P:=P) (w:=w) (base:=base) T ptree;have Cb:=zM (P:=P) (w:=w) (base:=base) T ptree;have Fs:=Cy (P:=P) (w:=w) (base:=base) T ptree;have gI:=kU (P:=P) (w:=w) (base:=base) T ptree;have aO:=dn (P:=P) (w:=w) (base:=base) T ptree;have Io:=ER (P:=P) (w:=w) (base:=base) T ptree;have Fx:=CD (P:=P) (w:=w) (base:=base) T ptree;have Ic:=LF (P:=P) (w:=w) (base:=base) T ptree;have nh:=EO (P:=P) (w:=w) (base:=base) T ptree;have qI:=Cz (P:=P) (w:=w) (base:=base) T ptree;have qH:=vL (P:=P) (w:=w) (base:=base) T ptree;have Fy:=CG (P:=P) (w:=w) (base:=base) T ptree;have kZ:=pT (P:=P) (w:=w) (base:=base) T ptree;have Ij:=EJ (P:=P) (w:=w) (base:=base) T ptree;refine T.RA.ok iN (λvs H Q E h=>?_) (λcdv A outer s H vs Q E hr h=>?_)
 ·obtain a|ns|rfl|_:=h;rfl
 ·obtain a|ns|rfl|hS|hlen|k:=h
  refine #[_,(ar (aW (i:=1) iN.nd rfl (Or.inl rfl) (cy JJ hr T.sH (aa (pv 0) ai)))
   (ar (gv (cy CQ hr T.mF (aa (pv 1) ai)) (xY rfl (cO (aU (i:=2) iN.nd rfl (Or.inr rfl) (Or.inl rfl)) (cO (aU (i:=3) iN.nd) i8))))
   (ar (aW (i:=4) iN.nd rfl (Or.inr rfl) (cy Im hr T.qe (aa (pv 2) ai)))
   (ar (aW (i:=5) iN.nd rfl (Or.inr rfl) (cy Cb hr T.lC (aa (pv 1) (aa (bB bf (by rfl) T.len aZ (aa (aX bu (pv 2) ak) ai)) (aa ak ai)))))
   (ar (aW (i:=6) iN.nd rfl (Or.inl rfl) (bB (oQ rfl) (by rfl) T.min PyProof.Rows.boot_min (aa (cy Fs hr T.oi (aa (pv 1) (aa (pv 2) ai))) (aa (aX bT (du (aa ak (aa ak ai))) (dN lZ (by rfl) T.int PyProof.Rows.boot_int (aa (iG oI (bB bf (by rfl) T.len aZ (aa (aX bu (pv 2) ak) ai)) ak (bw _)) ai))) ai))))
   (ar (aW (i:=7) iN.nd rfl (Or.inr rfl) (cy gI hr T.hJ (aa (pv 1) (aa (bB bf (by rfl) T.len aZ (aa (aX bu (pv 2) ak) ai)) (aa (pv 3) ai)))))
   (fA (cD (br dS (cy aO hr T.aR (aa (pv 1) (aa ak ai))) ak (bw _)) (az (aW (i:=7) iN.nd rfl (Or.inr rfl) (b9 ["_law_row_here"] [] [] (cE (aX bu (pv 2) ak)) (λ_=>(aU (i:=0) (show ND9 ["_law_row_here"] by decide +kernel))) (λ_=>cw) (λ_=>(cI (aa ak (aa ak ai))))))) bK)
   (ar (aW (i:=8) iN.nd rfl (Or.inr rfl) (cy Io hr T.qg (aa (pv 1) (aa (pv 2) (aa (pv 7) (aa (pv 6) (aa (pv 3) ai)))))))
   (ar (aW (i:=9) iN.nd rfl (Or.inr rfl) (cy Fx hr T.ot (aa (pv 1) (aa (pv 4) (aa (pv 5) (aa (pv 7) (aa (pv 8) (aa (pv 6) ai))))))))
   (ar (aW (i:=10) iN.nd rfl (Or.inl rfl) (du (aa (dN (fz K (by rfl)) (by rfl) T.list PyProof.Rows.boot_list (aa (pv 5) ai)) (aa (dN (fz K (by rfl)) (by rfl) T.list PyProof.Rows.boot_list (aa (pv 7) ai)) (aa (dN (fz K (by rfl)) (by rfl) T.list PyProof.Rows.boot_list (aa (pv 8) ai)) ai)))))
   (ar (aW (i:=11) iN.nd rfl (Or.inl rfl) (cy Ic hr T.tI (aa (pv 4) (aa (aX bT (pv 10) ak) (aa (aX bT (pv 10) ak) (aa (aX bT (pv 10) ak) (aa (pv 6) (aa (pv 9) ai))))))))
   (ar (cD (br (EC (Jr hr)) (pv 10) (du (aa (pv 5) (aa (pv 7) (aa (pv 8) ai)))) (bw _)) (az (aV lF)) bK)
   (ar (aW (i:=12) iN.nd rfl (Or.inl rfl) (bJ eJ (pv 6) ak))
   (ar (aW (i:=13) iN.nd rfl (Or.inl rfl) (cy nh hr T.eH (aa (pv 11) ai)))
   (ar (ie (cy qI hr T.gE (aa (pv 11) ai)))
   (ar (aW (i:=11) iN.nd rfl (Or.inl rfl) (cy Ic hr T.tI (aa (pv 4) (aa (pv 5) (aa (pv 7) (aa (pv 8) (aa (pv 6) (aa (pv 9) ai))))))))
   (fA (cD (br (EC (Jr hr)) (pv 11) (pv 13) (bw _)) (az (aV lF)) bK)
   (fA (cD (br EB (pv 11) xZ (bw _)) (ar (cD (PW.pt (lE (iP (fQ (pQ rfl T.isinstance PyProof.Rows.boot_tuple T.tuple (pv 11)))) (jw (br tW (bB bf (by rfl) T.len aZ (aa (pv 11) ai)) ak (bw _))))) (az (aV lF)) bK)
   (ar (aW (i:=12) iN.nd rfl (Or.inl rfl) (aX bu (pv 11) ak))
   (ar (cD (PW.pt (lE (iP (fQ (pQ rfl T.isinstance PyProof.Rows.boot_int T.int (pv 12)))) (lE (fQ (pQ rfl T.isinstance PyProof.Rows.boot_bool T.bool (pv 12))) (jw (iP (Nj Nw Nw ak (pv 12) (pv 6))))))) (az (aV lF)) bK)
   (ar (cD (PW.pt (lE (br (EC (Jr hr)) (aX bu (pv 11) ak) (cy qH hr T.oJ (aa (pv 4) (aa (pv 5) (aa (pv 7) (aa (pv 8) (aa (pv 12) ai)))))) (bw _)) (jw (br tW (aX bu (aX bu (pv 11) ak) ak) jR (bw _))))) (az (aV lF)) bK)
   (az (cD (PW.pt (lE (iP (fQ (cy Fy hr T.ou (aa (pv 2) (aa (pv 7) (aa (pv 8) (aa (pv 12) (aa (aX bu (aX bu (pv 11) ak) ak) ai)))))))) (jw (br oI (aX bu (cy kZ hr T.j4 (aa (aX bu (aX bu (pv 11) ak) ak) (aa (pv 9) ai))) ak) ak (bw _))))) (az (aV lF)) bK)))))) bK)
   (az (aV (bB (wQ rfl) (by rfl) T.all PyProof.Rows.boot_all (aa (b9 ["_law_k"] ["_law_parts_here","_law_system_here","_law_weights_here","_law_start","_law_goal_here","_law_limit_here"] [2,4,5,7,8,9] (cz rfl T.range (aa (pv 12) ai)) (λ_=>(aU (i:=0) (show ND9 ["_law_k","_law_parts_here","_law_system_here","_law_weights_here","_law_start","_law_goal_here","_law_limit_here"] by decide +kernel))) (λ_=>cw) (λ_=>(cy Ij hr T.pZ (aa (pv 1) (aa (pv 2) (aa (pv 3) (aa (pv 4) (aa (pv 5) (aa (pv 0) (aa (pv 6) ai)))))))))) ai)))))))))))))))))))))),?_]
  refine aT (σ:=[some (.ref a),none,none,none,none,none,none,none,none,none,none,none,none,none]) rfl ?_;exists #[a,ns,rfl,hS,hlen,λb H0 hb0 B0 s0=>?_];exists #[b,rfl,B0,λt r w a' c' mv pt lk H1 g1 P1 D F KF RG w1 w2 B1 u1=>?_];have d8:=D.n8;have d4:=D.i4;exists #[r,H0,mv,pt,lk,rfl,P1,D,F.sf,λx H2 nx s2 S2=>?_];replace S2:kg K H0 H2 Z.a_System x mv pt lk:=S2.weakN λq h=>u1.none B1 h
  replace P1:=P1.same s2;have B2:=B1.same s2;obtain m|p|l|gt|mn|pn|ln|Gm|Gp|Gl:=id P1;obtain up|gp|qp|_:=id Gp;have lup:=qp.9;exists #[_,_,rfl,.inl (bR.of gp),?_];rw[<- lup];clear gp qp lup Gm Gp Gl;exists #[b,pt.9,rfl,B2,(),λwq ws H3 nw Rw lw hw B3 u3=>?_];have wb:wq≠b:=λz=>B2.at (by rw[<- z];exact nw)
  replace P1:=P1.upto u3 B2 B0.at;replace S2:=S2.upto u3 B2 B0.at
  have szE:∀xs∈mv++pt,∀x∈xs,iI x:=λxs hx y hy=>by
   obtain M|V|h0|h1|h2|f1|f2|_:=F;refine Ky h0 (ag h1 (au () ())) (ag h2 (au () ())) ?_;rcases aA.mp hx with hx | hx
   ·exact f1 xs hx y hy
   ·exact f2 xs hx y hy
  exists #[b,r,H0,mv,pt,lk,rfl,B3,B0.at,P1,D,szE,λt0 H4 hT B4 u4=>?_];clear szE;replace P1:=P1.upto u4 B3 B0.at;replace S2:=S2.upto u4 B3 B0.at;replace Rw:=Rw.upto u4 B3 wb;obtain m|p|l|gt|mn|pn|ln|Gm|Gp|Gl:=id P1;obtain um|gm|qm|_:=id Gm;have lum:=qm.9;exists cU λl0 H5 s5 n5 g5=>?_
  have B5:=B4.same s5;replace P1:=P1.same s5;replace S2:=S2.same s5;replace Rw:=Rw.same s5;have gt5:=s5 _ _ gt
  rotate_left
  exists #[_,_,rfl,.inl (bR.of (s5 _ _ gm)),?_];rw[<- lum];walk_at "w"
  obtain ⟨m7,m712,e7⟩:∃m7:Nat,m7<=12/\Ir [V.int 12,V.int 6] (if decide ((5:Int) < (mv.9:Int))=true then 1 else 0)=some (V.int (m7:Int)):=by
   by_cases h3:(5:Int) < (mv.9:Int)
   ·exact #[6,(),by rw[decide_eq_true h3];rfl]
   ·exact #[12,(),by rw[decide_eq_false h3];rfl]
  refine cH (bR.of g5) e7 ?_;walk_at "w"
  obtain ⟨tt,et,tl⟩:∃tt:Nat,(if (m7:Int) < (t0:Int) then (m7:Int) else (t0:Int))=(tt:Int)/\tt<=t0:=by
   split
   ·exact #[m7,rfl,()]
   ·exact #[t0,rfl,ao _]
  rw[et];clear et e7;refine #[_,_,rfl,.inl (bR.of (s5 _ _ gm)),?_];rw[<- lum];clear gm qm lum Gm Gp Gl;exists #[b,mv.9,w,rfl,B5,(),w1,(),λq1 st1 H6 n1 R1 l1 d1 B6 u6=>?_];have q1b:q1≠b:=λz=>B5.at (by rw[<- z];exact n1)
  replace P1:=P1.upto u6 B5 B0.at;replace S2:=S2.upto u6 B5 B0.at;replace Rw:=Rw.upto u6 B5 wb;exists #[λσ' H'=>∃(qs:Addr) (st:List Rat),σ'=[some (.ref a),some (.ref b),some (.ref r),some (.int w),some (.ref x),some (.ref wq),some (.int tt),some (.ref qs),none,none,none,none,none,none]/\qs≠b/\bV K H' qs st/\st.9=mv.9/\(∀x∈st,Dr (max w 6) x)/\gV H' b/\cP b H6 H',?_,?_]
  ·exists #[b,2,rfl,B6,(),(),λv7 H7 v70 v71 B7 u7=>?_];obtain m|p|l|gt|mn|pn|ln|Gm|Gp|Gl:=id (P1.upto u7 B6 B0.at);obtain um|gm|qm|_:=id Gm;exists gY (λh0=>?_) (λh0=>?_)
   ·exists #[#[_,bR.of gm],?_];refine dy (K:=K) (F:=λ_ (_:List Rat) _=>True) (λH' (c:Rat) v=>bQ K H' c v) (λ_=>(0:Rat)) gm (Paired.imp' (λ_ _ _=>trivial) qm) () (λa b=>a) (λa b=>a.same b) ?_ ?_
    ·rintro j c v Hi NY NN ej si nv k1;exists bU λt' Hj sj gj=>?_
     exact k1 _ _ sj (bQ.mk (q:=0) gj rfl)
    rintro ys H8 re hre s8 gre pre nxre;have Rr:bV K H8 re (List.replicate mv.9 0):=#[ys,gre,by rw[Cj] at pre;exact pre];exists #[re,_,rfl,λz=>B7.at (by rw[<- z];exact hre),Rr,aQ ..,λx hx=>by rw[fP hx];exact #[by show 0<=_;lia,by show 1<=_;lia],B7.same s8,u7.same s8]
   ·exists #[q1,st1,rfl,q1b,R1.upto u7 B6 q1b,l1,d1,B7,u7]
  rintro σ' H7 ⟨qs,st,rfl,qb,Rs,ls,ds,B7,u7⟩;replace P1:=P1.upto u7 B6 B0.at;replace S2:=S2.upto u7 B6 B0.at;replace Rw:=Rw.upto u7 B6 wb;clear R1 l1 d1 q1b n1;have hT':=hT.less tl;have t12:=hT'.1;obtain M1|M2|Vx|a1|a2|cc|b1|b2|U|_:=Gk RG D hT';exists #[b,r,qs,tt,w,H0,mv,pt,lk,st,rfl,(),w1,w2,B7,B0.at,P1,D,Rs,qb,ls,λpus dp=>U.enf D ls ds (ao _) dp,λg go H8 ng Rg lg GP B8 u8=>?_];have gb:g≠b:=λz=>B7.at (by rw[<- z];exact ng)
  replace P1:=P1.upto u8 B7 B0.at;replace S2:=S2.upto u8 B7 B0.at;replace Rw:=Rw.upto u8 B7 wb;replace Rs:=Rs.upto u8 B7 qb;obtain sg|Z9:=LW RG D hT' ls lg ds GP lw hw;clear U GP ds hT hT' RG ng;exists #[b,x,wq,qs,g,tt,a',c',H0,mv,pt,lk,ws,st,go,rfl,t12,B8,B0.at,wb,qb,gb,S2,D,F,KF,Rw,Rs,ls,Rg,lg,sg,λk hk=>(Z9 k hk).1,λlm L H9 NL sL B9 u9=>?_];replace P1:=P1.upto u9 B8 B0.at;replace S2:=S2.upto u9 B8 B0.at;replace Rw:=Rw.upto u9 B8 wb;replace Rs:=Rs.upto u9 B8 qb;replace Rg:=Rg.upto u9 B8 gb;clear B2 B3 B4 B5 B6 B7 B8 B9 u1 u3 u4 u6 u7 u8 u9;walk_at "w";obtain yc1|gc1|qc1:=id Rw;refine #[wq,yc1,rfl,.inl (bR.of gc1),λc1 hc1=>?_];have sc1:aH H9 (upd H9 c1 (.lst yc1)):=aH.new hc1;have Rc1:bV K (upd H9 c1 (.lst yc1)) c1 ws:=#[yc1,aL,Paired.imp' (λ_ _ z=>z.same sc1) qc1];generalize upd H9 c1 (.lst yc1)=Hc1 at sc1 Rc1 ⊢;clear gc1 qc1;replace P1:=P1.same sc1;replace S2:=S2.same sc1;replace Rw:=Rw.same sc1;replace Rs:=Rs.same sc1;replace Rg:=Rg.same sc1;replace NL:=NL.same sc1;walk_at "w";obtain yc2|gc2|qc2:=id Rs;refine #[qs,yc2,rfl,.inl (bR.of gc2),λc2 hc2=>?_];have sc2:aH Hc1 (upd Hc1 c2 (.lst yc2)):=aH.new hc2;have Rc2:bV K (upd Hc1 c2 (.lst yc2)) c2 st:=#[yc2,aL,Paired.imp' (λ_ _ z=>z.same sc2) qc2];generalize upd Hc1 c2 (.lst yc2)=Hc2 at sc2 Rc2 ⊢;clear gc2 qc2;replace P1:=P1.same sc2;replace S2:=S2.same sc2;replace Rw:=Rw.same sc2;replace Rs:=Rs.same sc2;replace Rg:=Rg.same sc2;replace NL:=NL.same sc2;replace Rc1:=Rc1.same sc2;walk_at "w";obtain yc3|gc3|qc3:=id Rg;refine #[g,yc3,rfl,.inl (bR.of gc3),λc3 hc3=>?_];have sc3:aH Hc2 (upd Hc2 c3 (.lst yc3)):=aH.new hc3;have Rc3:bV K (upd Hc2 c3 (.lst yc3)) c3 go:=#[yc3,aL,Paired.imp' (λ_ _ z=>z.same sc3) qc3];generalize upd Hc2 c3 (.lst yc3)=Hc3 at sc3 Rc3 ⊢;clear gc3 qc3;replace P1:=P1.same sc3;replace S2:=S2.same sc3;replace Rw:=Rw.same sc3;replace Rs:=Rs.same sc3;replace Rg:=Rg.same sc3;replace NL:=NL.same sc3;replace Rc1:=Rc1.same sc3;replace Rc2:=Rc2.same sc3;exists cU λhl HA sA nA gA=>?_
  replace P1:=P1.same sA;replace S2:=S2.same sA;replace Rw:=Rw.same sA;replace Rs:=Rs.same sA;replace Rg:=Rg.same sA;replace NL:=NL.same sA;replace Rc1:=Rc1.same sA;replace Rc2:=Rc2.same sA;replace Rc3:=Rc3.same sA;exists JP t12 S2 D F KF Rc1 Rc2 ls Rc3 lg sg NL sL (λk hk=>(Z9 k hk).1) λo v HB sB FB=>?_
  have gB:=sB _ _ gA;exists cU λl2 HC sC nC gC=>?_
  have sAC:=sB.trans sC;have FC:=FB.same sC;exists #[_,_,EX,[ws,st,go],[ws,st,go],(),#[hl,_,rfl,bR.of (sC _ _ gB),.cons (Rc1.same sAC).kind (.cons (Rc2.same sAC).kind (.cons (Rc3.same sAC).kind .nil))],#[l2,_,rfl,bR.of gC,.cons (Rw.same sAC).kind (.cons (Rs.same sAC).kind (.cons (Rg.same sAC).kind .nil))],?_];rw[decide_eq_true rfl];clear gB gC FB Rc1 Rc2 Rc3;exists Qq FC D t12 lw λkv HD sD KD=>?_
  exists ML FC D t12 lw sD λHE kE=>?_
  have sAE:aH HA HE:=λa o h=>kE a o ((sAC.trans sD) a o h) (.inl λz=>by rw[z.1] at h;cases h)
  have KE:=KD.kp kE λa z y=>y.2 z
  clear KD kE sD sAC sC sB;replace P1:=P1.same sAE;replace S2:=S2.same sAE;replace Rw:=Rw.same sAE;replace Rs:=Rs.same sAE;replace Rg:=Rg.same sAE;replace NL:=NL.same sAE;exists JP t12 S2 D F KF Rw Rs ls Rg lg sg NL sL (λk hk=>(Z9 k hk).1) λo2 v2 HF sF F2=>?_
  obtain rfl:=F2.uniq FC;have KF2:=KE.same sF;clear KE FC;replace P1:=P1.same sF;replace S2:=S2.same sF;replace Rw:=Rw.same sF;replace Rs:=Rs.same sF;replace Rg:=Rg.same sF;replace NL:=NL.same sF;exists #[λσ' H'=>σ'=[some (.ref a),some (.ref b),some (.ref r),some (.int w),some (.ref x),some (.ref wq),some (.int tt),some (.ref qs),some (.ref g),some (.ref lm),some (.ref hl),some v2,some (.int ((tt:Int)+1)),some kv]/\aH HF H',?_,?_]
  ·cases F2 with
   | non n =>
    exists #[_,_,Vh,.unit,.unit,(),rfl,KF2,?_];rw[decide_eq_true rfl];exists #[rfl,aH.refl _]
   | @som kk t u e p y pr hk n gt gu ny hm ne ry sl lt le =>
    obtain Hm|sm|my|np|Gp:=hm;obtain t2|_|rfl|g2|u2|e2|p2|y2|rfl|gu2|ne2|⟨_,Gp2⟩|_|ry2:=KF2;exists #[_,_,Uu Ux (Q6 Ut GS EX GR),((kk:Int),Str.ofString "puts",cm pr (cQ mv kk st go),mM mv pt ws kk pr,pr),((kk:Int),Str.ofString "puts",cm pr (cQ mv kk st go),mM mv pt ws kk pr,pr),(),#[t,_,_,rfl,jB.of gt,rfl,u,_,_,_,_,rfl,jB.of gu,rfl,ne,Gp.kind,ry.kind],#[t2,_,_,rfl,jB.of g2,rfl,u2,_,_,_,_,rfl,jB.of gu2,rfl,ne2,Gp2.kind,ry2.kind],?_];rw[decide_eq_true rfl];exists #[rfl,aH.refl _]
  rintro σ' HG ⟨rfl,sG⟩;have FG:=F2.same sG;clear F2 KF2;replace P1:=P1.same sG;replace S2:=S2.same sG;replace Rw:=Rw.same sG;replace Rs:=Rs.same sG;replace Rg:=Rg.same sG;replace NL:=NL.same sG;exists #[λσ' H'=>∃ks:Nat,σ'=[some (.ref a),some (.ref b),some (.ref r),some (.int w),some (.ref x),some (.ref wq),some (.int tt),some (.ref qs),some (.ref g),some (.ref lm),some (.ref hl),some v2,some (.int ks),some kv]/\ks<=tt+1/\(∀j,j < ks->¬Wi mv pt ws st go L j)/\aH HG H',?_,?_]
  ·cases FG with
   | non n =>
    exists #[rfl,_,rfl,?_];rw[decide_eq_true rfl];exists #[ao _,λj hj=>n j (Nat.le_of_lt_succ hj),aH.refl _]
   | @som kk t u e p y pr hk n gt gu ny hm ne ry sl lt le =>
    obtain Hm|sm|my|np|Gp:=hm;obtain Z1|en:=Z9 kk hk;obtain N|X|LS|hd:=Z1.ls;obtain D0|W0|E0|W1|CF|_:=Z1.co;exists #[rfl,_,rfl,?_];rw[decide_eq_false (show ¬(V.ref t=V.non) from λz=>nomatch z)];exists IW (.tup gt) (.inr (.inr (.inr rfl))) ?_;rw[show tyB "tuple" (.ref t) HG=true by unfold tyB;dsimp only;rw[gt];rfl];exists #[_,_,rfl,.inr (jB.of gt),?_];walk_at "w";rw[decide_eq_true (show (([V.int (kk:Int),V.ref u].9:Nat):Int)=2 from rfl)];exists IW (.int _) (.inl rfl) ?_;walk_at "w"
    try refine NS ?_
    exists IW (.int _) (.inr (.inl rfl)) ?_;rw[show tyB "bool" (V.int (kk:Int)) HG=false from rfl];walk_at "w";unfold MG;walk_at "w";rw[decide_eq_true (show (0:Int)<=(kk:Int) by lia)];walk_at "w";rw[decide_eq_true (show (kk:Int)<=(tt:Int) by lia)];exists #[x,wq,qs,g,kk,N,X,a',c',D0,W0,E0,W1,H0,mv,pt,lk,ws,st,go,rfl,S2,D,F,KF,Rw,Rs,ls,Rg,lg,Z1.cf,sg,LS,CF,λt5 e5 p5 y5 pr5 HI gt5 ny5 #[Hm5,sm5,my5,np5,Gp5] sI Ne5 Ry5 sl5 lt5 tp5=>?_,λ_ _ _ _ _ _ _ _ nl _ _ _ _ _ _ _=>absurd lt (nl pr)];obtain rfl:=lt5.uniq lt;have gt9:=sI _ _ gt;have gu9:=sI _ _ gu;exists #[_,_,Q6 Ut GS EX GR,(Str.ofString "puts",cm pr5 (cQ mv kk st go),mM mv pt ws kk pr5,pr5),(Str.ofString "puts",cm pr5 (cQ mv kk st go),mM mv pt ws kk pr5,pr5),(),#[u,_,_,_,_,rfl,jB.of gu9,rfl,ne.same sI,(Gp.same sI).kind,(ry.same sI).kind],#[t5,_,_,_,_,rfl,jB.of gt5,rfl,Ne5,Gp5.kind,Ry5.kind],?_];rw[decide_eq_true rfl];walk_at "w";rw[decide_eq_true rfl];exists #[r,qs,g,p,kk,H0,Hm,mv,pt,lk,mM mv pt ws kk pr5,st,go,rfl,(),P1.same sI,D,Rs.same sI,ls,Rg.same sI,Gp.same sI,Ez,Q3 lw,en _ lt,Lu D ls lg lw sl,λHJ sJ=>?_];have lp:pr5.9=mv.9:=sl.1;have gu10:=sJ _ _ gu9;have gt10:=sJ _ _ gt9;exists #[_,_,_,_,rfl,ne.same (sI.trans sJ),NL.same (sI.trans sJ),(hd pr5 lp tp5).1,sL,λrG HL sR NG=>?_];have t0:¬(nm (cm pr5 (cQ mv kk st go) - L)).1 > 0:=Qn (by grind);obtain qG|eG|sqG:=id NG;cases eG;walk_at "w";rw[decide_eq_false t0];exists #[(),n,(sI.trans sJ).trans sR]
  rintro σ' HK ⟨ks,rfl,ks1,nk,sK⟩;replace P1:=P1.same sK;replace S2:=S2.same sK;replace Rw:=Rw.same sK;replace Rs:=Rs.same sK;replace Rg:=Rg.same sK;replace NL:=NL.same sK;exists #[(),(),?_];refine qA (n:=ks) (λi ys H'=>aH HK H'/\ys=List.replicate i (.bl true)) (be (bC ())) #[aH.refl _,rfl] ?_ ?_
  ·rintro i ys H8 hi hlen ⟨s8,rfl⟩;rw[Ai];exists #[r,x,wq,qs,g,lm,i,a',c',H0,H0,mv,pt,lk,ws,st,go,L,rfl,(),P1.same s8,S2.same s8,D,F,KF,Rw.same s8,Rs.same s8,ls,Rg.same s8,lg,sg,NL.same s8,sL,(Z9 i ()).1,nk i hi,λH9 s9=>#[s8.trans s9,by rw[kh]]]
  rintro ys H8 hy ⟨s8,rfl⟩ l9 hl9;exists #[l9,List.replicate ks true,rfl,bR.of (by rw[aL];simp),?_];rw[show (List.replicate ks true).all id=true by simp];exact k _
end
theorem ln1 {P:List Value->Prop} (h:∀x0,P [x0]):∀us:List Value,us.9=1->P us
 | [x0],_=>h x0
theorem ln2 {P:List Value->Prop} (h:∀x0 x1,P [x0,x1]):∀us:List Value,us.9=2->P us
 | [x0,x1],_=>h x0 x1
theorem ln3 {P:List Value->Prop} (h:∀x0 x1 x2,P [x0,x1,x2]):∀us:List Value,us.9=3->P us
 | [x0,x1,x2],_=>h x0 x1 x2
theorem ln4 {P:List Value->Prop} (h:∀x0 x1 x2 x3,P [x0,x1,x2,x3]):∀us:List Value,us.9=4->P us
 | [x0,x1,x2,x3],_=>h x0 x1 x2 x3
theorem ln5 {P:List Value->Prop} (h:∀x0 x1 x2 x3 x4,P [x0,x1,x2,x3,x4]):∀us:List Value,us.9=5->P us
 | [x0,x1,x2,x3,x4],_=>h x0 x1 x2 x3 x4
theorem ln6 {P:List Value->Prop} (h:∀x0 x1 x2 x3 x4 x5,P [x0,x1,x2,x3,x4,x5]):∀us:List Value,us.9=6->P us
 | [x0,x1,x2,x3,x4,x5],_=>h x0 x1 x2 x3 x4 x5
theorem ln7 {P:List Value->Prop} (h:∀x0 x1 x2 x3 x4 x5 x6,P [x0,x1,x2,x3,x4,x5,x6]):∀us:List Value,us.9=7->P us
 | [x0,x1,x2,x3,x4,x5,x6],_=>h x0 x1 x2 x3 x4 x5 x6
local macro_rules | `(tactic| walk_at "b") => `(tactic| (intro _ _ _ _ _ _; first | (refine ln1 ?_; intros; rfl) | (refine ln2 ?_; intros; rfl) | (refine ln3 ?_; intros; rfl) | (refine ln4 ?_; intros; rfl) | (refine ln5 ?_; intros; rfl) | (refine ln6 ?_; intros; rfl) | (refine ln7 ?_; intros; rfl)))
theorem all_mk {l:W.OpenLaw} {K:W.Frag} 
 
  (X:K.In h) (G:h.Ns mainGlobals mg) (hfa:mg "law"=some (.ref fa)) (htree:l.prog.given.tree=none)
 (aC:W.nsIn K mainGlobals "System"=some (some (.ref C)))
  (h0:Dh K "_law_bag" uX f0 e0)
  (h1:Dh K "_law_take" rK f1 e1)
  (h2:Dh K "_law_sizes" lJ f2 e2)
  (h3:Dh K "_law_line" rT f3 e3)
  (h4:Dh K "_law_low" uU f4 e4)
  (h5:Dh K "_law_sum" uR f5 e5)
  (h6:Dh K "_law_plus" rN f6 e6)
  (h7:Dh K "_law_prod" rM f7 e7)
  (h8:Dh K "_law_by" xU f8 e8)
  (h9:Dh K "_law_mixed" pG f9 e9)
  (h10:Dh K "_law_two_lines" kj f10 e10)
  (h11:Dh K "_law_number" nU f11 e11)
  (h12:Dh K "_law_row" uS f12 e12)
  (h13:Dh K "_law_move" rR f13 e13)
  (h14:Dh K "_law_parts" pF f14 e14)
  (h15:Dh K "_law_system" nQ f15 e15)
  (h16:Dh K "want_list" rC f16 e16)
  (h17:Dh K "is_whole" uQ f17 e17)
  (h18:Dh K "common_divisor" ki f18 e18)
  (h19:Dh K "is_number" rH f19 e19)
  (h20:Dh K "is_row" AS f20 e20)
  (h21:Dh K "copied_rows" nP f21 e21)
  (a22:W.findIn K (.ref C) "__init__"=some (some (.ref f22))) (i22:W.isFn K (.ref f22)=true) (l22:K.lookup f22=some #[oc22,od22,.func (W.fnOf "__init__" "System.__init__" (lQ eN) (j9 eN) (aN eN) .none kV22 dc22 pm22 an22 cd22 ct22),sl22]) (c22:W.codeIn K cd22 "System.__init__"=true) (k22:W.keepIn K (.ref f22)=true)
  (h23:Dh K "_law_copied" nW f23 e23)
  (h24:Dh K "_law_made" rS f24 e24)
  (h25:Dh K "_law_weights" mj f25 e25)
  (h26:Dh K "_law_steps" pC f26 e26)
  (h27:Dh K "_law_dot" uW f27 e27)
  (h28:Dh K "_law_on" xT f28 e28)
  (h29:Dh K "_law_next" rQ f29 e29)
  (h30:Dh K "_law_end" uV f30 e30)
  (h31:Dh K "_law_puts" rL f31 e31)
  (h32:Dh K "_law_goal" rX f32 e32)
  (h33:Dh K "common_multiple" jO f33 e33)
  (h34:Dh K "common_bottom" lB f34 e34)
  (h35:Dh K "tops_over" rD f35 e35)
  (h36:Dh K "lowest" AQ f36 e36)
  (h37:Dh K "row_dot" xN f37 e37)
  (h38:Dh K "grid_on" xR f38 e38)
  (h39:Dh K "moved_rows" ph f39 e39)
  (h40:Dh K "additions" rJ f40 e40)
  (h41:Dh K "minus" Ex f41 e41)
  (h42:Dh K "row_minus" rE f42 e42)
  (h43:Dh K "grid_turned" nO f43 e43)
  (a44:W.findIn K (.ref C) "moved"=some (some (.ref f44))) (i44:W.isFn K (.ref f44)=true) (l44:K.lookup f44=some #[oc44,od44,.func (W.fnOf "moved" "System.moved" (lQ gQ) (j9 gQ) (aN gQ) .none kV44 dc44 pm44 an44 cd44 ct44),sl44]) (c44:W.codeIn K cd44 "System.moved"=true) (k44:W.keepIn K (.ref f44)=true)
  (h45:Dh K "course" AU f45 e45)
  (h46:Dh K "nought_row" pe f46 e46)
  (h47:Dh K "nothing_for" nN f47 e47)
  (h48:Dh K "lacking" xQ f48 e48)
  (h49:Dh K "first_with" pA f49 e49)
  (h50:Dh K "cleared" xS f50 e50)
  (h51:Dh K "brought_up" pB f51 e51)
  (h52:Dh K "swept" Eu f52 e52)
  (h53:Dh K "solved" AN f53 e53)
  (h54:Dh K "solve" Ew f54 e54)
  (h55:Dh K "flat" IQ f55 e55)
  (h56:Dh K "grid_times" pk f56 e56)
  (h57:Dh K "parted" AO f57 e57)
  (h58:Dh K "parted_by" rF f58 e58)
  (h59:Dh K "led_to" AR f59 e59)
  (h60:Dh K "reduced" xO f60 e60)
  (h61:Dh K "reach_grown" nM f61 e61)
  (h62:Dh K "weights_for" nK f62 e62)
  (h63:Dh K "cut" MW f63 e63)
  (h64:Dh K "come" IS f64 e64)
  (h65:Dh K "puts_at" xP f65 e65)
  (h66:Dh K "least" Ey f66 e66)
  (h67:Dh K "_law_limit" pJ f67 e67)
  (h68:Dh K "under" Et f68 e68)
  (h69:Dh K "within" AM f69 e69)
  (h70:Dh K "_law_kept" rW f70 e70)
  (h71:Dh K "_law_spoil" pE f71 e71)
  (h72:Dh K "_law_is_number" ko f72 e72)
  (h73:Dh K "_law_is_row" nV f73 e73)
  (h74:Dh K "_law_is_grid" mo f74 e74)
  (h75:Dh K "_law_leads" pK f75 e75)
  (h76:Dh K "_law_less" rV f76 e76)
  (h77:Dh K "_law_added" pM f77 e77)
  (h78:Dh K "_law_minus" pH f78 e78)
  (h79:Dh K "_law_alone" pL f79 e79)
  (h80:Dh K "_law_priced" nR f80 e80)
  (h81:Dh K "_law_over" rO f81 e81)
  (h82:Dh K "law" MV f82 e82)
 (ca0:W.nsIn K mainGlobals "NOUGHT"=some (some (.ref m0))) (cl0:K.lookup m0=some #[.type "tuple",mo0,.seq [.int 0 mt0_0,.int 1 mt0_1].toArray mn0,ms0])
 (ca1:W.nsIn K mainGlobals "ONE"=some (some (.ref m1))) (cl1:K.lookup m1=some #[.type "tuple",mo1,.seq [.int 1 mt1_0,.int 1 mt1_1].toArray mn1,ms1])
 (ci0:W.nsIn K mainGlobals "MOST_STATES"=some (some (.int 8 it0)))
 (ci1:W.nsIn K mainGlobals "MOST_PUTS"=some (some (.int 4 it1)))
 (ci2:W.nsIn K mainGlobals "MOST_LOOKS"=some (some (.int 4 it2)))
  (pg:W.plainGet K C Str.empty=true) (hd:W.hasDictIn K C=true) (po:W.plainOver K C=true) (sa:W.findIn K (.ref C) "__setattr__"=some (some (.builtin "object.__setattr__"))) (mk:W.makesIn K C=true) (kc:W.keepIn K (.ref C)=true)
  (n_move:W.findIn K (.ref C) "move"=some none)
  (n_states:W.findIn K (.ref C) "states"=some none)
  (n_put:W.findIn K (.ref C) "put"=some none)
  (n_ins:W.findIn K (.ref C) "ins"=some none)
  (n_look:W.findIn K (.ref C) "look"=some none)
  (n_outs:W.findIn K (.ref C) "outs"=some none)
  (z_abs:W.nsIn K mainGlobals "abs"=some none)
  (z_len:W.nsIn K mainGlobals "len"=some none)
  (z_min:W.nsIn K mainGlobals "min"=some none)
  (z_int:W.nsIn K mainGlobals "int"=some none)
  (z_range:W.nsIn K mainGlobals "range"=some none)
  (z_isinstance:W.nsIn K mainGlobals "isinstance"=some none)
  (z_list:W.nsIn K mainGlobals "list"=some none)
  (z_bool:W.nsIn K mainGlobals "bool"=some none)
  (z_tuple:W.nsIn K mainGlobals "tuple"=some none)
  (z_all:W.nsIn K mainGlobals "all"=some none)
  (z_enumerate:W.nsIn K mainGlobals "enumerate"=some none)
  (z_max:W.nsIn K mainGlobals "max"=some none)
  (z_zip:W.nsIn K mainGlobals "zip"=some none)
  (z_sum:W.nsIn K mainGlobals "sum"=some none)
  (z_reversed:W.nsIn K mainGlobals "reversed"=some none)
  : ∃fd:FuncData,(∀(s:Shared) (v:Value),BindsTo s fd #[[v],[]] [("_law_script",v)])/\∀base:Heap,K.In base->base.Ns mainGlobals mg->cB l.prog w K mg base fL 11 fa fd ["_law_script"] (Ax K):=by
 have e:=hfa.symm.trans (W.mg_of X G h82.a);cases e;obtain _|_|_|_|_|_|_|_|_|rfl|_|_:=h82.F.ex;have F22:=Jw (st:=eN) l22 c22 k22;have F44:=Jw (st:=gQ) l44 c44 k44
 have T:Txt K mg #[f0,_,f1,_,f2,_,f3,_,f4,_,f5,_,f6,_,f7,_,f8,_,f9,_,f10,_,f11,_,f12,_,f13,_,f14,_,f15,_,f16,_,f17,_,f18,_,f19,_,f20,_,f21,_,f22,_,f23,_,f24,_,f25,_,f26,_,f27,_,f28,_,f29,_,f30,_,f31,_,f32,_,f33,_,f34,_,f35,_,f36,_,f37,_,f38,_,f39,_,f40,_,f41,_,f42,_,f43,_,f44,_,f45,_,f46,_,f47,_,f48,_,f49,_,f50,_,f51,_,f52,_,f53,_,f54,_,f55,_,f56,_,f57,_,f58,_,f59,_,f60,_,f61,_,f62,_,f63,_,f64,_,f65,_,f66,_,f67,_,f68,_,f69,_,f70,_,f71,_,f72,_,f73,_,f74,_,f75,_,f76,_,f77,_,f78,_,f79,_,f80,_,f81,_,fa,_,m0,m1,it0,it1,it2,C]:={
  sH:=h0.D X G
  aR:=h1.D X G
  oj:=h2.D X G
  j3:=h3.D X G
  fX:=h4.D X G
  gZ:=h5.D X G
  lO:=h6.D X G
  jb:=h7.D X G
  qh:=h8.D X G
  kL:=h9.D X G
  jY:=h10.D X G
  jZ:=h11.D X G
  hJ:=h12.D X G
  p9:=h13.D X G
  oo:=h14.D X G
  mF:=h15.D X G
  jW:=h16.D X G
  mS:=h17.D X G
  fW:=h18.D X G
  pX:=h19.D X G
  yc:=h20.D X G
  iU:=h21.D X G
  mX:=F22.binds (ps:=["self","move","put","look"]) λ_ _ _ _ _ _=>by refine ln4 ?_;intros;rfl
  ni:=F22
  iV:=h23.D X G
  qe:=h24.D X G
  lC:=h25.D X G
  oi:=h26.D X G
  kX:=h27.D X G
  mH:=h28.D X G
  p7:=h29.D X G
  mT:=h30.D X G
  pY:=h31.D X G
  qg:=h32.D X G
  jz:=h33.D X G
  d7:=h34.D X G
  ig:=h35.D X G
  jF:=h36.D X G
  jy:=h37.D X G
  kD:=h38.D X G
  kK:=h39.D X G
  lN:=h40.D X G
  Bm:=h41.D X G
  pV:=h42.D X G
  fH:=h43.D X G
  qN:=#[a44,i44,k44]
  sY:=F44.binds (ps:=["self","state","puts"]) λ_ _ _ _ _ _=>by refine ln3 ?_;intros;rfl
  tE:=F44
  yd:=h45.D X G
  jq:=h46.D X G
  jX:=h47.D X G
  pW:=h48.D X G
  og:=h49.D X G
  vm:=h50.D X G
  oh:=h51.D X G
  vS:=h52.D X G
  tJ:=h53.D X G
  vT:=h54.D X G
  vU:=h55.D X G
  oa:=h56.D X G
  ya:=h57.D X G
  lM:=h58.D X G
  yb:=h59.D X G
  vg:=h60.D X G
  mE:=h61.D X G
  mD:=h62.D X G
  Jk:=h63.D X G
  ET:=h64.D X G
  vh:=h65.D X G
  oJ:=h66.D X G
  ot:=h67.D X G
  Bl:=h68.D X G
  tI:=h69.D X G
  eH:=h70.D X G
  gE:=h71.D X G
  j6:=h72.D X G
  j5:=h73.D X G
  lD:=h74.D X G
  ou:=h75.D X G
  j4:=h76.D X G
  ox:=h77.D X G
  oq:=h78.D X G
  ow:=h79.D X G
  mG:=h80.D X G
  pZ:=h81.D X G
  RA:=h82.F
  abs:=W.mg_none_of X G z_abs
  len:=W.mg_none_of X G z_len
  min:=W.mg_none_of X G z_min
  int:=W.mg_none_of X G z_int
  range:=W.mg_none_of X G z_range
  isinstance:=W.mg_none_of X G z_isinstance
  list:=W.mg_none_of X G z_list
  bool:=W.mg_none_of X G z_bool
  tuple:=W.mg_none_of X G z_tuple
  all:=W.mg_none_of X G z_all
  enumerate:=W.mg_none_of X G z_enumerate
  max:=W.mg_none_of X G z_max
  zip:=W.mg_none_of X G z_zip
  sum:=W.mg_none_of X G z_sum
  reversed:=W.mg_none_of X G z_reversed
  mg_NOUGHT:=W.mg_of X G ca0
  sq_NOUGHT:=λH=>.inr #[_,_,_,cl0,rfl,rfl,jK rfl,.cons #[_,rfl] (.cons #[_,rfl] (.nil))]
  mg_ONE:=W.mg_of X G ca1
  sq_ONE:=λH=>.inr #[_,_,_,cl1,rfl,rfl,jK rfl,.cons #[_,rfl] (.cons #[_,rfl] (.nil))]
  mg_MOST_STATES:=W.mg_of X G ci0
  mg_MOST_PUTS:=W.mg_of X G ci1
  mg_MOST_LOOKS:=W.mg_of X G ci2
  mg_System:=W.mg_of X G aC
  cl_System:=#[pg,hd,po,sa]
  na_move:=n_move
  na_states:=n_states
  na_put:=n_put
  na_ins:=n_ins
  na_look:=n_look
  na_outs:=n_outs
  mk_System:=#[mk,a22,i22,kc] }
 exact #[_,λs v=>.of_eq rfl,λbase _ _=>SI T htree]
theorem walk {l:W.OpenLaw} {K:Params->W.Frag} (hn:l.most=some 63) (hdf:d.params.defaults=[])
  (hi:PyProof.Rows.importsNone q=true)
  (hY:∀(w:World) (h:Heap),YP w h->(K w.params).In h)
  (F:∀(w:World) (mg:Str->Option Value) (fa:Addr) (h:Heap),(K w.params).In h->h.Ns mainGlobals mg->mg d.name=some (.ref fa) →
   ∃fd:FuncData,(∀(s:Shared) (u:Value),BindsTo s fd #[[u],[]] [("_law_script",u)])/\∀base:Heap,(K w.params).In base->base.Ns mainGlobals mg->cB l.prog w (K w.params) mg base fL 11 fa fd ["_law_script"] (Ax (K w.params))) :
  W.WalkO q loose XP YP l.row.toRowW d [] (λf vs=>PySem.call f vs) :=
 L2.O4 (n:=63) (k:=11) (x:="_law_script") (CX:=λ_=>fL) (sp:=λw=>Ax (K w.params)) hn () hdf #[rfl,(),()] hi hY F (λ_ _ a ns hl _ hS=>#[a,ns,rfl,hS,hl,λ_=>rfl]) λ_ _ _ _ _ z=>z
end Lw
namespace PySem.W.Fast
def tw2488661481210394834:=1
def tw18336904880179399473:=1
def tw9005235619835299777:=1
def tw2979581716633030487:=1
def tw9283391416182636294:=1
def tw4008373065451067603:=1
def tw13155696355032153145:=1
def tw14468881025547365692:=1
def tw1353261298113413729:=1
def tw9127953552353629694:=1
def tw7939124015108833607:=1
def tw13864255980158340799:=1
def tw11525372515133077887:=1
def tw11298314600221641967:=1
def tw13592065110029273389:=1
def tw17600358996572492762:=1
def tw8133414130877767160:=1
def tw6609746874804305022:=1
def tw9478695149657656366:=1
def tw15980385896397736179:=1
def tw9537698359766168065:=1
def tw17345449476296851067:=1
def tw8191083303729892832:=1
def tw3093525664596069151:=1
def tw4975928394734564580:=1
def tw6951075546903507383:=1
def tw17976219342097030115:=1
def tw6093872526513135353:=1
def tw14904994116147604658:=1
def tw7656282000220735358:=1
def tw15174586758895257230:=1
def tw8817648343256458939:=1
def tw7914765119725786129:=1
def tw6979971746046754982:=1
def tw16904829529315702895:=1
def tw17717323197719551507:=1
def tw1447390244973549233:=1
def tw16746243987565984477:=1
def tw12443287021316740080:=1
def tw6932440824214083822:=1
def tw10418628548300930052:=1
def tw9595496069060537478:=1
def tw15494109964225373124:=1
def tw2546952105086022765:=1
def tw9365200713260298560:=1
def tw4262764458723917177:=1
def tw597387521932476310:=1
def tw17295889127136759282:=1
def tw2382505744313169795:=1
def tw429959538648787251:=1
def tw12502258625195004736:=1
def tw2584802350537521535:=1
def tw9075297083021900972:=1
def tw3014848667916106839:=1
def tw11844562116530482168:=1
def tw11495083186399936119:=1
def tw7254576263590240527:=1
def tw3233327273592572274:=1
def tw9674705551019009741:=1
def tw13015180283599166447:=1
def tw7814672986874668522:=1
def tw10743001569500530978:=1
def tw5433104139387975877:=1
def tw1373666883628606311:=1
def tw12119512700447456764:=1
def tw15148372921480759665:=1
def tw7373915559665099046:=1
def tw2443504844111897636:=1
def tw11840288056957204563:=1
def tw4775083985232328099:=1
def tw7403683028457294425:=1
def tw8419169707092022588:=1
def tw3479915611950469501:=1
def tw1221382599539357748:=1
def tw10230787517843520899:=1
def tw10459021629110530980:=1
def tw16462365295619530848:=1
def tw14205525046865754183:=1
def tw16153113073294829241:=1
def tw14601910679551905048:=1
def tw373146514668178727:=1
def tw1778650908882527132:=1
def tw11701503301513314694:=1
def tw12586329520163123134:=1
def tw13714883736360771091:=1
def tw4454094097435274864:=1
def tw264416196573716961:=1
def tw724346163943970607:=1
def tw11644323395806871004:=1
def tw15305490882852542259:=1
def tw1484093101783211977:=1
def tw778924625128107888:=1
def tw8623477894341481797:=1
def tw17834103948396307625:=1
def tw12817797655199663682:=1
def tw7071291523668484090:=1
def tw13969765443505331458:=1
def tw16702484623673286130:=1
def tw18034997078040353947:=1
def tw5729123293938661341:=1
def tw7626328180171237268:=1
def tw17932036285834011014:=1
def tw180615462728577140:=1
def tw17468568495890786560:=1
def tw1436540656046111818:=1
def tw13401761454588958045:=1
def tw10890081148023960318:=1
def tw3775583046908444077:=1
def tw1668266515932727695:=1
def tw15397791488025809768:=1
def tw8292655520964442962:=1
def tw17803323898262817371:=1
def tw5448170299882201859:=1
def tw13100590851715139373:=1
def tw13763339780104749816:=1
def tw14093572747520217969:=1
def tw2456389199517924042:=1
def tw11902746069212349846:=1
def tw12416669037687479106:=1
def tw3853710882519124367:=1
def tw18145960011231031105:=1
def tw114051456280996742:=1
def tw13103901172766153054:=1
def tw7737179224151661868:=1
def tw18285062428557147788:=1
def tw17124067093635263564:=1
def tw4028404704160050448:=1
def tw6353983443497259527:=1
def tw14727660717053360034:=1
def tw9994942877168404742:=1
def tw4271380370067548411:=1
def tw13274640063701536135:=1
def tw562948941512780959:=1
def tw11586492408735492953:=1
def tw92696360633243850:=1
def tw7594552199909979539:=1
def tw10484272715066374503:=1
def tw2695740039950800539:=1
def tw1056386100677983512:=1
def tw10770233299286758371:=1
def tw4976085122158643702:=1
def tw5533682250274719390:=1
def tw2318367562504569887:=1
def tw12904441825905749206:=1
def tw18078453549216515779:=1
def tw7240273899084592289:=1
def tw8688277340788421496:=1
def tw4296041042461265078:=1
def tw18025387878104935662:=1
def tw16351556127455093401:=1
def tw11125757754255023447:=1
def tw2925436288394205193:=1
def tw1567829905727663685:=1
def tw15723047256072308506:=1
def tw18341653187374408028:=1
def tw11319251096042440386:=1
def tw422256605572927037:=1
def tw1109926489193833246:=1
def tw7318427533464468117:=1
def tw12595032020392321315:=1
def tw3601676688446332177:=1
def tw3589148450505179746:=1
def tw18052505568943302980:=1
def tw16785072172667059736:=1
def tw12344612986022879286:=1
def tw8189672123610322765:=1
def tw5028865386880284564:=1
def tw11664270316753193596:=1
def tw15483567569968484696:=1
def tw13111100614373024123:=1
def tw9876905423482000373:=1
def tw4105105138417997569:=1
def tw15467479652231865129:=1
def tw14222156225870771477:=1
def tw5432196039339729886:=1
def tw866926190102671068:=1
def tw15213847777972174508:=1
def tw9843758056701021384:=1
def tw8467463147223351271:=1
def tw14964115925249739514:=1
def tw8156732195038257256:=1
def tw3167279982110996219:=1
def tw3791295326563737394:=1
def tw3981361372524646683:=1
def tw15917562031502485423:=1
def tw17797465483215622774:=1
def tw9080169635015340270:=1
def tw10007386208384164105:=1
def tw11835097694678543447:=1
def tw11336458826442874452:=1
def tw13402350231185169731:=1
def tw8925584310034642144:=1
def tw2188274451608547146:=1
def tw13218006849797037593:=1
def tw6348940932231208856:=1
def tw10222069509474985990:=1
def tw3128995107722122594:=1
def tw14553992025443694024:=1
def tw2932212398464558150:=1
def tw14214400225439428781:=1
def tw11123776916568572806:=1
def tw146147144725123018:=1
def tw3302696720911362840:=1
def tw5433795290796929607:=1
def tw16413272923167601038:=1
def tw6440927476782034591:=1
def tw10851433078735825847:=1
def tw12226447106403677537:=1
def tw2756815842966837332:=1
def tw17331748112922345770:=1
def tw12323693489921478206:=1
def tw13721660947556304754:=1
def tw17058006793327555339:=1
def tw5697215227520851314:=1
def tw11812510262461851940:=1
def tw13945152938582214720:=1
def tw4656095493084792012:=1
def tw14697519342541465461:=1
def tw2752234886926002055:=1
def tw7302190020967876911:=1
def tw16045774339531074332:=1
def tw4448785714012639978:=1
def tw14044521350020799441:=1
def tw12418875702059302117:=1
def tw17958399069978505093:=1
def tw12292759969263830029:=1
def tw15311474146757070987:=1
def tw12985720613148961677:=1
def tw2013622249871903393:=1
def tw13272477984952881937:=1
def tw3033582145065055724:=1
def tw12882013912029732086:=1
def tw988903086829753952:=1
def tw2490593948123002318:=1
def tw9548278917887644604:=1
def tw14042762966980969198:=1
def tw4147799753791603529:=1
def tw16008024038844794020:=1
def tw9884442325725405195:=1
def tw3049831840701999495:=1
def tw10300683435144307943:=1
def tw9332516285930300659:=1
def tw10549861320864725191:=1
def tw10241016253826625255:=1
def tw8340548827531168998:=1
def tw14762432438206009329:=1
def tw16356229491133402372:=1
def tw3947813886240685106:=1
def tw11289734529255314263:=1
def tw4723484254578054713:=1
def tw9751401905237853504:=1
def tw10686143993193672113:=1
def tw4336959270450091543:=1
def tw5537309497472352902:=1
def tw1541099239602293831:=1
def tw9331259729500837086:=1
def tw9247219263511226442:=1
def tw11042730984336832200:=1
def tw12929240063724446120:=1
def tw7491632211113906426:=1
def tw11938843395514875459:=1
def tw5433658242748601986:=1
def tw3486641065390142788:=1
def tw17825611695089502092:=1
def tw11675255577641001825:=1
def tw10526398391557563573:=1
def tw16997497791988474335:=1
def tw13379549770354846161:=1
def tw14497894410034751734:=1
def tw10797146042308886084:=1
def tw17357255340573264188:=1
def tw17599316500046305745:=1
def tw11494091269215106375:=1
def tw7730049545565544519:=1
def tw9921789497687179976:=1
def tw2967256332402125221:=1
def tw5572376900737280876:=1
def tw6913488613675725793:=1
def tw6859387778786963680:=1
def tw9438156297208263860:=1
def tw4119374128787321484:=1
def tw2326340369236385098:=1
def tw10606219364725982813:=1
def tw2956946580604826447:=1
def tw15593160655404504612:=1
def tw8995881563711004423:=1
def tw9301956566690998256:=1
def tw14219336585392337015:=1
def tw9626223588676611924:=1
def tw10498471950789110699:=1
def tw13244496471332803763:=1
def tw220525155242635025:=1
def tw3550372866076383295:=1
def tw2904732141266491640:=1
def tw11215579199682661918:=1
def tw1095118337958082578:=1
def tw14155457217745503989:=1
def tw14812209971570279088:=1
def tw8847971312900898529:=1
def tw11466519230224863290:=1
def tw10756830874035762895:=1
def tw11753302141653725504:=1
def tw2049610111082664339:=1
def tw15866116215664260104:=1
def tw16446168929420165939:=1
def tw13429700893718403922:=1
def tw2108435531689666226:=1
def tw16377759232492792431:=1
def tw3539553811161564994:=1
def tw9814142427277858853:=1
def tw10766968710258938645:=1
def tw9925517275657914454:=1
def tw11822617789580126062:=1
def tw2057226249260802301:=1
def tw9078077373469024367:=1
def tw13165358625355562118:=1
def tw8826010455226186559:=1
def tw15536989333463692713:=1
def tw12073404322250446514:=1
def tw12894998893316436140:=1
def tw3816311371086120638:=1
def tw11269711701100065976:=1
def tw16230427023578614594:=1
def tw6978312280506508408:=1
def tw11039284711086954416:=1
def tw13759613731905545638:=1
def tw2752818129795819532:=1
def tw8929500063970000061:=1
def tw2995550962481643022:=1
def tw12004785491961905133:=1
def tw5216297800884910424:=1
def tw15146919485104025973:=1
def tw2635619035939313181:=1
def tw5938438358962973435:=1
def tw6448700674336630385:=1
def tw8321912712611905172:=1
def tw14546584672952423166:=1
def tw10804801642036169806:=1
def tw858916583261470823:=1
def tw9248835430689602000:=1
def tw9188625981128923397:=1
def tw12430356423018963051:=1
def tw3048089691370547346:=1
def tw7565700303052333471:=1
def tw1406035024265901617:=1
def tw9127040004638785551:=1
def tw9693205765283280984:=1
def tw1393581471306850698:=1
def tw3066059216952707460:=1
def tw12314600194000225825:=1
def tw13891391452515819925:=1
def tw15269441018008759479:=1
def tw1142293187937328787:=1
def tw2591801783057470405:=1
def tw309897475641131430:=1
def tw8176519483723357694:=1
def tw1626546051593207739:=1
def tw7653357162845711621:=1
def tw1254990801828444338:=1
def tw18159370738910118640:=1
def tw7354443659822912827:=1
def tw1185437395175842400:=1
def tw7528764922800847777:=1
def tw630494063662974058:=1
def tw15437974627576591499:=1
def tw3575376039417155913:=1
def tw11793644999125829996:=1
def tw4606393729669138234:=1
def tw17887787390045622796:=1
def tw595391830563011780:=1
def tw2700862830811557345:=1
def tw1234977829694751137:=1
def tw14273577762699581246:=1
def tw11029758551132197578:=1
def tw13987873702594480143:=1
def tw2314381474566393758:=1
def tw12664252564774811824:=1
def tw4106727436609233552:=1
def tw6653018707361588438:=1
def tw11375261134855809106:=1
def tw13696096500828768281:=1
def tw14145202792956343324:=1
def tw9473942218869394971:=1
def tw878423134277256233:=1
def tw12897527941846567423:=1
def tw16113796518403017900:=1
def tw276565859086274004:=1
def tw18076698123897614945:=1
def tw4640541285906683602:=1
def tw2461150652815712578:=1
def tw3725108080272107951:=1
def tw8841595073041666571:=1
def tw4063083400911503138:=1
def tw10345825796896361639:=1
def tw14171612090583720462:=1
def tw14699972525788422822:=1
def tw13068736909362515535:=1
def tw6491497257144138529:=1
def tw4660339712990793343:=1
def tw4929322656261625976:=1
def tw14903942358762330509:=1
def tw8648780967473915743:=1
def tw8659834783468495708:=1
def tw16135575861827961166:=1
def tw2072718107755113440:=1
def tw7258404450845201239:=1
def tw5718816252477286215:=1
def tw2357772788973279510:=1
def tw12986920183739279954:=1
def tw5242845351104634495:=1
def tw2514394031799711290:=1
def tw5936197557354828862:=1
def tw4024514167745668324:=1
def tw443846686085630582:=1
def tw15400248796851249223:=1
def tw14949822753410744258:=1
def tw9756771906541739302:=1
def tw6517843536384080531:=1
def tw11004471974057998831:=1
def tw8621694344290372127:=1
def tw6165636793745733226:=1
def tw9491408234700217602:=1
def tw9418955479458238186:=1
def tw12202066818480623523:=1
def tw13343089576667242924:=1
def tw203568545496726243:=1
def tw10670764875170644400:=1
def tw5896646317475031801:=1
def tw774766866668507394:=1
def tw15913191570678165760:=1
def tw16160859049017104587:=1
def tw13654231172124882371:=1
def tw541511451970273133:=1
def tw9568166896777597199:=1
def tw14627504462745761760:=1
def tw18398274557551080788:=1
def tw5703556870716723010:=1
def tw3381376354708005475:=1
def tw13024735944983824675:=1
def tw164417474139091984:=1
def tw9078727098271339705:=1
def tw14415942547904453349:=1
def tw8650216854451536507:=1
def tw3611970563435725190:=1
def tw3803638241126612826:=1
def tw771660087604924048:=1
def tw16827831314750598752:=1
def tw2015949389729197750:=1
def tw7046258016881121560:=1
def tw17402223751599583122:=1
def tw18218540444742926499:=1
def tw1482185132217663583:=1
def tw10031607622553940391:=1
def tw14373015326130925533:=1
def tw4456203305550088550:=1
def tw3740855380845163447:=1
def tw638038656149450952:=1
def tw12963786093212196689:=1
def tw18180596728836726372:=1
def tw5148489922158826432:=1
theorem te2488661481210394834:True:=trivial
end PySem.W.Fast
open PySem PySem.W PyProof.Rows
set_option maxRecDepth 100000 in
set_option maxHeartbeats 0 in
theorem PySem.Challenge.cw_helmsum_k66_within_holds : PySem.Challenge.rw_helmsum_k66_within.Holds := by
 w_on;o_law;k_head;(case hw=>w_witness2)
 k_fill
 refine Lw.walk (l:=PySem.Challenge.rw_helmsum_k66_within) rfl rfl ?hi (λw h Y=>PySem.W.kIn_of Y) ?F
 case hi=>decide +kernel
 case F =>
  intro w mg fa h KX G hmg;refine' Lw.all_mk KX G hmg rfl ?aC ?_ ?_ ?_ ?_ ?_ ?_ ?_ ?_ ?_ ?_ ?_ ?_ ?_ ?_ ?_ ?_ ?_ ?_ ?_ ?_ ?_ ?_ ?a22 ?i22 ?l22 ?c22 ?k22 ?_ ?_ ?_ ?_ ?_ ?_ ?_ ?_ ?_ ?_ ?_ ?_ ?_ ?_ ?_ ?_ ?_ ?_ ?_ ?_ ?_ ?a44 ?i44 ?l44 ?c44 ?k44 ?_ ?_ ?_ ?_ ?_ ?_ ?_ ?_ ?_ ?_ ?_ ?_ ?_ ?_ ?_ ?_ ?_ ?_ ?_ ?_ ?_ ?_ ?_ ?_ ?_ ?_ ?_ ?_ ?_ ?_ ?_ ?_ ?_ ?_ ?_ ?_ ?_ ?_ ?ca0 ?cl0 ?ca1 ?cl1 ?ci0 ?ci1 ?ci2 ?pg ?hd ?po ?sa ?mk ?kc ?n_move ?n_states ?n_put ?n_ins ?n_look ?n_outs ?z_abs ?z_len ?z_min ?z_int ?z_range ?z_isinstance ?z_list ?z_bool ?z_tuple ?z_all ?z_enumerate ?z_max ?z_zip ?z_sum ?z_reversed
  all_goals try refine' UI ?_ ?_ ?_ ?_
  all_goals try k_is