import PyProof.Rows.All
import Wide.All
import OpenK.AllK
import Wide.FinOn
import Lean
import PyProof.EqAt
import PyProof.EqKinds
import PyProof.TupleCall
import PyProof.NeKinds
import PySem.Challenge.RW_helmsum_k62_least_or_never
set_option Elab.async false
set_option linter.all false
set_option maxRecDepth 100000
local macro_rules | `($x.$i:fieldIdx) => match i.raw.isFieldIdx? with | some 9 => `(($x).length) | some 8 => `(($x).heap) | some 7 => `(($x).size) | some 6 => `(($x).heap.objs.size) | some 5 => `(($x).toArray) | _ => Lean.Macro.throwUnsupported
local macro_rules | `(#[$a,*]) => `(⟨$a,*⟩)
local macro_rules | `(tactic| obtain $p:rcasesPatMed := $e:term) => do
 let a := p.raw[0].getSepArgs
 let q : Lean.TSyntax `rcasesPat ← if a.size == 1 then pure ⟨a[0]!⟩ else do
  let l ← a.mapM fun x => `(Lean.Parser.Tactic.rcasesPatLo| $(⟨x⟩):rcasesPat)
  `(rcasesPat| ⟨$l,*⟩)
 `(tactic| first | (refine Classical.byContradiction fun ng => ?_; (rcases $e:term with $q:rcasesPat) <;> (refine ng ?_; clear ng)) | rcases $e:term with $q:rcasesPat)
local macro_rules | `(()) => `(by first | decide | lia)
abbrev aa:=@List.getD_eq_getElem?_getD
abbrev ae:=@List.getElem?_eq_getElem
abbrev af:=@Nat.le_trans
abbrev ag:=@List.length_map
abbrev ah:=@Nat.le_refl
abbrev aj:=@List.length_append
abbrev ak:=@Nat.pow_le_pow_right
abbrev ar:=@List.mem_of_getElem?
abbrev au:=@Nat.mul_le_mul_left
abbrev av:=@List.mem_append
abbrev aw:=@Nat.mul_le_mul
abbrev ax:=@Nat.pow_add
abbrev ay:=@Nat.mul_le_mul_right
abbrev aA:=@List.mem_map
abbrev aB:=@List.getElem?_map
abbrev aD:=@List.mem_cons
abbrev aE:=@List.take_of_length_le
abbrev aF:=@List.getElem_mem
abbrev aG:=@List.size_toArray
abbrev aI:=@Rat.intCast_natCast
abbrev aJ:=@List.getElem?_eq_some_iff
abbrev aL:=@PySem.boot_len
abbrev aM:=@Nat.mul_pos
abbrev aO:=@List.not_mem_nil
abbrev aP:=@List.getElem?_eq_none
abbrev aQ:=@Rat.intCast_mul
abbrev aV:=@List.length_replicate
abbrev aW:=@Nat.zero_le
abbrev aX:=@List.getElem_of_mem
abbrev aZ:=@List.length_zipWith
abbrev a7:=@List.getElem?_append_right
abbrev a8:=@List.length_cons
abbrev bc:=@Nat.lt_of_le_of_lt
abbrev bf:=@Bool.false_ne_true
abbrev bg:=@List.length_singleton
abbrev bh:=@List.mem_singleton
abbrev bp:=@List.getElem?_zipWith
abbrev bw:=@Nat.lt_of_lt_of_le
abbrev bx:=@Int.natAbs_natCast
abbrev bA:=@List.getElem?_append_left
abbrev bB:=@List.mem_append_right
abbrev bN:=@List.mem_of_mem_take
abbrev bP:=@Nat.dvd_mul_left
abbrev bQ:=@Nat.mul_comm
abbrev bT:=@List.length_reverse
abbrev bU:=@List.length_range
abbrev bX:=@List.mem_cons_of_mem
abbrev bY:=@List.length_take
abbrev bZ:=@Nat.lt_or_ge
abbrev b8:=@Nat.one_le_two_pow
abbrev cg:=@Nat.ne_of_lt
abbrev ck:=@Nat.le_mul_of_pos_left
abbrev cm:=@Int.fdiv_eq_ediv_of_nonneg
abbrev cp:=@Option.some.inj
abbrev cx:=@List.mem_or_eq_of_mem_set
abbrev cz:=@List.append_assoc
abbrev cB:=@List.getElem?_range
abbrev cD:=@Nat.mul_assoc
abbrev cI:=@PySem.F.plainAttrs_list
abbrev cJ:=@Nat.le_mul_of_pos_right
abbrev cK:=@Int.eq_ofNat_of_zero_le
abbrev cO:=@List.map_append
abbrev cU:=@Rat.intCast_neg
abbrev cV:=@List.nil_append
abbrev cW:=@List.getElem_zipWith
abbrev cX:=@Int.natAbs_mul
abbrev c5:=@PySem.F.type_list_append
abbrev c6:=@PySem.F.slot_list_append
abbrev df:=@Nat.pow_pos
abbrev dg:=@Nat.pow_lt_pow_right
abbrev di:=@Rat.mul_comm
abbrev dm:=@Nat.succ_mul
abbrev dn:=@Nat.le_of_lt
abbrev du:=@Rat.intCast_inj
abbrev dw:=@Nat.not_lt_zero
abbrev dC:=@List.flatten_cons
abbrev dJ:=@List.mem_cons_self
abbrev dM:=@List.mem_append_left
abbrev dQ:=@PySem.W.kia_tup
abbrev dR:=@PySem.W.kia_one
abbrev dY:=@Nat.succ_le_succ
abbrev dZ:=@List.mem_reverse
abbrev d9:=@Nat.dvd_trans
abbrev eh:=@Int.mul_assoc
abbrev eC:=@Rat.mul_zero
abbrev eF:=@Nat.min_self
abbrev eH:=@List.length_set
abbrev eI:=@List.mem_flatten
abbrev eJ:=@Bool.and_eq_true
abbrev ff:=@Nat.lt_irrefl
abbrev ft:=@Nat.pow_succ
abbrev fA:=@List.flatten_append
abbrev fG:=@List.nodup_cons
abbrev fK:=@List.drop_eq_getElem_cons
abbrev fM:=@Int.natAbs_dvd_natAbs
abbrev fO:=@List.ext_getElem
abbrev fP:=@List.cons_append
abbrev fQ:=@Int.gcd_dvd_left
abbrev fY:=@Nat.sub_self
abbrev gQ:=@List.nodup_append
abbrev gR:=@List.getElem?_replicate
abbrev gU:=@Int.gcd_dvd_right
abbrev ic:=@Int.mul_comm
abbrev iB:=@Rat.div_def
abbrev iC:=@Nat.mul_add
abbrev iD:=@Nat.le_of_dvd
abbrev iE:=@List.map_id
abbrev iF:=@Int.mul_pos
abbrev iH:=@Nat.eq_zero_or_pos
abbrev iP:=@Bool.beq_eq_decide_eq
abbrev jb:=@Rat.natCast_mul
abbrev jc:=@Rat.mul_eq_zero
abbrev jk:=@List.ext_getElem?
abbrev jm:=@List.map_cons
abbrev jo:=@List.getElem?_take_of_lt
abbrev jr:=@List.eq_of_mem_replicate
abbrev jU:=@Nat.lt_succ_self
abbrev j9:=@Rat.zero_mul
abbrev kd:=@Rat.div_mul_cancel
abbrev ke:=@Rat.add_zero
abbrev kf:=@List.mem_replicate
abbrev kg:=@Int.gcd_comm
abbrev kh:=@Int.emod_lt_of_pos
abbrev ki:=@Bool.false_eq_true
abbrev lD:=@Nat.lt_trichotomy
abbrev lE:=@Nat.dvd_mul_right
abbrev lK:=@List.reverse_reverse
abbrev mI:=@PySem.IsL.update
abbrev mJ:=@List.lookup_cons
abbrev mT:=@PySem.F.plain_extend_loop
abbrev mV:=@PySem.mem_of_lookup
abbrev mW:=@Nat.pow_le_pow_left
abbrev mX:=@List.zipWith_append
abbrev nW:=@Int.emod_nonneg
abbrev nX:=@Bool.eq_iff_iff
abbrev oI:=@Nat.le_succ
abbrev oJ:=@Int.natCast_dvd_natCast
abbrev oK:=@Int.dvd_mul_of_dvd_left
abbrev o7:=@Rat.mul_nonneg
abbrev o8:=@List.mem_range
abbrev o9:=@List.map_map
abbrev pe:=@Int.natAbs_neg
abbrev qg:=@PySem.F.slot_zip_next
abbrev qh:=@Nat.mul_dvd_mul_right
abbrev qv:=@List.getElem_map
abbrev qB:=@List.all_eq_true
abbrev rP:=@Rat.one_mul
abbrev rQ:=@Rat.mul_one
abbrev rR:=@Nat.pow_mul
abbrev rS:=@Nat.one_mul
abbrev rT:=@List.replicate_succ'
abbrev rW:=@Rat.intCast_pos
abbrev rX:=@List.sum_append
abbrev rY:=@List.length_zip
abbrev rZ:=@List.append_nil
abbrev uZ:=@PySem.W.kitx_tuple
abbrev vd:=@Int.eq_of_mul_eq_mul_right
abbrev vN:=@Int.mul_neg_of_pos_of_neg
abbrev xc:=@PySem.W.kitx_list
abbrev xf:=@PySem.W.kitx_dict
abbrev xh:=@Int.natAbs_eq
abbrev yy:=@Rat.intCast_eq_zero_iff
abbrev yz:=@Option.getD_some
abbrev yA:=@Nat.min_le_right
abbrev yV:=@PySem.W.cellsFrom_some
abbrev yW:=@Nat.mul_zero
abbrev yX:=@Nat.dvd_refl
abbrev yY:=@Nat.add_comm
abbrev yZ:=@Int.zero_add
abbrev y7:=@Int.dvd_refl
abbrev A9:=@Rat.intCast_sub
abbrev Be:=@Rat.intCast_add
abbrev Bf:=@Nat.pow_dvd_pow
abbrev Bg:=@List.range_succ
abbrev Bh:=@Bool.decide_and
abbrev Bm:=@List.getElem?_reverse
abbrev Dp:=@List.forIn_nil
abbrev FD:=@PySem.W.plainGet_of
abbrev FE:=@List.filterMap_cons
abbrev IJ:=@List.all_cons
abbrev IQ:=@PySem.W.callWith_K
abbrev IS:=@List.append_of_mem
abbrev Lh:=@Nat.ne_of_gt
abbrev Li:=@List.reverse_cons
abbrev MH:=@List.length_drop
abbrev O4:=@Nat.mul_one
abbrev O5:=@Nat.add_mul
abbrev O6:=@Int.dvd_gcd
abbrev O9:=@Nat.min_eq_left
abbrev Pa:=@List.of_mem_zip
abbrev Pb:=@List.mem_filter
abbrev Pc:=@List.map_const'
abbrev Pd:=@List.forIn_cons
abbrev Pe:=@Int.gcd_pos_of_ne_zero_right
abbrev Sv:=@List.nodup_nil
abbrev Sw:=@List.length_eraseIdx_of_lt
abbrev Uz:=@PySem.F.entry_extend_loop
abbrev UA:=@List.getElem?_zip_eq_some
abbrev UB:=@Int.natAbs_ediv_of_nonneg
abbrev UL:=@Option.isSome_iff_exists
abbrev UM:=@List.mem_of_mem_eraseIdx
abbrev VV:=@PySem.F.args_zip_next_1
abbrev VW:=@Nat.eq_zero_of_zero_dvd
abbrev VX:=@Nat.add_sub_cancel_left
abbrev LR9:=List (List Rat)
abbrev FG9:=PySem.W.Frag
namespace L2
open PySem PySem.Spec PyProof.Rows
abbrev Key:=Sum Int Str
def RZ:Key->Value->Bool
 | .inl k,v=>Value.isInt k v
 | .inr x,v=>Value.isStrOf x v
def Wk (w:World):Key->Int
 | .inl k=>hashInt k
 | .inr x=>hashStr w x
theorem gN:∀{k:Key} {v:Value},RZ k v=true->(∃i t,k=Sum.inl i/\v=Value.int i t)\/(∃x t,k=Sum.inr x/\v=Value.str x t)
 | .inl i,v,h=>by
  obtain t|e:=Value.isInt_shape (k:=i) (v:=v) h;exact .inl #[i,t,rfl,e]
 | .inr x,v,h=>by
  obtain t|e:=Value.isStrOf_shape (x:=x) (v:=v) h;exact .inr #[x,t,rfl,e]
theorem T6 (a b:Int):decide ((Sum.inl a:Key)=Sum.inl b)=(a == b):=by
 by_cases e:a=b
 ·subst e;simp
 ·have h:¬(Sum.inl a:Key)=Sum.inl b:=λq=>e (Sum.inl.inj q)
  rw[decide_eq_false h];exact (beq_eq_false_iff_ne.mpr e).symm
theorem T2 (a b:Str):decide ((Sum.inr a:Key)=Sum.inr b)=decide (a=b):=by
 by_cases e:a=b
 ·subst e;simp
 ·have h:¬(Sum.inr a:Key)=Sum.inr b:=λq=>e (Sum.inr.inj q)
  rw[decide_eq_false h,decide_eq_false e]
theorem T5 (a:Int) (b:Str):decide ((Sum.inl a:Key)=Sum.inr b)=false:=decide_eq_false (λq=>nomatch q)
theorem T4 (a:Str) (b:Int):decide ((Sum.inr a:Key)=Sum.inl b)=false:=decide_eq_false (λq=>nomatch q)
def KL (prog:Program) (w:World):PySem.KeyKind prog w Key where
 is:=RZ
 hash:=Wk w
 inj:=λv a b ha hb=>by
  rcases gN ha with ⟨i,t,rfl,rfl⟩ | ⟨x,t,rfl,rfl⟩
  ·rcases gN hb with ⟨j,u,rfl,e⟩ | ⟨y,u,rfl,e⟩
   ·injection e with e1 _;rw[e1]
   ·exact nomatch e
  ·rcases gN hb with ⟨j,u,rfl,e⟩ | ⟨y,u,rfl,e⟩
   ·exact nomatch e
   ·injection e with e1 _;rw[e1]
 byValue:=λk v h=>by
  rcases gN h with ⟨i,t,rfl,rfl⟩ | ⟨x,t,rfl,rfl⟩ <;> rfl
 pyHash:=λhv h=>by
  rcases gN hv with ⟨i,t,rfl,rfl⟩ | ⟨x,t,rfl,rfl⟩
  ·exact wpAny_pyHash_int h
  ·exact wpAny_pyHash_str h
 eqBool:=λhu hv h=>by
  rcases gN hu with ⟨i,t,rfl,rfl⟩ | ⟨x,t,rfl,rfl⟩
  ·rcases gN hv with ⟨j,u,rfl,rfl⟩ | ⟨y,u,rfl,rfl⟩
   ·rw[T6] at h;exact wpAny_eqBool_int h
   ·rw[T5] at h;exact SeqAt.EqAt.int_str i t y u _ _ _ _ h
  ·rcases gN hv with ⟨j,u,rfl,rfl⟩ | ⟨y,u,rfl,rfl⟩
   ·rw[T4] at h;exact SeqAt.EqAt.str_int x t j u _ _ _ _ h
   ·rw[T2] at h;exact wpAny_eqBool_str h
 «strs»:=λk x t v h=>by
  rcases gN h with ⟨i,u,rfl,e⟩ | ⟨y,u,rfl,e⟩
  ·exact nomatch e
  ·injection e with e1 _
   subst e1;cases v <;> rfl
inductive V where
  | non | bl (b : Bool) | int (i : Int) | str (x : Str) | byt (b : Array UInt8) | flt (b : UInt64) | ref (a : Addr) | ty (n : String)
  deriving DecidableEq

def RelV:V->Value->Prop
 | .non,u=>u=Value.none
 | .bl b,u=>u=Value.bool b
 | .int i,u=>∃t,u=Value.int i t
 | .str x,u=>∃t,u=Value.str x t
 | .byt b,u=>∃t,u=Value.bytes b t
 | .flt b,u=>∃t,u=Value.float b t
 | .ref a,u=>u=Value.ref a
 | .ty n,u=>u=Value.type n
abbrev cS:List V->List Value->Prop:=Paired RelV
theorem cS.length (r:cS xs us):xs.9=us.9:=Paired.length r
theorem cS.get:∀{xs:List V} {us:List Value} {i:Nat} {x:V},cS xs us->xs[i]?=some x->∃u,us[i]?=some u/\RelV x u
 | _,_,_,_,.nil,e=>by simp at e
 | _,_,0,_,.cons r _,e=>by simp at e;subst e;exact #[_,rfl,r]
 | _,_,i+1,x,.cons _ t,e=>by
  obtain u|h1|h2:=cS.get (i:=i) (x:=x) t (by simpa using e);exact #[u,by simpa using h1,h2]
theorem cS.set {x:V} {u:Value} (r:RelV x u):∀{xs:List V} {us:List Value} (i:Nat),cS xs us->cS (xs.set i x) (us.set i u)
 | _,_,_,.nil=>.nil
 | _,_,0,.cons _ t=>.cons r t
 | _,_,i+1,.cons q t=>.cons q (cS.set r i t)
theorem cS.append:∀{xs ys:List V} {us ws:List Value},cS xs us->cS ys ws->cS (xs++ys) (us++ws)
 | _,_,_,_,.nil,s=>s
 | _,_,_,_,.cons r t,s=>.cons r (cS.append t s)
theorem cS.take:∀{xs:List V} {us:List Value} (n:Nat),cS xs us->cS (xs.take n) (us.take n)
 | _,_,0,_=>.nil
 | _,_,_+1,.nil=>.nil
 | _,_,n+1,.cons r t=>.cons r (cS.take n t)
theorem cS.drop:∀{xs:List V} {us:List Value} (n:Nat),cS xs us->cS (xs.drop n) (us.drop n)
 | _,_,0,r=>r
 | _,_,_+1,.nil=>.nil
 | _,_,n+1,.cons _ t=>cS.drop n t
def Cm:Option V->Option Value->Prop
 | some v,some u=>RelV v u
 | none,none=>True
 | _,_=>False
def KV {κ:Type}:List (κ×V)->List (κ×Value)->Prop:=Paired λ(p:κ×V) (q:κ×Value)=>p.1=q.1/\RelV p.2 q.2
def kV:Key->V
 | .inl i=>.int i
 | .inr x=>.str x
inductive HO where
 | lst (xs:List V)
 | tup (xs:List V)
 | dK (kvs:List (Key×V)) | dT (kvs:List (List Key×V))
 | set (S:Int->Bool) (n:Nat)
 | ins (C dx:Addr) (fs:List (Str×V))
 | own (x:Addr)
 | xd (fs:List (Str×V))
 | met (f x:Addr)
 | rng (lo hi:Int)
 | frz (o:Obj) (u:HO)
 | tbl (ps:Array Value)
 | ext (φ:Heap->Prop)
abbrev Hp:=Addr->Option HO
def upd (H:Hp) (a:Addr) (o:HO):Hp:=λb=>if b=a then some o else H b
theorem aK:upd H a o a=some o:=by unfold upd;rw[if_pos rfl]
theorem bG (h:b≠a):upd H a o b=H b:=by unfold upd;rw[if_neg h]
theorem gX {H:Hp} (h:H a=some o) (h':H b=none):a≠b:=by
 intro e;subst e;rw[h] at h';cases h'
section
variable (P:Program) (w:World)
def iw (H:Hp) (h:Heap) (a:Addr):HO->Prop
 | .lst xs=>xs.9<=sizeLine/\∃(its:List Value) (n:Nat),cS xs its/\h.get? a=some { cls:=.type "list",data:=.seq its.toArray n }
 | .tup xs=>xs.9<=sizeLine/\∃its:List Value,cS xs its/\IsTup h a its.5
 | .dK kvs=>kvs.9<=sizeLine/\(a == sysModules)=false/\∃vs,KV kvs vs/\h.DictOf (KL P w) a vs
 | .dT kvs=>kvs.9<=sizeLine/\(a == sysModules)=false/\∃xs:List (List Key×Addr×Value),
   Paired (λ(p:List Key×V) (q:List Key×Addr×Value)=>p.1=q.1/\H q.2.1=some (.tup (p.1.map kV))/\RelV p.2 q.2.2) kvs xs /\
   ∃o es ep,h.get? a=some o/\o.ExactDict/\o.data=.dict es ep/\es.toList=xs.map (entryOfKey (tupleKind (KL P w)))/\(xs.map (·.1)).Nodup
 | .set S n=>h.SetOf (intKind P w) a S n
 | .ins C dx fs=>H dx=some (.own a)/\fs.9<=1000/\dx≠a/\h.get? a=some (PySem.W.instObj C dx) /\
   ∃mA,h.Ns1 dx mA/\(∀f,Cm (fs.lookup f) (mA f))/\PySem.Within mA (fs.map (·.1))
 | .own _=>∃o,h.get? a=some o
 | .xd fs=>∃mA,h.Ns1 a mA/\∀f,Cm (fs.lookup f) (mA f)
 | .rng lo hi=>∃t u v,h.get? a=some { cls:=.type "range",data:=.fields [.int lo t,.int hi u,.int 1 v].toArray }
 | .frz o u=>h.get? a=some o/\iw H h a u
 | .tbl ps=>h.get? a=some { cls:=.none,data:=.fields ps }
 | .met f x=>h.get? a=some (PySem.W.methodObj (.ref f) (.ref x))
 | .ext φ=>φ h/\(∃o,h.get? a=some o)/\∀h1 h2:Heap,φ h1->(∀o,h1.get? a=some o->h2.get? a=some o)->φ h2
def yU (H:Hp) (h:Heap):Prop:=∀a o,H a=some o->iw P w H h a o
end
section
variable {P:Program} {w:World} {H H':Hp} {h h':Heap} {a:Addr} {o:HO}
theorem iw.lt (x:iw P w H h a o):a < h.objs.7:=by
 cases o with
 | lst xs=>obtain _|_|_|_|e:=x;exact Heap.lt_size e
 | tup xs=>obtain _|_|_|p:=x;exact p.lt
 | dK kvs=>obtain _|_|_|_|o|_|_|e|_:=x;exact Heap.lt_size e
 | dT kvs=>obtain _|_|_|_|o|_|_|e|_:=x;exact Heap.lt_size e
 | set S n=>obtain o|_|_|_|e|_:=x;exact Heap.lt_size e
 | ins C dx fs=>obtain _|_|_|e|_:=x;exact Heap.lt_size e
 | own y=>obtain _|e:=x;exact Heap.lt_size e
 | xd fs=>obtain _|⟨_,_,_,e,_⟩|_:=x;exact Heap.lt_size e
 | rng lo hi=>obtain _|_|_|e:=x;exact Heap.lt_size e
 | frz ob u=>obtain e|_:=x;exact Heap.lt_size e
 | tbl ps=>exact Heap.lt_size (show h.get? a=some _ from x)
 | met f y=>exact Heap.lt_size (show h.get? a=some _ from x)
 | ext φ=>obtain _|⟨_,e⟩|_:=x;exact Heap.lt_size e
theorem Paired.mapP {α β:Type} {F G:α->β->Prop}:∀{l₁:List α} {l₂:List β},Paired F l₁ l₂->(∀a b,F a b->G a b)->Paired G l₁ l₂
 | _,_,.nil,_=>.nil
 | _,_,.cons r t,f=>.cons (f _ _ r) (Paired.mapP t f)
theorem Paired.imp' {F G:α->β->Prop} (f:∀a b,F a b->G a b) {l₁:List α} {l₂:List β} (r:Paired F l₁ l₂):Paired G l₁ l₂:=Paired.mapP r f
theorem iw.stay (x:iw P w H h a o) (k:∀b u,(b=a\/H b=some (.own a))->h.get? b=some u->h'.get? b=some u)
  (ho:∀b,H b=some (.own a)->H' b=some (.own a)) (ht:∀b xs,H b=some (.tup xs)->H' b=some (.tup xs)):iw P w H' h' a o:=by
 induction o with
 | lst xs=>obtain z|its|n|r|e:=x;exact #[z,its,n,r,k _ _ (.inl rfl) e]
 | tup xs=>obtain z|its|r|ob|e|c:=x;exact #[z,its,r,ob,k _ _ (.inl rfl) e,c]
 | dK kvs=>obtain z|y|vs|r|ob|es|ep|e|c:=x;exact #[z,y,vs,r,ob,es,ep,k _ _ (.inl rfl) e,c]
 | dT kvs =>
  obtain z|y|xs|r|ob|es|ep|e|c:=x;exact #[z,y,xs,Paired.mapP r λp q z=>#[z.1,ht _ _ z.2.1,z.2.2],ob,es,ep,k _ _ (.inl rfl) e,c]
 | set S n=>obtain ob|es|ep|t|e|c:=x;exact #[ob,es,ep,t,k _ _ (.inl rfl) e,c]
 | ins C dx fs =>
  obtain d|z|ne|e|mA|⟨od,es,ep,e2,c⟩|r:=x;exact #[ho _ d,z,ne,k _ _ (.inl rfl) e,mA,#[od,es,ep,k _ _ (.inr d) e2,c],r]
 | own y=>obtain ob|e:=x;exact #[ob,k _ _ (.inl rfl) e]
 | xd fs=>obtain mA|⟨od,es,ep,e,c⟩|r:=x;exact #[mA,#[od,es,ep,k _ _ (.inl rfl) e,c],r]
 | rng lo hi=>obtain t|u|v|e:=x;exact #[t,u,v,k _ _ (.inl rfl) e]
 | frz ob u ih=>obtain e|q:=x;exact #[k _ _ (.inl rfl) e,ih q]
 | tbl ps =>
  have e:h.get? a=some { cls:=.none,data:=.fields ps }:=x;show h'.get? a=some { cls:=.none,data:=.fields ps }
  exact k a _ (.inl rfl) e
 | met f y =>
  have e:h.get? a=some (PySem.W.methodObj (.ref f) (.ref y)):=x;show h'.get? a=some (PySem.W.methodObj (.ref f) (.ref y))
  exact k a _ (.inl rfl) e
 | ext φ=>obtain p|⟨o,e⟩|st:=x;exact #[st _ _ p λo q=>k _ _ (.inl rfl) q,#[o,k _ _ (.inl rfl) e],st]
theorem yU.lt (x:yU P w H h) (e:H a=some o):a < h.objs.7:=(x a o e).lt
theorem yU.fresh (x:yU P w H h) (e:h.objs.7<=a):H a=none:=by
 cases q:H a with
 | none=>rfl
 | some u=>exact absurd (bw (x.lt q) e) (ff _)
theorem yU.kept (x:yU P w H h) (k:∀b u,h.get? b=some u->h'.get? b=some u):yU P w H h':=λa o e =>
 (x a o e).stay (λb u _ q=>k b u q) (λ_ q=>q) λ_ _ q=>q
theorem yU.laid (x:yU P w H h) (k:∀b u,h.get? b=some u->h'.get? b=some u) (hp:h.objs.7<=a) (new:iw P w (upd H a o) h' a o):yU P w (upd H a o) h':=λb u e=>by
 have hn:=x.fresh hp;by_cases hb:b=a
 ·subst hb;rw[aK] at e;cases e;exact new
 ·rw[bG hb] at e;exact (x b u e).stay (λc v _ q=>k c v q) (λc q=>by rw[bG (gX q hn)];exact q) λc xs q=>by rw[bG (gX q hn)];exact q
end
def Rd (H:Hp) (a:Addr) (u:HO):Prop:=H a=some u\/∃o,H a=some (.frz o u)
theorem Rd.ok (r:Rd H a u) (x:yU P w H h):iw P w H h a u:=by
 rcases r with r | ⟨o,r⟩
 ·exact x a u r
 ·obtain _|q:=x a _ r;exact q
def V7:Option HO->Prop
 | some (.lst _)=>True
 | some (.dK _)=>True
 | some (.dT _)=>True
 | some (.set _ _)=>True
 | some (.ins _ _ _)=>True
 | some (.ext _)=>True
 | _=>False
theorem yU.write (ok:yU P w H h) (mu:V7 (H x)) (he:e=x\/H e=some (.own x)) (k:∀b u,b≠e->h.get? b=some u->h'.get? b=some u) (heo:∃u,h'.get? e=some u)
  (new:iw P w (upd H x o') h' x o'):yU P w (upd H x o') h':=λb u q=>by
 have nown:∀c y,H c=some (.own y)->c≠x:=λc y r z=>by subst z;rw[r] at mu;exact mu
 have ntup:∀c xs,H c=some (.tup xs)->c≠x:=λc xs r z=>by subst z;rw[r] at mu;exact mu
 by_cases hb:b=x
 ·subst hb;rw[aK] at q;cases q;exact new
 ·rw[bG hb] at q;by_cases hbe:b=e
  ·have q':H b=some (.own x):=by
    rcases he with z | z
    ·exact absurd (hbe.trans z) hb
    ·rw[hbe];exact z
   rw[q] at q';cases q';obtain v|hv:=heo;exact #[v,by rw[hbe];exact hv]
  ·refine (ok b u q).stay (λc v hc r=>k c v ?_ r) (λc r=>by rw[bG (nown c b r)];exact r) λc xs r=>by rw[bG (ntup c xs r)];exact r
   rcases hc with rfl | hc
   ·exact hbe
   ·rintro rfl;rcases he with z | z
    ·exact nown c b hc z
    ·rw[hc] at z;cases z;exact hb rfl
structure Un (fs ex:List Addr) (H H':Hp) (h h':Heap):Prop where
 keep:∀b o,h.get? b=some o->H b=none->b∉fs->b∉ex->h'.get? b=some o
 slot:∀b o,h.get? b=some o->H b=none->b∈fs->b∉ex->∃sl,h'.get? b=some { o with slots:=sl }
 free:∀b o,h.get? b=some o->H b=none->b∉ex->H' b=none
 there:∀b o,h.get? b=some o->b∉ex->∃o',h'.get? b=some o'
 tups:∀b xs,H b=some (.tup xs)->H' b=some (.tup xs)
 frzs:∀b o u,H b=some (.frz o u)->H' b=some (.frz o u)
 tbls:∀b ps,H b=some (.tbl ps)->∃more,H' b=some (.tbl (ps++more))
section
variable {fs fs' ex ex':List Addr} {H H1 H2:Hp} {h h1 h2 h':Heap} {a x e:Addr} {o:HO}
theorem Un.any (u:Un fs ex H H1 h h1) (q:h.get? b=some ob) (n:H b=none) (hx:b∉ex):∃sl,h1.get? b=some { ob with slots:=sl }:=by
 by_cases hb:b∈fs
 ·exact u.slot b ob q n hb hx
 ·exact #[ob.slots,u.keep b ob q n hb hx]
theorem Un.kept (k:∀b u,h.get? b=some u->h'.get? b=some u):Un fs ex H H h h' :=
 #[λb ob q _ _ _=>k b ob q,λb ob q _ _ _=>#[ob.slots,k b ob q],λ_ _ _ n _=>n,λb ob q _=>#[ob,k b ob q],λ_ _ q=>q,λ_ _ _ q=>q,λ_ ps q=>#[[].toArray,by rw[q];simp]]
theorem Un.refl:Un fs ex H H h h:=Un.kept λ_ _ q=>q
theorem Un.laid (k:∀b u,h.get? b=some u->h'.get? b=some u) (hp:h.objs.7<=a) (hn:H a=none):Un fs ex H (upd H a o) h h' where
 keep:=λb u q _ _ _=>k b u q
 slot:=λb u q _ _ _=>#[u.slots,k b u q]
 free:=λb u q n _=>by rw[bG (cg (bw (Heap.lt_size q) hp))];exact n
 there:=λb u q _=>#[u,k b u q]
 tups:=λb xs q=>by rw[bG (gX q hn)];exact q
 frzs:=λb u xs q=>by rw[bG (gX q hn)];exact q
 tbls:=λb ps q=>#[[].toArray,by rw[bG (gX q hn),q];simp]
theorem Un.write (mu:V7 (H x)) (he:e=x\/H e=some (.own x)) (k:∀b u,b≠e->h.get? b=some u->h'.get? b=some u) (heo:∃u,h'.get? e=some u):Un fs ex H (upd H x o) h h':=by
 have hx:∀b,H b=none->b≠x:=λb n z=>by subst z;rw[n] at mu;exact mu
 have hb:∀b,H b=none->b≠e:=λb n z=>by
  subst z;rcases he with r | r
  ·exact hx b n r
  ·rw[n] at r;cases r
 have hm:∀b u,H b=some u->¬V7 (some u)->b≠x:=λb u q nm z=>by subst z;rw[q] at mu;exact nm mu
 refine #[λb u q n _ _=>k b u (hb b n) q,λb u q n _ _=>#[u.slots,k b u (hb b n) q],λb u q n _=>by rw[bG (hx b n)];exact n,λb u q _=>?_,
  λb xs q=>by rw[bG (hm b _ q λz=>z)];exact q,λb u xs q=>by rw[bG (hm b _ q λz=>z)];exact q,λb ps q=>#[[].toArray,by rw[bG (hm b _ q λz=>z),q];simp]]
 by_cases hbe:b=e
 ·subst hbe;exact heo
 ·exact #[u,k b u hbe q]
end
def VZ (h:Heap) (H:Hp):List Addr:=(List.range h.objs.7).filter λa=>(H a).isSome
def Ew (h:Heap) (H:Hp):Heap:=PySem.W.hideAll h (VZ h H)
theorem L9 (h:Heap) (H:Hp):(Ew h H).objs.size=h.objs.7:=PySem.W.hideAll_size _ _
theorem Oi (e:h.get? b=some o) (n:H b=none):(Ew h H).get? b=some o :=
 PySem.W.hideAll_get _ e λhm=>by
  have q:(H b).isSome=true:=(Pb.mp hm).2;rw[n] at q;simp at q
theorem QD (e:(Ew h H).get? b=some o):h.get? b=some o/\H b=none:=by
 have e':h.get? b=some o:=PySem.W.of_hideAll (VZ h H) e;refine #[e',?_];cases q:H b with
 | none=>rfl
 | some x =>
  have hm:b∈VZ h H:=Pb.mpr #[o8.mpr (Heap.lt_size e'),by simp [q]];have z:(Ew h H).get? b=none:=PySem.W.hideAll_none (VZ h H) hm;rw[z] at e;cases e
structure Mod (K:FG9) (mg:Str->Option Value) (base:Heap):Prop where
 kin:K.In base
 glob:base.Ns mainGlobals mg
 blt:∃mb,base.Ns builtinsNs mb/\∀x:Str,x≠"__name__"->mb x=bootBuiltins x
 nolimit:base.NoLimit
 seer:base.NoSeer
structure Cx where
 prog:Program
 w:World
 K:FG9
 mg:Str->Option Value
 base:Heap
 A:Around
 N:List Str
 s₀:Shared
 H₀:Hp
 env:Env
 outer:List Env
 stack:List Env
 ex:List Addr
 fn:Str->Bool
 calm:Bool
 pn:List (Addr×Obj)
 xe:Value->Shared->Prop
def MD (l:List Env):List Addr:=l.filterMap (·.frame)
abbrev Cx.fs (X:Cx):List Addr:=MD X.outer
def Wo (sc:Scope) (x:Str):Prop:=sc.names.lookup x=some .local\/sc.names.lookup x=some .cell\/sc.names.lookup x=some .free
def Loc (sc:Scope) (x:Str):Prop:=sc.names.lookup x=some .local\/sc.names.lookup x=some .cell
def Look (env:Env) (h:Heap) (m:Str->Option Value) (x:Str) (u:Value):Prop :=
 (env.kindOf x=some .local/\m x=some u)\/((env.kindOf x=some .cell\/env.kindOf x=some .free)/\∃c,env.cells.lookup x=some c/\h.IsCell c (some u))
structure Cx.Ok (X:Cx):Prop where
 mod:Mod X.K X.mg X.base
 kind:X.env.scope.kind=.function
 glob:X.env.globals=mainGlobals
 blt:X.env.builtins=builtinsNs
 above:X.s₀.6<=X.env.locals
 inj:∀x y c,X.env.cells.lookup x=some c->X.env.cells.lookup y=some c->x=y
 has:∀x,(X.env.kindOf x=some .cell\/X.env.kindOf x=some .free)->∃c,X.env.cells.lookup x=some c
 cab:∀x c,X.fn x=true->X.env.cells.lookup x=some c->X.s₀.6<=c
 hd:X.calm=true->X.A.handled=none
 frames:X.A.frames=some X.stack
 stk:X.stack=X.outer\/(X.stack=X.env :: X.outer/\X.env.frame=some X.env.locals)
 exf:∀b∈X.ex,b≠X.env.locals/\∀x c,X.env.cells.lookup x=some c->c≠b
 bs:∀b o,X.base.get? b=some o->X.s₀.heap.get? b=some o/\X.H₀ b=none
 bsz:X.base.objs.7<=X.s₀.heap.objs.size
 noex:∀b o,X.base.get? b=some o->b∉X.ex
 exfs:∀b∈X.ex,b∉X.fs
 funs:X.s₀.heap.FunFrames X.base X.outer
 frf:∀b∈X.fs,X.H₀ b=none
structure Inv (X:Cx) (pins:List (Addr×Obj)) (σ:List (Option V)) (H:Hp) (s:Shared):Prop where
 ok:X.Ok
 os:s.os=X.s₀.os
 bare:AllBare s.gens
 base:Un X.fs X.ex X.H₀ H X.s₀.heap s.heap
 loc:∃m,s.heap.Ns X.env.locals m/\∀(i:Nat) (x:Str) (v:V),X.N[i]?=some x->σ[i]?=some (some v)->Wo X.env.scope x->∃u,RelV v u/\Look X.env s.heap m x u
 cell:∀x c,X.env.cells.lookup x=some c->∃v,s.heap.IsCell c v
 free:H X.env.locals=none
 freeC:∀x c,X.env.cells.lookup x=some c->H c=none
 pin:∀p∈X.pn++pins,s.heap.get? p.1=some p.2/\H p.1=none/\p.1≠X.env.locals/\p.1∉X.fs/\∀v,p.2.data≠.cell v
 hok:yU X.prog X.w H s.heap
 len:σ.9=X.N.9
section
variable {X:Cx} {pins:List (Addr×Obj)} {σ:List (Option V)} {H H':Hp} {s:Shared} {h':Heap}
theorem Cx.Ok.nofr (ok:X.Ok) (e:X.base.get? b=some o):b∉X.fs:=λhb=>by
 have:=(ok.funs.mem hb).1;rw[e] at this;cases this
theorem Inv.bs (I:Inv X pins σ H s):∀b o,X.base.get? b=some o->s.heap.get? b=some o/\H b=none:=λb o e =>
 #[I.base.keep b o (I.ok.bs b o e).1 (I.ok.bs b o e).2 (I.ok.nofr e) (I.ok.noex b o e),I.base.free b o (I.ok.bs b o e).1 (I.ok.bs b o e).2 (I.ok.noex b o e)]
theorem Inv.bk (I:Inv X pins σ H s):∀b o,X.base.get? b=some o->s.heap.get? b=some o:=λb o e=>(I.bs b o e).1
theorem Inv.mod (I:Inv X pins σ H s):Mod X.K X.mg X.base:=I.ok.mod
theorem Inv.kIn (I:Inv X pins σ H s):X.K.In s.8:=I.ok.mod.kin.keeps I.bk
theorem Inv.nolimit (I:Inv X pins σ H s):s.heap.NoLimit:=I.ok.mod.nolimit.keeps I.bk
theorem Inv.lt (I:Inv X pins σ H s):X.env.locals < s.6:=let ⟨_,hn,_⟩:=I.loc;hn.lt
theorem Inv.sz (I:Inv X pins σ H s):X.s₀.6<=s.6:=af I.ok.above (dn I.lt)
theorem Inv.nofs (I:Inv X pins σ H s) {a:Addr} (h:s.6<=a):a∉X.fs:=λhb=>by
 obtain _|o|ho|_:=I.ok.funs.mem hb;exact absurd (bw (Heap.lt_size ho) (af I.sz h)) (ff _)
theorem Inv.cne (I:Inv X pins σ H s):∀x c,X.env.cells.lookup x=some c->c≠X.env.locals:=λx c e z=>by
 obtain v|o|ho|hd:=I.cell x c e;obtain m|⟨o',es,ep,ho',hd',_⟩|_:=I.loc;rw[z,ho'] at ho;cases ho;rw[hd'] at hd;cases hd
theorem Inv.funs (I:Inv X pins σ H s):s.heap.FunFrames X.base X.outer:=by
 have all:∀(l:List Env),(∀b∈MD l,b∈X.fs)->X.s₀.heap.FunFrames X.base l->s.heap.FunFrames X.base l:=by
  intro l
  induction l with
  | nil=>intro _ _;trivial
  | cons env r ih =>
   intro hs hl;obtain hk|⟨L,o,hf,hn,ho,hd⟩|hr:=hl;have hL:L∈X.fs:=hs L (by unfold MD;rw[FE,hf];exact dJ);obtain sl|e:=I.base.slot L o ho (I.ok.frf L hL) hL λz=>I.ok.exfs L z hL
   exact #[hk,#[L,_,hf,hn,e,hd],ih (λb hb=>hs b (by unfold MD;rw[FE,hf];exact bX _ hb)) hr]
 exact all X.outer (λ_ hb=>hb) I.ok.funs
theorem Inv.stack (I:Inv X pins σ H s):s.heap.FunFrames X.base X.stack:=by
 rcases I.ok.stk with e | ⟨e,hf⟩
 ·rw[e];exact I.funs
 ·rw[e];obtain m|hn|_:=I.loc;refine .cons (by rw[I.ok.kind];decide) hf hn ?_ I.funs;exact Heap.get?_none_of_le (af I.ok.bsz I.ok.above)
theorem Inv.stkSub (I:Inv X pins σ H s):∀b∈MD X.stack,b∈X.env.locals :: X.fs:=λb hb=>by
 rcases I.ok.stk with e | ⟨e,hf⟩
 ·rw[e] at hb;exact bX _ hb
 ·rw[e] at hb;unfold MD at hb;rw[FE,hf] at hb;exact hb
theorem Inv.stkFree (I:Inv X pins σ H s):∀b∈MD X.stack,H b=none:=λb hb=>by
 rcases aD.mp (I.stkSub b hb) with e | hb
 ·rw[e];exact I.free
 ·obtain _|o|ho|_:=I.ok.funs.mem hb;exact I.base.free b o ho (I.ok.frf b hb) λz=>I.ok.exfs b z hb
theorem Inv.step {ch:List Addr} (I:Inv X pins σ H s)
  (hch:∀b∈ch,(b∈X.ex\/X.s₀.6<=b)/\b≠X.env.locals/\(∀x c,X.env.cells.lookup x=some c->c≠b)/\∀p∈X.pn++pins,p.1≠b)
  (keep:∀b o,b≠X.env.locals->b∉X.fs->b∉ch->s.heap.get? b=some o->H b=none->h'.get? b=some o)
  (slot:∀b o,b≠X.env.locals->b∈X.fs->b∉ch->s.heap.get? b=some o->H b=none->∃sl,h'.get? b=some { o with slots:=sl }) (free:∀b o,b∉ch->s.heap.get? b=some o->H b=none->H' b=none)
  (there:∀b o,b∉ch->s.heap.get? b=some o->∃o',h'.get? b=some o')
  (tups:∀b xs,H b=some (.tup xs)->H' b=some (.tup xs)) (frzs:∀b o u,H b=some (.frz o u)->H' b=some (.frz o u)) (tbls:∀b ps,H b=some (.tbl ps)->∃more,H' b=some (.tbl (ps++more)))
  (ns:∀m,s.heap.Ns X.env.locals m->h'.Ns X.env.locals m) (hok:yU X.prog X.w H' h') (hg:AllBare g') :
  Inv X pins σ H' { s with heap:=h',gens:=g',drawn:=d',toks:=t' }:=by
 have neL:∀b o,X.s₀.heap.get? b=some o->b≠X.env.locals:=λb o e=>cg (bw (Heap.lt_size e) I.ok.above)
 have neC:∀b o,X.s₀.heap.get? b=some o->b∉X.ex->b∉ch:=λb o e hx hb=>by
  rcases (hch b hb).1 with z | z
  ·exact hx z
  ·exact absurd (bw (Heap.lt_size e) z) (ff _)
 have cellK:∀x c,X.env.cells.lookup x=some c->∀v,s.heap.IsCell c v->h'.IsCell c v:=λx c e v #[o,ho,hd]=>by
  have nch:c∉ch:=λz=>(hch c z).2.2.1 x c e rfl
  by_cases hc:c∈X.fs
  ·obtain sl|q:=slot c o (I.cne x c e) hc nch ho (I.freeC x c e);exact #[_,q,hd]
  ·exact #[o,keep c o (I.cne x c e) hc nch ho (I.freeC x c e),hd]
 refine #[I.ok,I.os,hg,#[λb o e n hb hx=>?_,λb o e n hb hx=>?_,λb o e n hx=>?_,λb o e hx=>?_,λb xs e=>tups b xs (I.base.tups b xs e),λb o xs e=>frzs b o xs (I.base.frzs b o xs e),λb ps e=>?_],?_,λx c e=>?_,?_,λx c e=>?_,λp hp=>?_,hok,I.len]
 ·exact keep b o (neL b o e) hb (neC b o e hx) (I.base.keep b o e n hb hx) (I.base.free b o e n hx)
 ·obtain sl|e1:=I.base.slot b o e n hb hx;obtain sl'|e2:=slot b _ (neL b o e) hb (neC b o e hx) e1 (I.base.free b o e n hx);exact #[sl',e2]
 ·obtain o'|e1:=I.base.there b o e hx;exact free b o' (neC b o e hx) e1 (I.base.free b o e n hx)
 ·obtain o'|e1:=I.base.there b o e hx;exact there b o' (neC b o e hx) e1
 ·obtain m1|e1:=I.base.tbls b ps e;obtain m2|e2:=tbls b _ e1;exact #[m1++m2,by rw[e2,Array.append_assoc]]
 ·obtain m|hn|hl:=I.loc;refine #[m,ns m hn,λi x v e1 e2 e3=>?_];obtain u|r|l:=hl i x v e1 e2 e3;refine #[u,r,?_];rcases l with l | ⟨k,c,e,z⟩
  ·exact .inl l
  ·exact .inr #[k,c,e,cellK x c e _ z]
 ·obtain v|z:=I.cell x c e;exact #[v,cellK x c e v z]
 ·obtain m|⟨o,_,_,ho,_⟩|_:=I.loc;exact free _ o (λz=>(hch _ z).2.1 rfl) ho I.free
 ·obtain v|o|ho|hd:=I.cell x c e;exact free c o (λz=>(hch c z).2.2.1 x c e rfl) ho (I.freeC x c e)
 ·obtain e|n|ne|nf|d:=I.pin p hp;have nch:p.1∉ch:=λz=>(hch p.1 z).2.2.2 p hp rfl
  exact #[keep p.1 p.2 ne nf nch e n,free p.1 p.2 nch e n,ne,nf,d]
theorem Inv.un (I:Inv X pins σ H s) (u:Un X.fs [] H H' s.heap h') (hok:yU X.prog X.w H' h'):Inv X pins σ H' { s with heap:=h',toks:=t' }:=by
 obtain m|⟨o,es,ep,ho,r⟩|_:=id I.loc;obtain sl|hL:=u.any ho I.free (by simp)
 exact I.step (g':=s.gens) (d':=s.drawn) (ch:=[]) (λ_ z=>nomatch z) (λb o _ hb _ e n=>u.keep b o e n hb (by simp)) (λb o _ hb _ e n=>u.slot b o e n hb (by simp)) (λb o _ e n=>u.free b o e n (by simp)) (λb o _ e=>u.there b o e (by simp)) u.tups u.frzs u.tbls (λm' hm=>by
  obtain o'|es'|ep'|ho'|r':=hm;rw[ho] at ho';cases ho';exact #[_,es',ep',hL,r']) hok I.bare
theorem Inv.call (I:Inv X pins σ H s) (u:Un (MD X.stack) ch H H' s.heap h') (hok:yU X.prog X.w H' h') (hg:AllBare g')
  (hch:∀b∈ch,(b∈X.ex\/X.s₀.6<=b)/\b≠X.env.locals/\(∀x c,X.env.cells.lookup x=some c->c≠b)/\∀p∈X.pn++pins,p.1≠b) :
  Inv X pins σ H' { s with heap:=h',gens:=g',drawn:=d',toks:=t' }:=by
 obtain m|⟨o,es,ep,ho,r⟩|_:=id I.loc;obtain sl|hL:=u.any ho I.free λz=>(hch _ z).2.1 rfl
 exact I.step (ch:=ch) hch (λb o hL hb hc e n=>u.keep b o e n (λz=>(aD.mp (I.stkSub b z)).elim hL hb) hc) (λb o _ _ hc e n=>u.any e n hc) (λb o hc e n=>u.free b o e n hc) (λb o hc e=>u.there b o e hc) u.tups u.frzs u.tbls (λm' hm=>by
  obtain o'|es'|ep'|ho'|r':=hm;rw[ho] at ho';cases ho';exact #[_,es',ep',hL,r']) hok hg
theorem Inv.turned (I:Inv X pins σ H s) (k:∀b o,b≠it->s.heap.get? b=some o->h'.get? b=some o) (hn:H it=none) (hL:it≠X.env.locals)
  (h1:it∈X.ex\/X.s₀.6<=it) (h2:∀x c,X.env.cells.lookup x=some c->c≠it) (h3:∀p∈X.pn++pins,p.1≠it):Inv X pins σ H { s with heap:=h',toks:=t' }:=by
 have nit:∀b u,H b=some u->b≠it:=λb u e z=>by rw[z,hn] at e;cases e
 refine I.step (g':=s.gens) (d':=s.drawn) (ch:=[it]) (λb hb=>?_) (λb o _ _ hc e _=>k b o (λz=>hc (by simp [z])) e) (λb o _ _ hc e _=>#[o.slots,k b o (λz=>hc (by simp [z])) e]) (λ_ _ _ _ n=>n)
  (λb o hc e=>#[o,k b o (λz=>hc (by simp [z])) e]) (λ_ _ e=>e) (λ_ _ _ e=>e) (λb ps e=>#[[].toArray,by rw[e];simp]) (λm hm=>?_) (λb u e=>?_) I.bare
 ·have e:b=it:=by simpa using hb
  subst e;exact #[h1,hL,h2,h3]
 ·obtain o|es|ep|ho|r:=hm;exact #[o,es,ep,k _ o (Ne.symm hL) ho,r]
 ·refine (I.hok b u e).stay (λc v hc q=>k c v ?_ q) (λ_ q=>q) λ_ _ q=>q
  rcases hc with z | z
  ·rw[z];exact nit b u e
  ·exact nit c _ z
theorem Inv.tok (I:Inv X pins σ H s) (t:Nat):Inv X pins σ H { s with toks:=t }:=I.un (h':=s.8) (t':=t) Un.refl I.hok
theorem Inv.kept (I:Inv X pins σ H s) (k:∀b u,s.heap.get? b=some u->h'.get? b=some u):Inv X pins σ H { s with heap:=h',toks:=t' }:=I.un (Un.kept k) (I.hok.kept k)
theorem Inv.laid {a:Addr} (I:Inv X pins σ H s) (k:∀b u,s.heap.get? b=some u->h'.get? b=some u) (hp:s.6<=a) (new:iw X.prog X.w (upd H a o) h' a o) :
  Inv X pins σ (upd H a o) { s with heap:=h',toks:=t' }:=I.un (Un.laid k hp (I.hok.fresh hp)) (I.hok.laid k hp new)
theorem Inv.write (I:Inv X pins σ H s) (mu:V7 (H x)) (he:e=x\/H e=some (.own x)) (k:∀b u,b≠e->s.heap.get? b=some u->h'.get? b=some u) (heo:∃u,h'.get? e=some u)
  (new:iw X.prog X.w (upd H x o) h' x o):Inv X pins σ (upd H x o) { s with heap:=h',toks:=t' }:=I.un (Un.write mu he k heo) (I.hok.write mu he k heo new)
theorem Inv.pins_of (I:Inv X pins σ H s) (h:∀p∈pins',s.heap.get? p.1=some p.2/\H p.1=none/\p.1≠X.env.locals/\p.1∉X.fs/\∀v,p.2.data≠.cell v):Inv X pins' σ H s :=
 #[I.ok,I.os,I.bare,I.base,I.loc,I.cell,I.free,I.freeC,λp hp=>(av.mp hp).elim (λz=>I.pin p (dM _ z)) (h p),I.hok,I.len]
theorem GH {N:List Str} (hN:N.Nodup) {i j:Nat} (a:N[i]?=some x) (b:N[j]?=some x):i=j:=by
 obtain h1|e1:=aJ.mp a;obtain h2|e2:=aJ.mp b;exact (List.getElem_inj hN).mp (e1.trans e2.symm)
theorem Cu {M:Model} {A:Around} {E:Value->Shared->Prop} {i:Nat} {x:Str} {v:V} {u:Value} {Q:Unit->Shared->Prop} (I:Inv X pins σ H s) (hN:X.N.Nodup) (hi:X.N[i]?=some x) (hx:Loc X.env.scope x) (r:RelV v u)
  (h:∀s',Inv X pins (σ.set i (some v)) H s'->(∃a,Heap.SameBut a s.heap s'.8/\(a=X.env.locals\/X.env.cells.lookup x=some a))->Q .unit s') (hf:X.fn x=true\/X.env.scope.names.lookup x=some .local:=by first | exact .inl rfl | exact .inr rfl | assumption):wpAny M A (storeName X.env x u) Q E s:=by
 obtain m|hn|hl:=id I.loc;have hcls:(X.env.scope.kind == .class || (X.env.scope.kind == .module && X.env.locals != X.env.globals))=false:=by rw[I.ok.kind];rfl
 have hiσ:i < σ.9:=by rw[I.len];exact (aJ.mp hi).1
 have cne:=I.cne
 have tracked:∀{a:Addr} {h':Heap},(∃o,s.heap.get? a=some o/\H a=none)->Heap.SameBut a s.heap h'->yU X.prog X.w H h':=λ{a h'} ha hs b ob e=>by
  obtain _|_|hfree:=ha;refine (I.hok b ob e).stay (λc w' hc q=>(hs.2 c ?_).trans q) (λ_ q=>q) λ_ _ q=>q
  rintro rfl;rcases hc with rfl | hc
  ·rw[hfree] at e;cases e
  ·rw[hfree] at hc;cases hc
 rcases hx with hk | hk
 ·refine wpAny_storeName_local hk hn (λh' hn' hs=>?_) hcls;obtain oL|_|_|hoL|_:=id hn;refine h _ #[I.ok,I.os,I.bare,#[λb o e n hb hx=>?_,λb o e n hb hx=>?_,I.base.free,λb o e hx=>?_,I.base.tups,I.base.frzs,I.base.tbls],#[_,hn',λj y v' e1 e2 e3=>?_],λy c e=>?_,I.free,I.freeC,λp hp=>?_,tracked #[oL,hoL,I.free] hs,by simpa using I.len] #[_,hs,.inl rfl]
  ·exact (hs.2 b (cg (bw (Heap.lt_size e) I.ok.above))).trans (I.base.keep b o e n hb hx)
  ·obtain sl|e1:=I.base.slot b o e n hb hx;exact #[sl,(hs.2 b (cg (bw (Heap.lt_size e) I.ok.above))).trans e1]
  ·obtain o'|e1:=I.base.there b o e hx;exact #[o',(hs.2 b (cg (bw (Heap.lt_size e) I.ok.above))).trans e1]
  ·by_cases hj:j=i
   ·subst hj;rw[hi] at e1;cases e1;rw[List.getElem?_set_self hiσ] at e2;cases e2;exact #[u,r,.inl #[hk,by simp]]
   ·rw[List.getElem?_set_ne (Ne.symm hj)] at e2;obtain u'|r'|q:=hl j y v' e1 e2 e3;refine #[u',r',?_];rcases q with ⟨k,e⟩ | ⟨k,c,e,z⟩
    ·refine .inl #[k,?_];have:y≠x:=λe=>hj (GH hN e1 (e ▸ hi))
     simp [this,e]
    ·exact .inr #[k,c,e,z.sameBut hs (cne y c e)]
  ·obtain w'|z:=I.cell y c e;exact #[w',z.sameBut hs (cne y c e)]
  ·obtain e|n|ne|nf|d:=I.pin p hp;exact #[(hs.2 p.1 ne).trans e,n,ne,nf,d]
 ·have hfn:X.fn x=true:=by
   rcases hf with z | z
   ·exact z
   ·rw[z] at hk;cases hk
  obtain c|hc:=I.ok.has x (.inl hk);obtain w'|z:=I.cell x c hc;refine wpAny_storeName_cell I.ok.kind hk hc z (λh' hc' hs=>?_);obtain oc|hoc|hocd:=id z;refine h { s with heap:=h' } ⟨I.ok,I.os,I.bare,⟨λb o e n hb hx=>?_,λb o e n hb hx=>?_,I.base.free,λb o e hx=>?_,I.base.tups,I.base.frzs,I.base.tbls⟩,#[m,hn.sameBut hs (Ne.symm (cne x c hc)),λj y v' e1 e2 e3=>?_],λy c' e=>?_,I.free,I.freeC,λp hp=>?_,tracked #[oc,hoc,I.freeC x c hc] hs,by simpa using I.len⟩ #[c,hs,.inr hc]
  ·exact (hs.2 b (cg (bw (Heap.lt_size e) (I.ok.cab x c hfn hc)))).trans (I.base.keep b o e n hb hx)
  ·obtain sl|e1:=I.base.slot b o e n hb hx;exact #[sl,(hs.2 b (cg (bw (Heap.lt_size e) (I.ok.cab x c hfn hc)))).trans e1]
  ·obtain o'|e1:=I.base.there b o e hx;exact #[o',(hs.2 b (cg (bw (Heap.lt_size e) (I.ok.cab x c hfn hc)))).trans e1]
  ·by_cases hj:j=i
   ·subst hj;rw[hi] at e1;cases e1;rw[List.getElem?_set_self hiσ] at e2;cases e2;exact #[u,r,.inr #[.inl hk,c,hc,hc']]
   ·rw[List.getElem?_set_ne (Ne.symm hj)] at e2;obtain u'|r'|q:=hl j y v' e1 e2 e3;refine #[u',r',?_];rcases q with q | ⟨k,c',e,z'⟩
    ·exact .inl q
    ·refine .inr #[k,c',e,z'.sameBut hs ?_];rintro rfl;exact hj (GH hN e1 (I.ok.inj _ _ _ e hc ▸ hi))
  ·by_cases hcc:c'=c
   ·subst hcc;exact #[_,hc']
   ·obtain w2|z2:=I.cell y c' e;exact #[w2,z2.sameBut hs hcc]
  ·obtain e|n|ne|nf|d:=I.pin p hp;refine #[(hs.2 p.1 ?_).trans e,n,ne,nf,d];intro q;rw[q,hoc] at e;have q':oc=p.2:=cp e;exact d w' (by rw[<- q'];exact hocd)
theorem vR {M:Model} {A:Around} {E:Value->Shared->Prop} {i:Nat} {x:Str} {v:V} {u:Value} {Q:Unit->Shared->Prop} (I:Inv X pins σ H s) (hN:X.N.Nodup) (hi:X.N[i]?=some x) (hx:Loc X.env.scope x) (r:RelV v u)
  (h:∀s',Inv X pins (σ.set i (some v)) H s'->Q .unit s') (hf:X.fn x=true\/X.env.scope.names.lookup x=some .local:=by first | exact .inl rfl | exact .inr rfl | assumption):wpAny M A (storeName X.env x u) Q E s :=
 Cu I hN hi hx r (λs' I' _=>h s' I') hf
theorem Inv.call' (I:Inv X pins σ H s) (ho:s'.os=s.os) (u:Un (MD X.stack) ch H H' s.heap s'.8) (hok:yU X.prog X.w H' s'.8) (hg:AllBare s'.gens)
  (hch:∀b∈ch,(b∈X.ex\/X.s₀.6<=b)/\b≠X.env.locals/\(∀x c,X.env.cells.lookup x=some c->c≠b)/\∀p∈X.pn++pins,p.1≠b):Inv X pins σ H' s':=by
 obtain h'|g'|d'|t'|o':=s';have e:o'=s.os:=ho;subst e;exact I.call (g':=g') (t':=t') (d':=d') u hok hg hch
end
abbrev XK:=Value->Option Addr->Hp->Prop
abbrev St:=List (Option V)
abbrev VK:=V->Hp->Prop
abbrev TE:=St->Hp->VK->Prop
abbrev TT:=St->Hp->(Bool->Hp->Prop)->Prop
abbrev TA:=St->Hp->(List V->Hp->Prop)->Prop
structure Ends where
 nx:St->Hp->Prop
 rt:VK
 bk:St->Hp->Prop:=λ_ _=>False
 ct:St->Hp->Prop:=λ_ _=>False
abbrev TS:=Ends->St->Hp->Prop
def EP (X:Cx) (pins:List (Addr×Obj)) (σ:St) (Q:VK) (u:Value) (s':Shared):Prop:=∃v H',Inv X pins σ H' s'/\RelV v u/\Q v H'
def TP (X:Cx) (pins:List (Addr×Obj)) (σ:St) (Q:Bool->Hp->Prop) (b:Bool) (s':Shared):Prop:=∃H',Inv X pins σ H' s'/\Q b H'
def AP (X:Cx) (pins:List (Addr×Obj)) (σ:St) (Q:List V->Hp->Prop) (us:List Value) (s':Shared):Prop:=∃vs H',Inv X pins σ H' s'/\cS vs us/\Q vs H'
def SP (X:Cx) (pins:List (Addr×Obj)) (D:Ends) (f:Flow) (s':Shared):Prop :=
 match f with
 | .next=>∃σ' H',Inv X pins σ' H' s'/\D.nx σ' H'
 | .brk=>∃σ' H',Inv X pins σ' H' s'/\D.bk σ' H'
 | .cont=>∃σ' H',Inv X pins σ' H' s'/\D.ct σ' H'
 | .ret u=>∃v σ' H',Inv X pins σ' H' s'/\RelV v u/\D.rt v H'
def PE (X:Cx) (e:Expr) (t:TE):Prop :=
 ∀(pins:List (Addr×Obj)) (s:Shared) (σ:St) (H:Hp) (Q:VK),Inv X pins σ H s->t σ H Q->wpAny (model X.prog X.w) X.A (eval e X.env) (EP X pins σ Q) X.xe s
def PT (X:Cx) (e:Expr) (t:TT):Prop :=
 ∀(pins:List (Addr×Obj)) (s:Shared) (σ:St) (H:Hp) (Q:Bool->Hp->Prop),Inv X pins σ H s->t σ H Q->wpAny (model X.prog X.w) X.A (isTrue e X.env (eval e X.env)) (TP X pins σ Q) X.xe s
def PW (X:Cx) (e:Expr) (t:TT):Prop :=
 ∀(whole:Sem Value) (pins:List (Addr×Obj)) (s:Shared) (σ:St) (H:Hp) (Q:Bool->Hp->Prop),Inv X pins σ H s->t σ H Q->wpAny (model X.prog X.w) X.A (isTrue e X.env whole) (TP X pins σ Q) X.xe s
theorem PW.pt (h:PW X e t):PT X e t:=h _
def PA (X:Cx) (es:List Expr) (t:TA):Prop :=
 ∀(pos:Pos) (pins:List (Addr×Obj)) (s:Shared) (σ:St) (H:Hp) (Q:List V->Hp->Prop),Inv X pins σ H s->t σ H Q->wpAny (model X.prog X.w) X.A (spliced (backTo pos (starEach es X.env))) (AP X pins σ Q) X.xe s
def PS (X:Cx) (st:Stmt) (t:TS):Prop :=
 ∀(pins:List (Addr×Obj)) (s:Shared) (σ:St) (H:Hp) (D:Ends),Inv X pins σ H s->t D σ H->wpAny (model X.prog X.w) X.A (exec st X.env) (SP X pins D) X.xe s
def IL (X:Cx) (st:List Stmt) (t:TS):Prop :=
 ∀(pins:List (Addr×Obj)) (s:Shared) (σ:St) (H:Hp) (D:Ends),Inv X pins σ H s->t D σ H->wpAny (model X.prog X.w) X.A (execs st X.env) (SP X pins D) X.xe s
theorem iI {t:Sem α} {Q Q':α->Shared->Prop} (h:wpAny M A t Q E s) (hQ:∀a s,Q a s->Q' a s):wpAny M A t Q' E s:=wpAny_mono h hQ λ_ _ x=>x
section
variable {X:Cx}
def SJ (i:Nat):TE:=λσ H Q=>∃v,σ[i]?=some (some v)/\Q v H
def tC (v:V):TE:=λ_ H Q=>Q v H
theorem TM {i:Nat} {x:Str} {pos:Pos} (hN:X.N[i]?=some x) (hv:Wo X.env.scope x) (hd:(x == ("__debug__":Str))=false:=by decide) (hcd:(x == ("__classdict__":Str))=false:=by decide):PE X (.Name x pos) (SJ i):=by
 intro pins s σ H Q I h;obtain v|e|h:=h;obtain m|hn|hl:=I.loc;obtain u|r|l:=hl i x v hN e hv;have fin:EP X pins σ Q u s:=#[v,H,I,r,h];rcases l with ⟨hk,hm⟩ | ⟨hk,c,hc,hcell⟩
 ·exact wpAny_Name (wpAny_loadName_local I.ok.kind hk hn hm fin) hd
 ·rcases hk with hk | hk
  ·exact wpAny_Name (wpAny_loadName_cell I.ok.kind hk hc hcell fin) hd
  ·exact wpAny_Name (wpAny_loadName_free I.ok.kind hk hc hcell fin hcd) hd
theorem ai:PE X (.Constant (.int i) j pos) (tC (.int i)):=λ_ _ _ H _ I h=>wpAny_Constant_int #[.int i,H,I.tok _,#[_,rfl],h]
theorem mM:PE X (.Constant (.bool b) j pos) (tC (.bl b)):=λ_ _ _ H _ I h=>Constant_bool #[.bl b,H,I,rfl,h]
theorem D6:PE X (.Constant .none j pos) (tC .non):=λ_ _ _ H _ I h=>Constant_none #[.non,H,I,rfl,h]
theorem nh:PE X (.Constant (.str x) j pos) (tC (.str x)):=λ_ _ _ H _ I h=>Calls.Constant_str #[.str x,H,I.tok _,#[_,rfl],h]
def Gl (X:Cx) (x:Str):Prop:=X.env.kindOf x=some .globalImplicit
theorem Ep {E:Value->Shared->Prop} {pins:List (Addr×Obj)} {s:Shared} {σ:St} {H:Hp} {x:Str} {u:Value} {pos:Pos} {Q:Value->Shared->Prop} (I:Inv X pins σ H s) (hg:Gl X x) (hm:X.mg x=some u) (h:Q u s)
  (hd:(x == ("__debug__":Str))=false:=by decide):wpAny (model X.prog X.w) X.A (eval (.Name x pos) X.env) Q E s :=
 Calls.Name_function_global I.ok.kind hg (Calls.loadGlobal_global (by rw[I.ok.glob];exact I.mod.glob.keeps I.bk) hm h) hd
theorem k9 {E:Value->Shared->Prop} {pins:List (Addr×Obj)} {s:Shared} {σ:St} {H:Hp} {x:Str} {u:Value} {pos:Pos} {Q:Value->Shared->Prop} (I:Inv X pins σ H s) (hg:Gl X x) (hm:X.mg x=none) (hv:bootBuiltins x=some u) (h:Q u s)
  (hn:x≠"__name__":=by decide) (hd:(x == ("__debug__":Str))=false:=by decide):wpAny (model X.prog X.w) X.A (eval (.Name x pos) X.env) Q E s:=by
 obtain mb|h1|h2:=I.mod.blt;exact Calls.Name_function_global I.ok.kind hg (Calls.loadGlobal_builtin (by rw[I.ok.glob];exact I.mod.glob.keeps I.bk) hm (by rw[I.ok.blt];exact h1.keeps I.bk) ((h2 x hn).trans hv) h) hd
theorem v9 {x:Str} {v:V} {u:Value} {pos:Pos} (hg:Gl X x) (hm:X.mg x=some u) (r:RelV v u) (hd:(x == ("__debug__":Str))=false:=by decide):PE X (.Name x pos) (tC v) :=
 λ_ _ _ H _ I h=>Ep I hg hm #[v,H,I,r,h] hd
theorem yN {x:Str} {v:V} {u:Value} {pos:Pos} (hg:Gl X x) (hm:X.mg x=none) (hv:bootBuiltins x=some u) (r:RelV v u) (hn:x≠"__name__":=by decide) (hd:(x == ("__debug__":Str))=false:=by decide):PE X (.Name x pos) (tC v) :=
 λ_ _ _ H _ I h=>k9 I hg hm hv #[v,H,I,r,h] hn hd
variable {a b:Expr} {ta tb:TE} {pos:Pos}
def tB (t:TE):TT:=λσ H Q=>t σ H λx H1=>∃c,x=.bl c/\Q c H1
theorem gV {e:Expr} {t:TE} (h:PE X e t) (he:∀whole,isTrue e X.env whole=(do let v <- whole;standAt e.pos;holding [v] (truthy v)):=by intro _;rfl):PT X e (tB t):=by
 intro pins s σ H Q I hw;refine isTrue_plain (iI (h pins s σ H _ I hw) λv s1 #[x,H1,I1,r1,q1]=>?_) (he _);obtain d|rfl|q:=q1;cases r1;exact wpAny_truthy_bool #[H1,I1,q]
variable {tA tB':TT} {rest:List Expr}
def U1 (t u:TT):TT:=λσ H Q=>t σ H λc H1=>if c=true then u σ H1 Q else Q false H1
def tOr (t u:TT):TT:=λσ H Q=>t σ H λc H1=>if c=true then Q true H1 else u σ H1 Q
def UX (t:TT):TT:=λσ H Q=>t σ H λc H1=>Q (!c) H1
theorem ma (ha:PT X a tA):PW X (.BoolOp .And [a] pos) tA:=by
 intro wh pins s σ H Q I h;refine isTrue_and (iI (ha pins s σ H Q I h) λc s1 e=>?_);cases c with
 | true=>exact isTrue_and_nil e
 | false=>exact e
theorem kJ (ha:PT X a tA):PW X (.BoolOp .Or [a] pos) tA:=by
 intro wh pins s σ H Q I h;refine isTrue_or (iI (ha pins s σ H Q I h) λc s1 e=>?_);cases c with
 | false=>exact isTrue_or_nil e
 | true=>exact e
theorem kK (ha:PT X a tA) (hb:PW X (.BoolOp .And (b :: rest) pos) tB'):PW X (.BoolOp .And (a :: b :: rest) pos) (U1 tA tB'):=by
 intro wh pins s σ H Q I h;refine isTrue_and (iI (ha pins s σ H _ I h) λc s1 #[H1,I1,q1]=>?_);cases c with
 | true=>exact hb wh pins s1 σ H1 Q I1 q1
 | false=>exact #[H1,I1,q1]
theorem ow (ha:PT X a tA) (hb:PW X (.BoolOp .Or (b :: rest) pos) tB'):PW X (.BoolOp .Or (a :: b :: rest) pos) (tOr tA tB'):=by
 intro wh pins s σ H Q I h;refine isTrue_or (iI (ha pins s σ H _ I h) λc s1 #[H1,I1,q1]=>?_);cases c with
 | true=>exact #[H1,I1,q1]
 | false=>exact hb wh pins s1 σ H1 Q I1 q1
theorem jW (ha:PT X a tA):PT X (.UnaryOp .Not a pos) (UX tA):=by
 intro pins s σ H Q I h;exact isTrue_not (ha pins s σ H (λc H1=>Q (!c) H1) I h)
def RQ (ta tb:TE):TE:=λσ H Q=>ta σ H λx H1=>∃c,x=.bl c/\if c=true then tb σ H1 Q else Q (.bl false) H1
def RK (ta:TE):TE:=λσ H Q=>ta σ H λx H1=>∃c,x=.bl c/\Q (.bl (!c)) H1
theorem Ai (h:PE X a t):PE X (.BoolOp op [a] pos) t:=λpins s σ H Q I hw=>BoolOp_one (h pins s σ H Q I hw)
theorem xJ (ha:PE X a ta) (hb:PE X (.BoolOp .And (b :: rest) pos) tb):PE X (.BoolOp .And (a :: b :: rest) pos) (RQ ta tb):=by
 intro pins s σ H Q I h;refine BoolOp_and (iI (ha pins s σ H _ I h) λv s1 #[x,H1,I1,r1,q1]=>?_);obtain c|rfl|q1:=q1;cases r1;refine wpAny_truthy_bool ?_;cases c with
 | true=>exact hb pins s1 σ H1 Q I1 q1
 | false=>exact #[.bl false,H1,I1,rfl,q1]
theorem TN (ha:PE X a ta):PE X (.UnaryOp .Not a pos) (RK ta):=by
 intro pins s σ H Q I h;refine UnaryOp_ (iI (ha pins s σ H _ I h) λv s1 #[x,H1,I1,r1,q1]=>?_);obtain c|rfl|q1:=q1;cases r1;exact not_of (wpAny_truthy_bool #[.bl (!c),H1,I1,rfl,q1])
def tIf (t:TT) (ta tb:TE):TE:=λσ H Q=>t σ H λc H1=>if c=true then ta σ H1 Q else tb σ H1 Q
theorem NH (hc:PT X c tA) (ha:PE X a ta) (hb:PE X b tb):PE X (.IfExp c a b pos) (tIf tA ta tb):=by
 intro pins s σ H Q I h;refine wpAny_IfExp (iI (hc pins s σ H _ I h) λd s1 #[H1,I1,q1]=>?_);cases d with
 | true=>exact ha pins s1 σ H1 Q I1 q1
 | false=>exact hb pins s1 σ H1 Q I1 q1
end
def bC (K:FG9) (H:Hp) (a:Addr) (xs:List V):Prop :=
 Rd H a (.lst xs) \/
  ∃(o:Obj) (its:Array Value) (n:Nat),K.lookup a=some o/\o.cls=.type "list"/\o.dict=none/\o.data=.seq its n/\its.7<=sizeLine/\cS xs its.toList
def j8 (K:FG9) (H:Hp) (a:Addr) (xs:List V):Prop :=
 Rd H a (.tup xs) \/
  ∃(o:Obj) (its:Array Value) (n:Nat),K.lookup a=some o/\o.cls=.type "tuple"/\o.data=.seq its n/\its.7<=sizeLine/\cS xs its.toList
def Wn:Value->Option V
 | .none=>some .non
 | .bool b=>some (.bl b)
 | .int i _=>some (.int i)
 | .str x _=>some (.str x)
 | .bytes b _=>some (.byt b)
 | .float b _=>some (.flt b)
 | .ref a=>some (.ref a)
 | .type n=>some (.ty n)
 | _=>none
theorem RelV.abs (r:RelV x u):Wn u=some x:=by
 cases x with
 | non=>cases r;rfl
 | bl _=>cases r;rfl
 | int _=>obtain t|rfl:=r;rfl
 | str _=>obtain t|rfl:=r;rfl
 | byt _=>obtain t|rfl:=r;rfl
 | flt _=>obtain t|rfl:=r;rfl
 | ref _=>cases r;rfl
 | ty _=>cases r;rfl
theorem RelV.inj (r:RelV x u) (q:RelV y u):x=y:=cp (r.abs.symm.trans q.abs)
theorem cS.inj:∀{xs ys:List V} {us:List Value},cS xs us->cS ys us->xs=ys
 | _,_,_,.nil,.nil=>rfl
 | _,_,_,.cons r t,.cons r' t'=>by rw[r.inj r',cS.inj t t']
section
variable {σ:St}
theorem bC.of {K:FG9} (h:H a=some (.lst xs)):bC K H a xs:=.inl (.inl h)
theorem j8.of {K:FG9} (h:H a=some (.tup xs)):j8 K H a xs:=.inl (.inl h)
theorem Inv.list (I:Inv X pins σ H s) (h:bC X.K H a xs):∃its:List Value,cS xs its/\PlainL s.heap a its.5/\xs.9<=sizeLine:=by
 rcases h with h | ⟨o,its,n,hk,hc,hd,hs,hz,r⟩
 ·obtain z|its|n|r|e:=h.ok I.hok;exact #[its,r,#[_,n,e,rfl,rfl,rfl],z]
 ·refine #[its.toList,r,#[o,n,I.kIn a o hk,hc,hd,by simpa using hs],?_];have e:=r.9;simp only[Array.length_toList] at e
  lia
theorem Inv.tuple (I:Inv X pins σ H s) (h:j8 X.K H a xs):∃its:List Value,cS xs its/\IsTup s.heap a its.5/\xs.9<=sizeLine:=by
 rcases h with h | ⟨o,its,n,hk,hc,hs,hz,r⟩
 ·obtain z|its|r|p:=h.ok I.hok;exact #[its,r,p,z]
 ·refine #[its.toList,r,#[o,I.kIn a o hk,hc,n,by simpa using hs],?_];have e:=r.9;simp only[Array.length_toList] at e
  lia
theorem Inv.list_inj (I:Inv X pins σ H s) (h:bC X.K H a xs) (h':bC X.K H a ys):xs=ys:=by
 obtain its|r|⟨o,n,e,_,_,d⟩|_:=I.list h;obtain its'|r'|⟨o',n',e',_,_,d'⟩|_:=I.list h';rw[e] at e';cases e';rw[d] at d';injection d' with d1 _
 have:its=its':=by simpa using congrArg Array.toList d1
 subst this;exact r.inj r'
theorem Inv.tuple_inj (I:Inv X pins σ H s) (h:j8 X.K H a xs) (h':j8 X.K H a ys):xs=ys:=by
 obtain its|r|⟨o,e,_,n,d⟩|_:=I.tuple h;obtain its'|r'|⟨o',e',_,n',d'⟩|_:=I.tuple h';rw[e] at e';cases e';rw[d] at d';injection d' with d1 _
 have:its=its':=by simpa using congrArg Array.toList d1
 subst this;exact r.inj r'
end
abbrev Cx.wish (X:Cx) (E:Value->Shared->Prop):Cx:={ X with xe:=E }
abbrev Cx.nox (X:Cx):Cx:=X.wish λ_ _=>False
theorem Cx.Ok.wish {X:Cx} (ok:X.Ok) (E:Value->Shared->Prop):(X.wish E).Ok :=
 #[ok.mod,ok.kind,ok.glob,ok.blt,ok.above,ok.inj,ok.has,ok.cab,ok.hd,ok.frames,ok.stk,ok.exf,ok.bs,ok.bsz,ok.noex,ok.exfs,ok.funs,ok.frf]
theorem Cx.Ok.unwish {X:Cx} (ok:(X.wish E).Ok):X.Ok :=
 #[ok.mod,ok.kind,ok.glob,ok.blt,ok.above,ok.inj,ok.has,ok.cab,ok.hd,ok.frames,ok.stk,ok.exf,ok.bs,ok.bsz,ok.noex,ok.exfs,ok.funs,ok.frf]
section
variable {σ:St}
theorem Inv.wish (I:Inv X pins σ H s) (E:Value->Shared->Prop):Inv (X.wish E) pins σ H s:=#[I.ok.wish E,I.os,I.bare,I.base,I.loc,I.cell,I.free,I.freeC,I.pin,I.hok,I.len]
theorem Inv.unwish (I:Inv (X.wish E) pins σ H s):Inv X pins σ H s:=#[I.ok.unwish,I.os,I.bare,I.base,I.loc,I.cell,I.free,I.freeC,I.pin,I.hok,I.len]
theorem SP.unwish (h:SP (X.wish E) pins D f s'):SP X pins D f s':=by
 cases f with
 | next=>obtain σ'|H'|I|q:=h;exact #[σ',H',I.unwish,q]
 | brk=>obtain σ'|H'|I|q:=h;exact #[σ',H',I.unwish,q]
 | cont=>obtain σ'|H'|I|q:=h;exact #[σ',H',I.unwish,q]
 | ret u=>obtain v|σ'|H'|I|r|q:=h;exact #[v,σ',H',I.unwish,r,q]
theorem IL.nox {st:List Stmt} (h:IL X.nox st t):IL X st t:=λpins s σ H D I hw =>
 wpAny_mono (h pins s σ H D (I.wish _) hw) (λ_ _ q=>q.unwish) λ_ _ z=>False.elim z
end
section
variable {X:Cx} {st:Stmt} {rest:List Stmt} {t u:TS} {e:Expr} {te:TE} {pos:Pos}
def RL:TS:=λD σ H=>D.nx σ H
def US (t u:TS):TS:=λD σ H=>t { D with nx:=u D } σ H
theorem bI:IL X [] RL:=λ_ _ σ H _ I h=>wpAny_execs_nil #[σ,H,I,h]
theorem ao (h1:PS X st t) (h2:IL X rest u):IL X (st :: rest) (US t u):=by
 intro pins s σ H D I h;refine wpAny_execs_cons (iI (h1 pins s σ H { D with nx:=u D } I h) λf s1 q=>?_);cases f with
 | next =>
  obtain σ'|H'|I'|q:=q;exact h2 pins s1 σ' H' D I' q
 | ret v=>exact q
 | brk=>exact q
 | cont=>exact q
theorem az (h1:PS X st t):IL X [st] t:=by
 intro pins s σ H D I h;refine wpAny_execs_cons (iI (h1 pins s σ H D I h) λf s1 q=>?_);cases f with
 | next=>exact wpAny_execs_nil q
 | ret v=>exact q
 | brk=>exact q
 | cont=>exact q
theorem Inv.quiet {σ:St} (I:Inv X pins σ H s):interactive X.env=false:=by simp [interactive,I.ok.kind]
def RO (te:TE):TS:=λD σ H=>te σ H λ_ H1=>D.nx σ H1
theorem iK (he:PE X e te) (hs:swapsWith e none pos.line X.env=pure false:=by rfl):PS X (.Expr e pos) (RO te):=by
 intro pins s σ H D I h;exact wpAny_Expr_any (iI (he pins s σ H _ I h) λv s1 #[x,H1,I1,r1,q1]=>#[σ,H1,I1,q1]) I.quiet hs
def UT (te:TE):TS:=λD σ H=>te σ H D.rt
theorem aT (he:PE X e te):PS X (.Return (some e) pos) (UT te):=by
 intro pins s σ H D I h;exact wpAny_Return_some (iI (he pins s σ H _ I h) λv s1 #[x,H1,I1,r1,q1]=>#[x,σ,H1,I1,r1,q1])
def UZ (c:TT) (t u:TS):TS:=λD σ H=>c σ H λb H1=>if b=true then t D σ H1 else u D σ H1
theorem cN (hc:PT X c tc) (ha:IL X a t) (hb:IL X b u):PS X (.If c a b pos) (UZ tc t u):=by
 intro pins s σ H D I h;refine wpAny_If (iI (hc pins s σ H _ I h) λd s1 #[H1,I1,q1]=>?_);cases d with
 | true=>exact ha pins s1 σ H1 D I1 q1
 | false=>exact hb pins s1 σ H1 D I1 q1
end
abbrev TG:=V->St->Hp->(St->Hp->Prop)->Prop
abbrev O8:=List V->St->Hp->(St->Hp->Prop)->Prop
def PG (X:Cx) (target:Expr) (t:TG):Prop :=
 ∀(pins:List (Addr×Obj)) (s:Shared) (σ:St) (H:Hp) (v:V) (u:Value) (Q:St->Hp->Prop),Inv X pins σ H s->RelV v u->t v σ H Q →
  wpAny (model X.prog X.w) X.A (assign target X.env u) (λ_ s'=>∃σ' H',Inv X pins σ' H' s'/\Q σ' H') X.xe s
def VN (X:Cx) (ts:List Expr) (t:O8):Prop :=
 ∀(pins:List (Addr×Obj)) (s:Shared) (σ:St) (H:Hp) (vs:List V) (us:List Value) (Q:St->Hp->Prop),Inv X pins σ H s->cS vs us->t vs σ H Q →
  wpAny (model X.prog X.w) X.A (assignInOrder ((assignEach ts X.env).map (·.2)) us) (λ_ s'=>∃σ' H',Inv X pins σ' H' s'/\Q σ' H') X.xe s
abbrev J6:=V->V->V->Hp->(Hp->Prop)->Prop
def Ut (X:Cx) (t:J6):Prop :=
 ∀(pins:List (Addr×Obj)) (s:Shared) (σ:St) (H:Hp) (o i v:V) (ov iv u:Value) (Q:Hp->Prop),Inv X pins σ H s->RelV o ov->RelV i iv->RelV v u->t o i v H Q →
  wpAny (model X.prog X.w) X.A (setItem ov iv u) (λ_ s'=>∃H',Inv X pins σ H' s'/\Q H') X.xe s
abbrev VM:=V->V->Hp->VK->Prop
def PIp (X:Cx) (op:Operator) (t:VM):Prop :=
 ∀(pins:List (Addr×Obj)) (s:Shared) (σ:St) (H:Hp) (x y:V) (v u:Value) (Q:VK),Inv X pins σ H s->RelV x v->RelV y u->t x y H Q →
  wpAny (model X.prog X.w) X.A (inplaceOp op v u) (EP X pins σ Q) X.xe s
section
variable {X:Cx} {pos:Pos}
def C2 (i:Nat):TG:=λv σ H Q=>Q (σ.set i (some v)) H
theorem Qu {i:Nat} {x:Str} (hN:X.N.Nodup) (hi:X.N[i]?=some x:=by exact rfl) (hx:Loc X.env.scope x:=by exact Or.inl rfl) (hf:X.fn x=true\/X.env.scope.names.lookup x=some .local:=by first | exact .inl rfl | exact .inr rfl | assumption):PG X (.Name x pos) (C2 i):=by
 intro pins s σ H v u Q I r h;exact wpAny_assign_Name (vR I hN hi hx r (λs' I'=>#[_,H,I',h]) hf)
def VF:O8:=λvs σ H Q=>vs=[]/\Q σ H
def Sg (t:TG) (u:O8):O8:=λvs σ H Q=>∃v r,vs=v :: r/\t v σ H λσ' H'=>u r σ' H' Q
theorem jg:VN X [] VF:=by
 intro pins s σ H vs us Q I r h;obtain e|h:=h;subst e;cases r;exact assignInOrder_nil #[σ,H,I,h]
theorem cG {e:Expr} {es:List Expr} {t:TG} {u:O8} (h1:PG X e t) (h2:VN X es u)
  (hs:(assignEach (e :: es) X.env).map (·.2)=assign e X.env :: (assignEach es X.env).map (·.2):=by rfl):VN X (e :: es) (Sg t u):=by
 intro pins s σ H vs us Q I r h;obtain v|vr|e1|h:=h;subst e1;cases r with
 | cons r rr =>
  rw[hs];refine assignInOrder_cons (iI (h1 pins s σ H _ _ _ I r h) λ_ s1 #[σ1,H1,I1,q1]=>?_);exact h2 pins s1 σ1 H1 _ _ Q I1 rr q1
def Uc (K:FG9) (n:Nat) (t:O8):TG:=λv σ H Q=>∃a xs,v=.ref a/\j8 K H a xs/\xs.9=n/\t xs σ H Q
theorem vB {es:List Expr} {k:Nat} {t:O8} {n:Nat} (hc:X.calm=true) (h:VN X es t)
  (hn:(assignEach es X.env).9=n:=by rfl) (hst:(assignEach es X.env).findIdx? (·.1)=none:=by rfl):PG X (.Tuple es k pos) (Uc X.K n t):=by
 intro pins s σ H v u Q I r hw;obtain a|xs|e1|hq|hl|hw:=hw;subst e1;cases r;obtain its|rv|ht|hz:=I.tuple hq;refine assign_Tuple_tuple (I.ok.hd hc) ht (by simp [hn,<- hl,rv.9]) hst λh' hx=>?_
 have I1:Inv X pins σ H { s with heap:=h' }:=I.kept (t':=s.toks) λb o e=>hx b o (cg (Heap.lt_size e)) e
 exact h pins _ σ H xs _ Q I1 (by simpa using rv) hw
def VE (to ti:TE) (t:J6):TG:=λv σ H Q=>to σ H λo H1=>ti σ H1 λi H2=>t o i v H2 λH3=>Q σ H3
theorem i8 {o i : Expr} {to ti : TE} {t : J6} (ho : PE X o to) (hi : PE X i ti) (hs : Ut X t)
    (ha : ∀ v, assign (.Subscript o i pos) X.env v = (do
      let ov <- holding [v] (eval o X.env)
      let iv <- holding [v, ov] (eval i X.env)
      standAt pos
      holding [v, ov, iv] (setItem ov iv v)
      release [v, ov, iv] []) := by intro _; rfl) : PG X (.Subscript o i pos) (VE to ti t) := by
  intro pins s σ H v u Q I r h;rw [ha];refine wpAny_bind (wpAny_holding (iI (ho pins s σ H _ I h) λov s1 #[x, H1, I1, r1, q1] => ?_));refine wpAny_bind (wpAny_holding (iI (hi pins s1 σ H1 _ I1 q1) λiv s2 #[y, H2, I2, r2, q2] => ?_));refine wpAny_bind (wpAny_standAt (wpAny_bind (wpAny_holding (iI (hs pins s2 σ H2 x y v ov iv u _ I2 r1 r2 r q2) λ_ s3 #[H3, I3, q3] => ?_))));exact wpAny_release #[σ, H3, I3, q3]
def MW (te:TE) (g:TG):TS:=λD σ H=>te σ H λx H1=>g x σ H1 D.nx
theorem gW {tg e:Expr} {te:TE} {g:TG} (he:PE X e te) (hg:PG X tg g) (hs:swapsWithSole [tg] e pos.line X.env=pure false:=by rfl) (hw:swappedStores [tg] e X.env=pure none:=by rfl)
  (h1:(assignEach [tg] X.env).map (·.2)=[assign tg X.env]:=by rfl):PS X (.Assign [tg] e pos) (MW te g):=by
 intro pins s σ H D I h;refine wpAny_Assign_stores (iI (he pins s σ H _ I h) λv s1 #[x,H1,I1,r1,q1]=>?_) hs hw;rw[h1];exact iI (hg pins s1 σ H1 x v _ I1 r1 q1) λ_ s2 q=>q
theorem TC {i:Nat} {x:Str} {e:Expr} {te:TE} {pos':Pos} (hN:X.N.Nodup) (hi:X.N[i]?=some x) (hx:Loc X.env.scope x) (he:PE X e te) (hs:swapsWith e (some (.Name x pos')) pos.line X.env=pure false:=by rfl) (hf:X.fn x=true\/X.env.scope.names.lookup x=some .local:=by first | exact .inl rfl | exact .inr rfl | assumption) :
  PS X (.Assign [.Name x pos'] e pos) (MW te (C2 i)):=by
 intro pins s σ H D I h;refine wpAny_Assign_Name (iI (he pins s σ H _ I h) λv s1 #[y,H1,I1,r1,q1]=>?_) hs;exact vR I1 hN hi hx r1 (λs2 I2=>#[_,H1,I2,q1]) hf
def UU (i j:Nat) (ta:TA):TS:=λD σ H=>ta σ H λvs H1=>∃v w,vs=[v,w]/\D.nx ((σ.set i (some v)).set j (some w)) H1
theorem NB {i j:Nat} {x y:Str} {a b:Expr} {ta:TA} {px py pt:Pos} {kt k2 pt2} (hc:X.calm=true) (hN:X.N.Nodup) (hi:X.N[i]?=some x) (hj:X.N[j]?=some y) (hij:i≠j)
  (hx:X.env.scope.names.lookup x=some .local) (hy:X.env.scope.names.lookup y=some .local) (ha:PA X [a,b] ta)
  (hw:swappedStores [.Tuple [.Name x px,.Name y py] kt pt] (.Tuple [a,b] k2 pt2) X.env=pure (some [x,y]))
  (hs:swapsWithSole [.Tuple [.Name x px,.Name y py] kt pt] (.Tuple [a,b] k2 pt2) pos.line X.env=pure false:=by rfl) :
  PS X (.Assign [.Tuple [.Name x px,.Name y py] kt pt] (.Tuple [a,b] k2 pt2) pos) (UU i j ta):=by
 intro pins s σ H D I h;rw[exec_Assign_arm];refine wpAny_bind (wpAny_standAt ?_);rw[hs];refine wpAny_bind (wpAny_pure ?_);rw[if_neg ()];refine wpAny_bind (Tuple_ (iI (ha _ pins s σ H _ I h) λus s1 #[vs,H1,I1,r1,q1]=>?_));obtain v|w|e1|q1:=q1;subst e1
 obtain ⟨u1,u2,rfl,rv,rw'⟩:∃u1 u2,us=[u1,u2]/\RelV v u1/\RelV w u2:=by
  cases r1 with
  | cons p q =>
   cases q with
   | cons p' q' =>
    cases q';exact #[_,_,rfl,p,p']
 refine wpAny_newObj_type ?_ (by show 2<=sizeLine;decide);have I2:Inv X pins σ H1 { s1 with heap:=s1.heap.push { cls:=.type "tuple",data:=.seq [u1,u2].5 } }:=I1.kept (t':=s1.toks) λb o e=>Heap.get?_push_of_some _ e
 rw[hw];refine wpAny_bind (wpAny_pure ?_);show wpAny (model X.prog X.w) X.A (do rule "assign.swapped-stores";let items <- unpackItems (.ref s1.6) 2 none;assignInOrder [λv=>bindName X.env y v,λv=>bindName X.env x v] items.reverse;pure Flow.next) _ _ _
 refine wpAny_bind (wpAny_rule (wpAny_bind (unpackItems_tuple (items:=[u1,u2].toArray) (I.ok.hd hc) (IsTup.new s1.heap _) λh' hx'=>?_)));have I3:=I2.kept (h':=h') (t':=s1.toks) λb o e=>hx' b o (cg (Heap.lt_size e)) e
 show wpAny _ _ (assignInOrder [λv=>bindName X.env y v,λv=>bindName X.env x v] [u2,u1] >>= λ_=>pure Flow.next) _ _ _
 refine wpAny_bind (assignInOrder_cons (wpAny_bindName (vR I3 hN hj (.inl hy) rw' (λs2 I4=>?_) (.inr hy))));refine assignInOrder_cons (wpAny_bindName (vR I4 hN hi (.inl hx) rv (λs3 I5=>assignInOrder_nil (wpAny_pure ?_)) (.inr hx)));rw[List.set_comm _ _ (Ne.symm hij)] at I5;exact #[_,H1,I5,q1]
def RP (to ti te:TE) (tget:V->V->Hp->VK->Prop) (tip:VM) (tset:J6):TS:=λD σ H=>to σ H λo H1=>ti σ H1 λi H2=>tget o i H2 λx H3=>te σ H3 λy H4=>tip x y H4 λz H5=>tset o i z H5 λH6=>D.nx σ H6
def VO (X:Cx) (t:V->V->Hp->VK->Prop):Prop :=
 ∀(pins:List (Addr×Obj)) (s:Shared) (σ:St) (H:Hp) (o i:V) (ov iv:Value) (Q:VK),Inv X pins σ H s->RelV o ov->RelV i iv->t o i H Q →
  wpAny (model X.prog X.w) X.A (getItem ov iv) (EP X pins σ Q) X.xe s
theorem Qq {o i e:Expr} {to ti te:TE} {tget:V->V->Hp->VK->Prop} {tip:VM} {tset:J6} {op:Operator} {tpos:Pos} (ho:PE X o to) (hi:PE X i ti) (hg:VO X tget) (he:PE X e te) (hp:PIp X op tip) (hs:Ut X tset)
  (ha:∀ov iv new,augStore i ov iv new=(do holding [new,ov,iv] (setItem ov iv new);release [new,ov,iv] [];pure .next):=by intros;rfl):PS X (.AugAssign (.Subscript o i tpos) op e pos) (RP to ti te tget tip tset):=by
 intro pins s σ H D I h;refine wpAny_AugAssign_SubscriptAny (iI (ho pins s σ H _ I h) λov s1 #[x1,H1,I1,r1,q1]=>?_) ha;refine iI (hi pins s1 σ H1 _ I1 q1) λiv s2 #[x2,H2,I2,r2,q2]=>?_
 refine iI (hg pins s2 σ H2 x1 x2 ov iv _ I2 r1 r2 q2) λold s3 #[x3,H3,I3,r3,q3]=>?_
 refine iI (he pins s3 σ H3 _ I3 q3) λv s4 #[x4,H4,I4,r4,q4]=>?_
 refine iI (hp pins s4 σ H4 x3 x4 old v _ I4 r3 r4 q4) λnew s5 #[x5,H5,I5,r5,q5]=>?_
 exact iI (hs pins s5 σ H5 x1 x2 x5 ov iv new _ I5 r1 r2 r5 q5) λ_ s6 #[H6,I6,q6]=>#[σ,H6,I6,q6]
def ipI (f:Int->Int->Int):VM:=λx y H Q=>∃i j,x=.int i/\y=.int j/\Q (.int (f i j)) H
theorem T7:PIp X .Add (ipI λi j=>i+j):=by
 intro pins s σ H x y v u Q I r1 r2 h;obtain i|j|e1|e2|q:=h;subst e1;subst e2;obtain t|rfl:=r1;obtain t'|rfl:=r2;exact iadd_int #[.int _,H,I.tok _,#[_,rfl],q]
end
section
variable {X:Cx} {pos:Pos}
def MT (c:TT) (tb:TS):TS:=λD σ H=>∃W:Nat->St->Hp->Prop,(∃m,W m σ H)/\∀m σ H,W m σ H →
 c σ H λb H1=>if b=true then ∃N:St->Hp->Prop,(∀σ' H',N σ' H'->∃m',m' < m/\W m' σ' H')/\tb { D with nx:=N,ct:=N,bk:=D.nx } σ H1 else D.nx σ H1
theorem Af (hp:PassesOwn (model X.prog X.w) X.A X.env X.xe) (hc:PT X c tc) (hb:IL X body tb):PS X (.While c body [] pos) (MT tc tb):=by
 intro pins s σ H D I h;obtain W|⟨m0,w0⟩|turn:=h;refine wpAny_While (codeAny_whileLoop (λn s'=>∃σ' H',Inv X pins σ' H' s'/\W n σ' H') ?_ m0 #[σ,H,I,w0]);rintro n s1 ⟨σ1,H1,I1,w1⟩;refine wpAny_passesOwn hp (iI (hc pins s1 σ1 H1 _ I1 (turn n σ1 H1 w1)) λb s2 #[H2,I2,q2]=>?_);cases b with
 | true =>
  obtain N|hN|q2:=q2;rw[if_pos rfl];refine wpAny_passesOwn hp (iI (hb pins s2 σ1 H2 _ I2 q2) λf s3 q3=>?_);cases f with
  | next =>
   obtain σ3|H3|I3|n3:=q3;obtain m'|hm|w3:=hN σ3 H3 n3;exact #[m',hm,σ3,H3,I3,w3]
  | cont =>
   obtain σ3|H3|I3|n3:=q3;obtain m'|hm|w3:=hN σ3 H3 n3;exact #[m',hm,σ3,H3,I3,w3]
  | brk=>exact q3
  | ret v=>exact q3
 | false =>
  rw[if_neg bf];exact wpAny_execs_nil #[σ1,H2,I2,q2]
end
structure It where
 go:Nat->Hp->Prop
 yld:Nat->Hp->V->Hp->Prop
 stop:Nat->Hp->Prop
def lY (X:Cx) (pins:List (Addr×Obj)) (H:Hp) (b:Addr):Prop :=
 H b=none/\b≠X.env.locals/\b∉X.fs/\(b∈X.ex\/X.s₀.6<=b)/\(∀x c,X.env.cells.lookup x=some c->c≠b)/\∀p∈X.pn++pins,p.1≠b
theorem Inv.fpOk {σ:St} {b:Addr} (I:Inv X pins σ H s) (hb:s.6<=b) (hn:H' b=none):lY X pins H' b:=by
 refine #[hn,Lh (bw I.lt hb),I.nofs hb,.inr (af I.sz hb),λx c e z=>?_,λp hp z=>?_]
 ·obtain v|q:=I.cell x c e;exact absurd (bw q.lt (by rw[z];exact hb)) (ff _)
 ·exact absurd (bw (Heap.lt_size (I.pin p hp).1) (by rw[z];exact hb)) (ff _)
structure Turn (P:Program) (w:World) (K:FG9) (tg:Expr) (J:It) (fp:List Addr) (it:Addr) (tn:Nat->Heap->Prop):Prop where
 mem:it∈fp
 obj:∀i h,tn i h->∀b∈fp,∃o,h.get? b=some o/\∀v,o.data≠.cell v
 keep:∀i h h',tn i h->(∀b∈fp,∀o,h.get? b=some o->h'.get? b=some o)->tn i h'
 item:∀(X:Cx),X.prog=P->X.w=w->X.K=K->X.calm=true->∀(i:Nat) (pins:List (Addr×Obj)) (s:Shared) (σ:St) (H:Hp) (E:Value->Shared->Prop),Inv X pins σ H s->(∀b∈fp,lY X pins H b)->tn i s.8->J.go i H →
  wpAny (model P w) X.A (pyNext (.ref it)) (λr s1=>∃u,r=some u /\
   wpAny (model P w) X.A (letOwnedTupleGo tg (.ref it) u) (λ_ s2=>∃x H',Inv X pins σ H' s2/\RelV x u/\J.yld i H x H'/\tn (i+1) s2.8/\∀b∈fp,H' b=none) E s1) E s
 done:∀(X:Cx),X.prog=P->X.w=w->X.K=K->X.calm=true->∀(i:Nat) (pins:List (Addr×Obj)) (s:Shared) (σ:St) (H:Hp) (E:Value->Shared->Prop),Inv X pins σ H s->(∀b∈fp,lY X pins H b)->tn i s.8->J.stop i H →
  wpAny (model P w) X.A (pyNext (.ref it)) (λr s1=>r=none/\Inv X pins σ H s1) E s
 self:∀(A:Around) (i:Nat) (s:Shared) (Q:Value->Shared->Prop) (E:Value->Shared->Prop),tn i s.8->Q (.ref it) s->wpAny (model P w) A (pyIter (.ref it)) Q E s
abbrev TI:=St->Hp->(It->Hp->Prop)->Prop
def PIE (X:Cx) (pins:List (Addr×Obj)) (σ:St) (tg:Expr) (R:It->Hp->Prop) (itv:Value) (s2:Shared):Prop :=
 ∃(it:Addr) (fp:List Addr) (tn:Nat->Heap->Prop) (J:It) (H':Hp),itv=.ref it/\Inv X pins σ H' s2/\Turn X.prog X.w X.K tg J fp it tn/\tn 0 s2.8/\(∀b∈fp,lY X pins H' b)/\R J H'
def PI (X:Cx) (tg iter:Expr) (wi:TI):Prop :=
 ∀(pins:List (Addr×Obj)) (s:Shared) (σ:St) (H:Hp) (R:It->Hp->Prop),Inv X pins σ H s->wi σ H R →
  wpAny (model X.prog X.w) X.A (eval iter X.env) (λv s1=>wpAny (model X.prog X.w) X.A (pyIter v) (PIE X pins σ tg R) X.xe s1) X.xe s
theorem KW (ho:s.heap.get? it=some o) (hc:o.cls=.type n) (hd:o.data=.fields vs)
  (hn:["enumerate","zip","dict_itemiterator","dict_reverseitemiterator","odict_iterator","itertools.zip_longest","itertools.pairwise"].contains n=false) (hQ:Q .unit s):wpAny M A (letOwnedTupleGo tg (.ref it) u) Q E s:=by
 unfold letOwnedTupleGo
 cases tg <;> first
  | exact wpAny_pure hQ
  | (cases u <;> first | exact wpAny_pure hQ | (refine wpAny_bind (wpAny_load ho ?_);rw[hc,hd];show wpAny M A (if (["enumerate","zip","dict_itemiterator","dict_reverseitemiterator","odict_iterator","itertools.zip_longest","itertools.pairwise"].contains n && vs[0]? == some (rawInt _))=true then _ else _) Q E s;rw[if_neg (by intro h;rw[hn,Bool.false_and] at h;cases h)];exact wpAny_pure hQ))
def RD (K:FG9) (a:Addr):It :=
 #[λi H=>∃xs x,bC K H a xs/\xs[i]?=some x,λi H x H'=>H'=H/\∀xs,bC K H a xs->xs[i]?=some x,λi H=>∃xs,bC K H a xs/\xs.9<=i]
def RC (K:FG9) (a:Addr):It :=
 #[λi H=>∃xs x,j8 K H a xs/\xs[i]?=some x,λi H x H'=>H'=H/\∀xs,j8 K H a xs->xs[i]?=some x,λi H=>∃xs,j8 K H a xs/\xs.9<=i]
def IM (lo:Int) (n:Nat):It:=#[λi _=>i < n,λi H x H'=>H'=H/\x=.int (lo+i),λi _=>n<=i]
theorem Cs {P:Program} {w:World} {K:FG9} {tg:Expr} (a it:Addr):Turn P w K tg (RD K a) [it] it (λi h=>h.IsListIter it a i) where
 mem:=by simp
 obj:=λi h st b hb=>by
  have e:b=it:=by simpa using hb
  subst e;obtain o|e|c|d:=st;exact #[o,e,λv z=>by rw[d] at z;cases z]
 keep:=λi h h' st k=>st.at λo e=>k it (by simp) o e
 item:=by
  intro X hP hw hK hc i pins s σ H E I hf st hg;subst hP hw hK;obtain xs|x|hq|hx:=hg;obtain its|rv|p|hz:=I.list hq;obtain u|hu|ru:=rv.get hx;obtain f0|f1|f2|f3|f4|f5:=hf it (by simp);refine wpAny_pyNext_list_item st p.isList (x:=u) (by simpa using hu) λh' st' sb=>?_
  have I1:Inv X pins σ H { s with heap:=h' }:=I.turned (t':=s.toks) (λb o hb e=>(sb.2 b hb).trans e) f0 f1 f3 f4 f5;obtain o|e|c|d:=id st';exact #[u,rfl,KW (s:={ s with heap:=h' }) e c d () ⟨x,H,I1,ru,⟨rfl,λys hy=>by rw[I.list_inj hy hq];exact hx⟩,st',λb hb=>(hf b hb).1⟩]
 done:=by
  intro X hP hw hK hc i pins s σ H E I hf st hg;subst hP hw hK;obtain xs|hq|hx:=hg;obtain its|rv|p|hz:=I.list hq;obtain f0|f1|f2|f3|f4|f5:=hf it (by simp);have hl:=rv.9;exact wpAny_pyNext_list_end (I.ok.hd hc) st p.isList (by simp;lia) λh' eb=>#[rfl,I.turned (t':=s.toks) (λb o hb e=>eb b o hb e) f0 f1 f3 f4 f5]
 self:=λ_ _ _ _ _ st h=>wpAny_pyIter_listiter st h
theorem zf {P:Program} {w:World} {K:FG9} {tg:Expr} (a it:Addr):Turn P w K tg (RC K a) [it] it (λi h=>h.IsTupleIter it a i) where
 mem:=by simp
 obj:=λi h st b hb=>by
  have e:b=it:=by simpa using hb
  subst e;obtain o|e|c|d:=st;exact #[o,e,λv z=>by rw[d] at z;cases z]
 keep:=λi h h' st k=>st.at λo e=>k it (by simp) o e
 item:=by
  intro X hP hw hK hc i pins s σ H E I hf st hg;subst hP hw hK;obtain xs|x|hq|hx:=hg;obtain its|rv|p|hz:=I.tuple hq;obtain u|hu|ru:=rv.get hx;obtain f0|f1|f2|f3|f4|f5:=hf it (by simp);refine wpAny_pyNext_tuple_item st (show s.heap.IsTuple a its.toArray from p) (x:=u) (by simpa using hu) λh' st' sb=>?_
  have I1:Inv X pins σ H { s with heap:=h' }:=I.turned (t':=s.toks) (λb o hb e=>(sb.2 b hb).trans e) f0 f1 f3 f4 f5;obtain o|e|c|d:=id st';exact #[u,rfl,KW (s:={ s with heap:=h' }) e c d () ⟨x,H,I1,ru,⟨rfl,λys hy=>by rw[I.tuple_inj hy hq];exact hx⟩,st',λb hb=>(hf b hb).1⟩]
 done:=by
  intro X hP hw hK hc i pins s σ H E I hf st hg;subst hP hw hK;obtain xs|hq|hx:=hg;obtain its|rv|p|hz:=I.tuple hq;obtain f0|f1|f2|f3|f4|f5:=hf it (by simp);have hl:=rv.9;exact wpAny_pyNext_tuple_end (I.ok.hd hc) st (show s.heap.IsTuple a its.toArray from p) (by simp;lia) λh' eb=>#[rfl,I.turned (t':=s.toks) (λb o hb e=>eb b o hb e) f0 f1 f3 f4 f5]
 self:=λ_ _ _ _ _ st h=>wpAny_pyIter_tupleiter st h
theorem IW {P:Program} {w:World} {K:FG9} {tg:Expr} (it:Addr) (lo:Int) (n:Nat):Turn P w K tg (IM lo n) [it] it (λi h=>IsRangeIter h it (lo+(i:Nat)*1) ((n:Int) - (i:Nat)) 1) where
 mem:=by simp
 obj:=λi h st b hb=>by
  have e:b=it:=by simpa using hb
  subst e
  exact #[_,st,λv z=>by
   have z':Data.fields _=Data.cell v:=z;cases z']
 keep:=λi h h' st k=>k it (by simp) _ st
 item:=by
  intro X hP hw hK hc i pins s σ H E I hf st hg;subst hP hw hK;obtain f0|f1|f2|f3|f4|f5:=hf it (by simp);have W:=Walks.range (prog:=X.prog) (w:=X.w) (I.ok.hd hc) it lo 1 n;refine W.item i s _ _ hg st λv h' tk hv st' kk=>?_
  obtain t|rfl:=hv;have I1:Inv X pins σ H { s with heap:=h',toks:=tk }:=I.turned (λb o hb e=>kk b o (by simpa using hb) e) f0 f1 f3 f4 f5;refine #[_,rfl,KW (s:={ s with heap:=h',toks:=tk }) (n:="range_iterator") st' rfl rfl () ⟨.int (lo+i),H,I1,⟨t,?_⟩,⟨rfl,rfl⟩,st',λb hb=>(hf b hb).1⟩];rw[Int.mul_one]
 done:=by
  intro X hP hw hK hc i pins s σ H E I hf st hg;subst hP hw hK;obtain f0|f1|f2|f3|f4|f5:=hf it (by simp);exact wpAny_pyNext_range_end (I.ok.hd hc) st (by have:n<=i:=hg;lia) λh' eb=>#[rfl,I.turned (t':=s.toks) (λb o hb e=>eb b o hb e) f0 f1 f3 f4 f5]
 self:=λ_ _ _ _ _ st h=>wpAny_pyIter_rangeiter st h
section
variable {X:Cx} {tg:Expr}
def Oh (K:FG9) (tl:TE):TI:=λσ H R=>tl σ H λx H1=>∃a,x=.ref a/\(∃xs,bC K H1 a xs)/\R (RD K a) H1
def VC (K:FG9) (tl:TE):TI:=λσ H R=>tl σ H λx H1=>∃a,x=.ref a/\(∃xs,j8 K H1 a xs)/\R (RC K a) H1
theorem cC (hl:PE X l tl):PI X tg l (Oh X.K tl):=by
 intro pins s σ H R I h;refine iI (hl pins s σ H _ I h) λv s1 #[x,H1,I1,r1,q1]=>?_
 obtain a|e|⟨xs,hq⟩|q:=q1;subst e;cases r1;obtain its|rv|p|hz:=I1.list hq;refine wpAny_pyIter_list p.isList ?_;refine #[s1.6,[s1.6],_,_,H1,rfl,I1.kept (t':=s1.toks) λb o e=>Heap.get?_push_of_some _ e,Cs a _,#[_,Heap.get?_push_size _ rfl,rfl,rfl],λb hb=>?_,q];have e:b=s1.6:=by simpa using hb
 subst e;exact I1.fpOk (ah _) (I1.hok.fresh (ah _))
theorem NG (hl:PE X l tl):PI X tg l (VC X.K tl):=by
 intro pins s σ H R I h;refine iI (hl pins s σ H _ I h) λv s1 #[x,H1,I1,r1,q1]=>?_
 obtain a|e|⟨xs,hq⟩|q:=q1;subst e;cases r1;obtain its|rv|p|hz:=I1.tuple hq;refine wpAny_pyIter_tuple (show s1.heap.IsTuple a its.toArray from p) ?_;refine #[s1.6,[s1.6],_,_,H1,rfl,I1.kept (t':=s1.toks) λb o e=>Heap.get?_push_of_some _ e,zf a _,#[_,Heap.get?_push_size _ rfl,rfl,rfl],λb hb=>?_,q];have e:b=s1.6:=by simpa using hb
 subst e;exact I1.fpOk (ah _) (I1.hok.fresh (ah _))
theorem Gj {σ:St} {lo hi:Int} (I:Inv X pins σ H s) (h1:-(2^62)<=lo) (h2:lo < 2^62) (h3:-(2^62)<=hi) (h4:hi < 2^62)
  (q:R (IM lo (hi - lo).toNat) H):wpAny (model X.prog X.w) X.A (pyIter (.ref s.6)) (PIE X pins σ tg R) E { s with heap:=s.heap.push { cls:=.type "range",data:=.fields [.int lo t,.int hi u,.int 1 v].toArray },toks:=tk }:=by
 refine wpAny_pyIter_range (IsRange.new ..) (small_one h1 h2 h3 h4) ?_;have I1:Inv X pins σ H { s with heap:=s.heap.push { cls:=.type "range",data:=.fields [.int lo t,.int hi u,.int 1 v].toArray },toks:=tk }:=I.kept λb o e=>Heap.get?_push_of_some _ e
 refine #[(s.heap.push { cls:=.type "range",data:=.fields [.int lo t,.int hi u,.int 1 v].toArray }).objs.size,[(s.heap.push { cls:=.type "range",data:=.fields [.int lo t,.int hi u,.int 1 v].toArray }).objs.size],_,_,H,rfl,
  I1.kept (t':=tk) λb o e=>Heap.get?_push_of_some _ e,IW _ lo (hi - lo).toNat,?_,λb hb=>?_,q]
 ·have e1:lo+((0:Nat):Int)*1=lo:=by simp
  have e2:(((hi - lo).toNat:Nat):Int) - ((0:Nat):Int)=Builtin.Range.rangeSize lo hi 1:=by rw[rangeSize_one];split <;> lia
  show IsRangeIter _ _ (lo+((0:Nat):Int)*1) ((((hi - lo).toNat:Nat):Int) - ((0:Nat):Int)) 1
  rw[e1,e2];exact Heap.get?_push_size _ rfl
 ·have e:b=(s.heap.push { cls:=.type "range",data:=.fields [.int lo t,.int hi u,.int 1 v].toArray }).objs.size:=by simpa using hb
  subst e;exact I1.fpOk (ah _) (I1.hok.fresh (ah _))
def Sd (ta:TA):TI:=λσ H R=>ta σ H λvs H1=>∃j:Int,vs=[.int j]/\-(2^62)<=j/\j < 2^62/\R (IM 0 j.toNat) H1
def Sb (ta:TA):TI:=λσ H R=>ta σ H λvs H1=>∃i j:Int,vs=[.int i,.int j]/\(-(2^62)<=i/\i < 2^62/\-(2^62)<=j/\j < 2^62)/\R (IM i (j - i).toNat) H1
theorem cu {a:Expr} {ta:TA} {p pos:Pos} (hg:Gl X "range") (hm:X.mg "range"=none) (ha:PA X [a] ta) (hs:starEach [a] X.env=[(false,eval a X.env)]:=by rfl):PI X tg (.Call (.Name "range" p) [a] [] pos) (Sd ta):=by
 intro pins s σ H R I h;refine Call_ (k9 I hg hm boot_range (PyProof.Rows.callWith_type1 (iI (ha pos pins s σ H _ I h) λus s1 #[vs,H1,I1,r1,q1]=>?_) hs rfl));obtain j|e|q1|q2|q:=q1;subst e;cases r1 with
 | cons r rr =>
  cases rr;obtain t|rfl:=r;exact call_range_1 (Gj I1 () () q1 q2 (by simpa using q))
theorem LI {a b:Expr} {ta:TA} {p pos:Pos} (hg:Gl X "range") (hm:X.mg "range"=none) (ha:PA X [a,b] ta) (hs:starEach [a,b] X.env=[(false,eval a X.env),(false,eval b X.env)]:=by rfl) (hs2:starEach [b] X.env=[(false,eval b X.env)]:=by rfl) :
  PI X tg (.Call (.Name "range" p) [a,b] [] pos) (Sb ta):=by
 intro pins s σ H R I h;refine Call_ (k9 I hg hm boot_range (PyProof.Rows.callWith_type1 (iI (ha pos pins s σ H _ I h) λus s1 #[vs,H1,I1,r1,q1]=>?_) (by rw[hs,hs2]) (by rw[hs2];rfl)));obtain i|j|e|⟨q1,q2,q3,q4⟩|q:=q1;subst e;cases r1 with
 | cons r rr =>
  cases rr with
  | cons r' rr =>
   cases rr;obtain t|rfl:=r;obtain t'|rfl:=r';exact call_range_2 (Gj I1 q1 q2 q3 q4 q)
def U0 (wi:TI) (g:TG) (tb:TS):TS:=λD σ H=>wi σ H λJ H1=>∃W:Nat->Nat->St->Hp->Prop,(∃m,W 0 m σ H1)/\∀i m σ H,W i m σ H →
 (J.stop i H/\D.nx σ H)\/(J.go i H/\∃N:St->Hp->Prop,(∀σ' H',N σ' H'->∃m',m' < m/\W (i+1) m' σ' H')/\∀x H',J.yld i H x H'->g x σ H' λσ2 H2=>tb { D with nx:=N,ct:=N,bk:=D.nx } σ2 H2)
def Ah (fp:List Addr) (h:Heap):List (Addr×Obj):=fp.filterMap λb=>(h.get? b).map λo=>(b,o)
theorem rh (hb:b∈fp) (e:h.get? b=some o):(b,o)∈Ah fp h:=List.mem_filterMap.mpr #[b,hb,by rw[e];rfl]
theorem LP (hp:p∈Ah fp h):p.1∈fp/\h.get? p.1=some p.2:=by
 obtain b|hb|e:=List.mem_filterMap.mp hp;cases q:h.get? b with
 | none=>rw[q] at e;cases e
 | some o =>
  rw[q] at e;have e':(b,o)=p:=cp e;subst e';exact #[hb,q]
theorem Inv.pinned {σ:St} (I:Inv X pins σ H s) (hf:∀b∈fp,lY X pins H b) (ho:∀b∈fp,∃o,s.heap.get? b=some o/\∀v,o.data≠.cell v):Inv X (pins++Ah fp s.8) σ H s :=
 I.pins_of λp hp=>(av.mp hp).elim (λz=>I.pin p (bB _ z)) λz=>by
  obtain hb|e:=LP z;obtain f0|f1|f2|_:=hf p.1 hb;obtain o|e'|d:=ho p.1 hb;rw[e] at e';cases e';exact #[e,f0,f1,f2,d]
theorem Inv.unpinned {σ:St} (I:Inv X (pins++pl) σ H s):Inv X pins σ H s:=I.pins_of λp hp=>I.pin p (bB _ (dM _ hp))
theorem dF {iter:Expr} {body:List Stmt} {wi:TI} {g:TG} {tb:TS} {pos:Pos} (hp:PassesOwn (model X.prog X.w) X.A X.env X.xe) (hc:X.calm=true) (hi:PI X tg iter wi) (hg:PG X tg g) (hb:IL X body tb)
  (hs:∀x,foldedSetIterable iter X.env x=pure x:=by intro _;rfl):PS X (.For tg iter body [] pos) (U0 wi g tb):=by
 intro pins s σ H D I h;refine wpAny_For (iI (hi pins s σ H _ I h) λv s1 h1=>iI h1 λitv s2 h2=>?_) hs;obtain it|fp|tn|J|H2|e|I2|T|st2|f2|W|⟨m0,w0⟩|turn:=h2;subst e;have stat:∀{H':Hp},(∀b∈fp,H' b=none)->∀b∈fp,lY X pins H' b:=λhn b hb=>#[hn b hb,(f2 b hb).2]
 refine codeAny_forLoop_any (λn s'=>∃i σ' H',Inv X pins σ' H' s'/\tn i s'.8/\(∀b∈fp,H' b=none)/\W i n σ' H') ?_ m0 #[0,σ,H2,I2,st2,λb hb=>(f2 b hb).1,w0];rintro n s3 ⟨i,σ3,H3,I3,st3,fr3,w3⟩;rcases turn i n σ3 H3 w3 with ⟨stop,qn⟩ | ⟨go,N,hN,step⟩
 ·refine wpAny_passesOwn hp (iI (T.done X rfl rfl rfl hc i pins s3 σ3 H3 X.xe I3 (stat fr3) st3 stop) λr s4 #[hr,I4]=>?_);subst hr;exact wpAny_execs_nil #[σ3,H3,I4,qn]
 ·refine wpAny_passesOwn hp (iI (T.item X rfl rfl rfl hc i pins s3 σ3 H3 X.xe I3 (stat fr3) st3 go) λr s4 #[u,hr,h4]=>?_);subst hr;refine wpAny_passesOwn hp (iI h4 λ_ s5 #[x,H5,I5,r5,y5,st5,fr5]=>?_);have I5':=I5.pinned (stat fr5) (T.obj _ _ st5);refine wpAny_passesOwn hp (iI (hg _ s5 σ3 H5 x u _ I5' r5 (step x H5 y5)) λ_ s6 #[σ6,H6,I6,q6]=>?_);refine wpAny_passesOwn hp (iI (hb _ s6 σ6 H6 _ I6 q6) λf s7 q7=>?_)
  have again:∀{σ7:St} {H7:Hp},Inv X (pins++Ah fp s5.8) σ7 H7 s7->N σ7 H7->∃m,m < n/\∃i σ' H',Inv X pins σ' H' s7/\tn i s7.8/\(∀b∈fp,H' b=none)/\W i m σ' H':=λ{σ7 H7} I7 n7=>by
   obtain m'|hm|w7:=hN σ7 H7 n7;refine #[m',hm,i+1,σ7,H7,I7.unpinned,T.keep _ _ _ st5 λb hb o e=>(I7.pin (b,o) (bB _ (bB _ (rh hb e)))).1,λb hb=>?_,w7];obtain o|e|d:=T.obj _ _ st5 b hb;exact (I7.pin (b,o) (bB _ (bB _ (rh hb e)))).2.1
  cases f with
  | next=>obtain σ7|H7|I7|n7:=q7;exact again I7 n7
  | cont=>obtain σ7|H7|I7|n7:=q7;exact again I7 n7
  | brk=>obtain σ7|H7|I7|q7:=q7;exact #[σ7,H7,I7.unpinned,q7]
  | ret v=>obtain x7|σ7|H7|I7|r7|q7:=q7;exact #[x7,σ7,H7,I7.unpinned,r7,q7]
end
theorem gP {K:FG9} {g:TG} {tb:TS} {D:Ends} (Pv:Nat->St->Hp->Prop) (h0:Pv 0 σ H) (hl:∀i σ H,i<=xs.9->Pv i σ H->bC K H a xs)
  (hs:∀i x σ H,xs[i]?=some x->Pv i σ H->g x σ H λσ2 H2=>tb { D with nx:=Pv (i+1),ct:=Pv (i+1),bk:=D.nx } σ2 H2) (hd:∀σ H,Pv xs.9 σ H->D.nx σ H) :
  ∃W:Nat->Nat->St->Hp->Prop,(∃m,W 0 m σ H)/\∀i m σ H,W i m σ H →
   ((RD K a).stop i H/\D.nx σ H)\/((RD K a).go i H/\∃N:St->Hp->Prop,(∀σ' H',N σ' H'->∃m',m' < m/\W (i+1) m' σ' H')/\∀x H',(RD K a).yld i H x H'->g x σ H' λσ2 H2=>tb { D with nx:=N,ct:=N,bk:=D.nx } σ2 H2):=by
 refine #[λi m σ H=>m=xs.9 - i/\i<=xs.9/\Pv i σ H,#[xs.9,by simp,aW _,h0],?_];rintro i m σ H ⟨rfl,hi,p⟩;have q:=hl i σ H hi p;by_cases hlt:i < xs.9
 ·refine .inr #[#[xs,xs[i],q,by simp [hlt]],Pv (i+1),λσ' H' p'=>#[xs.9 - (i+1),(),rfl,hlt,p'],λx H' y=>?_];obtain e|y:=y;subst e;exact hs i x σ _ (y xs q) p
 ·have e:i=xs.9:=()
  subst e;exact .inl #[#[xs,q,ah _],hd σ H p]
theorem EA {K:FG9} {g:TG} {tb:TS} {D:Ends} (Pv:Nat->St->Hp->Prop) (h0:Pv 0 σ H) (hl:∀i σ H,i<=xs.9->Pv i σ H->j8 K H a xs)
  (hs:∀i x σ H,xs[i]?=some x->Pv i σ H->g x σ H λσ2 H2=>tb { D with nx:=Pv (i+1),ct:=Pv (i+1),bk:=D.nx } σ2 H2) (hd:∀σ H,Pv xs.9 σ H->D.nx σ H) :
  ∃W:Nat->Nat->St->Hp->Prop,(∃m,W 0 m σ H)/\∀i m σ H,W i m σ H →
   ((RC K a).stop i H/\D.nx σ H)\/((RC K a).go i H/\∃N:St->Hp->Prop,(∀σ' H',N σ' H'->∃m',m' < m/\W (i+1) m' σ' H')/\∀x H',(RC K a).yld i H x H'->g x σ H' λσ2 H2=>tb { D with nx:=N,ct:=N,bk:=D.nx } σ2 H2):=by
 refine #[λi m σ H=>m=xs.9 - i/\i<=xs.9/\Pv i σ H,#[xs.9,by simp,aW _,h0],?_];rintro i m σ H ⟨rfl,hi,p⟩;have q:=hl i σ H hi p;by_cases hlt:i < xs.9
 ·refine .inr #[#[xs,xs[i],q,by simp [hlt]],Pv (i+1),λσ' H' p'=>#[xs.9 - (i+1),(),rfl,hlt,p'],λx H' y=>?_];obtain e|y:=y;subst e;exact hs i x σ _ (y xs q) p
 ·have e:i=xs.9:=()
  subst e;exact .inl #[#[xs,q,ah _],hd σ H p]
theorem C3 {lo:Int} {g:TG} {tb:TS} {D:Ends} (Pv:Nat->St->Hp->Prop) (h0:Pv 0 σ H)
  (hs:∀i σ H,i < n->Pv i σ H->g (.int (lo+i)) σ H λσ2 H2=>tb { D with nx:=Pv (i+1),ct:=Pv (i+1),bk:=D.nx } σ2 H2) (hd:∀σ H,Pv n σ H->D.nx σ H) :
  ∃W:Nat->Nat->St->Hp->Prop,(∃m,W 0 m σ H)/\∀i m σ H,W i m σ H →
   ((IM lo n).stop i H/\D.nx σ H)\/((IM lo n).go i H/\∃N:St->Hp->Prop,(∀σ' H',N σ' H'->∃m',m' < m/\W (i+1) m' σ' H')/\∀x H',(IM lo n).yld i H x H'->g x σ H' λσ2 H2=>tb { D with nx:=N,ct:=N,bk:=D.nx } σ2 H2):=by
 refine #[λi m σ H=>m=n - i/\i<=n/\Pv i σ H,#[n,by simp,aW _,h0],?_];rintro i m σ H ⟨rfl,hi,p⟩;by_cases hlt:i < n
 ·refine .inr #[hlt,Pv (i+1),λσ' H' p'=>#[n - (i+1),(),rfl,hlt,p'],λx H' y=>?_];obtain e|y:=y;subst e y;exact hs i σ _ hlt p
 ·have e:i=n:=()
  subst e;exact .inl #[ah _,hd σ H p]
abbrev R2:=V->V->Hp->VK->Prop
def yT (X:Cx) (f:Value->Value->Sem Value) (r:R2):Prop :=
 ∀(pins:List (Addr×Obj)) (s:Shared) (σ:St) (H:Hp) (x y:V) (v u:Value) (Q:VK),Inv X pins σ H s->RelV x v->RelV y u->r x y H Q →
  wpAny (model X.prog X.w) X.A (f v u) (EP X pins σ Q) X.xe s
def Wp (X:Cx) (f:Value->Sem Value) (r:V->Hp->VK->Prop):Prop :=
 ∀(pins:List (Addr×Obj)) (s:Shared) (σ:St) (H:Hp) (x:V) (v:Value) (Q:VK),Inv X pins σ H s->RelV x v->r x H Q →
  wpAny (model X.prog X.w) X.A (f v) (EP X pins σ Q) X.xe s
def o5 (X:Cx) (f:Value) (r:List V->Hp->VK->Prop):Prop :=
 ∀(pins:List (Addr×Obj)) (s:Shared) (σ:St) (H:Hp) (xs:List V) (us:List Value) (Q:VK),Inv X pins σ H s->cS xs us->r xs H Q →
  wpAny (model X.prog X.w) X.A (call f us) (EP X pins σ Q) X.xe s
def UW (r:R2) (ta tb:TE):TE:=λσ H Q=>ta σ H λx H1=>tb σ H1 λy H2=>r x y H2 Q
def V3 (r:V->Hp->VK->Prop) (ta:TE):TE:=λσ H Q=>ta σ H λx H1=>r x H1 Q
def rI (C:Int->Int->Prop) (g:Int->Int->V):R2:=λx y H Q=>∃i j,x=.int i/\y=.int j/\C i j/\Q (g i j) H
def Qn (g:Int->Int->V):R2:=λx y H Q=>∃i j,x=.int i/\y=.int j/\Q (g i j) H
def rU (g:Int->V):V->Hp->VK->Prop:=λx H Q=>∃i,x=.int i/\Q (g i) H
section
variable {X:Cx} {a b c:Expr} {ta tb tc:TE} {pos:Pos}
theorem Uo (ha:PE X a ta) (hb:PE X b tb) {σ:St} {R:V->V->Hp->Prop} (I:Inv X pins σ H s)
  (h:ta σ H λx H1=>tb σ H1 λy H2=>R x y H2) {f:Value->Value->Sem Value}
  (hf:∀v u s2 x y H2,Inv X pins σ H2 s2->RelV x v->RelV y u->R x y H2->wpAny (model X.prog X.w) X.A (f v u) Q X.xe s2) :
  wpAny (model X.prog X.w) X.A (eval a X.env) (λv s₁=>wpAny (model X.prog X.w) X.A (eval b X.env) (λu s₂=>wpAny (model X.prog X.w) X.A (f v u) Q X.xe s₂) X.xe s₁) X.xe s:=by
 refine iI (ha pins s σ H _ I h) λv s1 #[x,H1,I1,r1,q1]=>?_
 refine iI (hb pins s1 σ H1 _ I1 q1) λu s2 #[y,H2,I2,r2,q2]=>?_
 exact hf v u s2 x y H2 I2 r1 r2 q2
theorem bD (ho:yT X (binaryOp op) r) (ha:PE X a ta) (hb:PE X b tb):PE X (.BinOp a op b pos) (UW r ta tb):=by
 intro pins s σ H Q I h;exact wpAny_BinOp (Uo ha hb I h λv u s2 x y H2 I2 rx ry q=>ho pins s2 σ H2 x y v u Q I2 rx ry q)
theorem yj (ho:Wp X (unaryOp op) r) (ha:PE X a ta):PE X (.UnaryOp op a pos) (V3 r ta):=by
 intro pins s σ H Q I h;exact UnaryOp_ (iI (ha pins s σ H _ I h) λv s1 #[x,H1,I1,r1,q1]=>ho pins s1 σ H1 x v Q I1 r1 q1)
theorem Wj {g:Int->Int->Int}
  (rule:∀(i j:Int) (t u:Tok) (s:Shared) (Q:Value->Shared->Prop) (E:Value->Shared->Prop),C i j->Q (.int (g i j) s.toks) { s with toks:=s.toks+1 }->wpAny (model X.prog X.w) X.A (f (.int i t) (.int j u)) Q E s) :
  yT X f (rI C λi j=>.int (g i j)):=by
 intro pins s σ H x y v u Q I rx ry h;obtain i|j|rfl|rfl|hc|q:=h;obtain t|rfl:=rx;obtain t'|rfl:=ry;exact rule i j t t' s _ _ hc #[.int (g i j),H,I.tok _,#[_,rfl],q]
theorem Vr {g:Int->Int->Int}
  (rule:∀(i j:Int) (t u:Tok) (s:Shared) (Q:Value->Shared->Prop) (E:Value->Shared->Prop),Q (.int (g i j) s.toks) { s with toks:=s.toks+1 }->wpAny (model X.prog X.w) X.A (f (.int i t) (.int j u)) Q E s) :
  yT X f (Qn λi j=>.int (g i j)):=by
 intro pins s σ H x y v u Q I rx ry h;obtain i|j|rfl|rfl|q:=h;obtain t|rfl:=rx;obtain t'|rfl:=ry;exact rule i j t t' s _ _ #[.int (g i j),H,I.tok _,#[_,rfl],q]
theorem Qz {g:Int->Int->Bool}
  (rule:∀(i j:Int) (t u:Tok) (s:Shared) (Q:Value->Shared->Prop) (E:Value->Shared->Prop),Q (.bool (g i j)) s->wpAny (model X.prog X.w) X.A (f (.int i t) (.int j u)) Q E s) :
  yT X f (Qn λi j=>.bl (g i j)):=by
 intro pins s σ H x y v u Q I rx ry h;obtain i|j|rfl|rfl|q:=h;obtain t|rfl:=rx;obtain t'|rfl:=ry;exact rule i j t t' s _ _ #[.bl (g i j),H,I,rfl,q]
def Uy (i j:Int):Prop:=(-(2^64) < i/\i < 2^64)\/(-(2^64) < j/\j < 2^64)
theorem Uy.ok (h:Uy i j):IntMulOk i j:=by
 rcases h with ⟨h1,h2⟩ | ⟨h1,h2⟩
 ·exact .of_left (intBits_le_64 h1 h2)
 ·exact .of_right (intBits_le_64 h1 h2)
theorem fV:yT X (binaryOp .Add) (Qn λi j=>.int (i+j)):=Vr λ_ _ _ _ _ _ _ q=>add_int q
theorem jz:yT X (binaryOp .Sub) (Qn λi j=>.int (i - j)):=Vr λ_ _ _ _ _ _ _ q=>sub_int q
theorem pN:yT X (binaryOp .Mod) (rI (λ_ j=>0 < j) λi j=>.int (i % j)):=Wj λi j _ _ _ _ _ hc q=>by
 have h1:(0:Int) < j:=hc;exact mod_int' () (by rw[Int.fmod_eq_emod_of_nonneg i ()];exact q)
theorem Qy:yT X (binaryOp .Mod) (rI (λ_ j=>j≠0) λi j=>.int (i.fmod j)):=Wj λ_ _ _ _ _ _ _ hc q=>mod_int' hc q
theorem unI {g:Int->Int}
  (rule:∀(i:Int) (t:Tok) (s:Shared) (Q:Value->Shared->Prop) (E:Value->Shared->Prop),Q (.int (g i) s.toks) { s with toks:=s.toks+1 }->wpAny (model X.prog X.w) X.A (f (.int i t)) Q E s) :
  Wp X f (rU λi=>.int (g i)):=by
 intro pins s σ H x v Q I rx h;obtain i|rfl|q:=h;obtain t|rfl:=rx;exact rule i t s _ _ #[.int (g i),H,I.tok _,#[_,rfl],q]
theorem so:Wp X (unaryOp .USub) (rU λi=>.int (-i)):=unI λ_ _ _ _ _ q=>neg_int q
end
def U7:V->V->Bool
 | .non,.non=>true | .non,.int _=>true | .int _,.non=>true | .non,.bl _=>true | .bl _,.non=>true | .non,.str _=>true | .str _,.non=>true
 | .int _,.int _=>true | .bl _,.bl _=>true | .str _,.str _=>true | .byt _,.byt _=>true
 | .int _,.str _=>true | .str _,.int _=>true | .bl _,.str _=>true | .str _,.bl _=>true
 | _,_=>false
def Wi:R2:=λx y H Q=>U7 x y=true/\Q (.bl (decide (x=y))) H
def Wh:R2:=λx y H Q=>U7 x y=true/\Q (.bl (!decide (x=y))) H
theorem K8:decide (V.int i=V.int j)=(i == j):=by
 rw[nX];simp
theorem OH:decide (V.bl i=V.bl j)=(i == j):=by
 rw[nX];simp
theorem K7:decide (V.str i=V.str j)=(i == j):=by
 rw[nX];simp
theorem K9:decide (V.byt i=V.byt j)=(i.toList == j.toList):=by
 rw[nX];cases i;cases j;simp
section
variable {X:Cx} {a b c:Expr} {ta tb tc:TE} {pos:Pos}
theorem dP {σ:St} (I:Inv X pins σ H s) (q:Q (.bl k) H) (e:k=k'):EP X pins σ Q (.bool k') s:=by
 subst e;exact #[.bl k,H,I,rfl,q]
theorem fj:yT X (compareOp .Eq) Wi:=by
 intro pins s σ H x y v u Q I rx ry h;obtain hs|q:=h;cases x with
 | non =>
  cases rx;cases y with
  | non=>cases ry;exact PySem.EqNone.eq_none_none (dP I q (by simp))
  | bl j=>cases ry;exact PySem.EqNone.eq_none_bool (dP I q (by simp))
  | int j=>obtain t'|rfl:=ry;exact PySem.EqNone.eq_none_int (dP I q (by simp))
  | str j=>obtain t'|rfl:=ry;exact PySem.EqNone.eq_none_str (dP I q (by simp))
  | _=>exact absurd (show false=true from hs) bf
 | bl i =>
  cases rx;cases y with
  | non=>cases ry;exact PySem.EqNone.eq_bool_none (dP I q (by simp))
  | bl j=>cases ry;exact eq_bool (dP I q OH)
  | str j=>obtain t'|rfl:=ry;exact PySem.EqMixed.eq_bool_str (dP I q (by simp))
  | _=>exact absurd (show false=true from hs) bf
 | int i =>
  obtain t|rfl:=rx;cases y with
  | non=>cases ry;exact PySem.EqNone.eq_int_none (dP I q (by simp))
  | int j=>obtain t'|rfl:=ry;exact eq_int (dP I q K8)
  | str j=>obtain t'|rfl:=ry;exact PySem.EqMixed.eq_int_str (dP I q (by simp))
  | _=>exact absurd (show false=true from hs) bf
 | str i =>
  obtain t|rfl:=rx;cases y with
  | non=>cases ry;exact PySem.EqNone.eq_str_none (dP I q (by simp))
  | bl j=>cases ry;exact PySem.EqMixed.eq_str_bool (dP I q (by simp))
  | int j=>obtain t'|rfl:=ry;exact PySem.EqMixed.eq_str_int (dP I q (by simp))
  | str j=>obtain t'|rfl:=ry;exact eq_str (dP I q K7)
  | _=>exact absurd (show false=true from hs) bf
 | byt i =>
  obtain t|rfl:=rx;cases y with
  | byt j=>obtain t'|rfl:=ry;exact PySem.W.eq_bytes (dP I q K9)
  | _=>exact absurd (show false=true from hs) bf
 | _=>cases y <;> exact absurd (show false=true from hs) bf
theorem uU:yT X (compareOp .NotEq) Wh:=by
 intro pins s σ H x y v u Q I rx ry h;obtain hs|q:=h;cases x with
 | non =>
  cases rx;cases y with
  | non=>cases ry;exact PySem.EqNone.ne_none_none (dP I q (by simp))
  | bl j=>cases ry;exact PySem.EqNone.ne_none_bool (dP I q (by simp))
  | int j=>obtain t'|rfl:=ry;exact PySem.EqNone.ne_none_int (dP I q (by simp))
  | str j=>obtain t'|rfl:=ry;exact PySem.EqNone.ne_none_str (dP I q (by simp))
  | _=>exact absurd (show false=true from hs) bf
 | bl i =>
  cases rx;cases y with
  | non=>cases ry;exact PySem.EqNone.ne_bool_none (dP I q (by simp))
  | bl j=>cases ry;exact ne_bool (dP I q (congrArg not OH))
  | str j=>obtain t'|rfl:=ry;exact PySem.EqMixed.ne_bool_str (dP I q (by simp))
  | _=>exact absurd (show false=true from hs) bf
 | int i =>
  obtain t|rfl:=rx;cases y with
  | non=>cases ry;exact PySem.EqNone.ne_int_none (dP I q (by simp))
  | int j=>obtain t'|rfl:=ry;exact ne_int (dP I q (congrArg not K8))
  | str j=>obtain t'|rfl:=ry;exact PySem.EqMixed.ne_int_str (dP I q (by simp))
  | _=>exact absurd (show false=true from hs) bf
 | str i =>
  obtain t|rfl:=rx;cases y with
  | non=>cases ry;exact PySem.EqNone.ne_str_none (dP I q (by simp))
  | bl j=>cases ry;exact PySem.EqMixed.ne_str_bool (dP I q (by simp))
  | int j=>obtain t'|rfl:=ry;exact PySem.EqMixed.ne_str_int (dP I q (by simp))
  | str j=>obtain t'|rfl:=ry;exact ne_str (dP I q (congrArg not K7))
  | _=>exact absurd (show false=true from hs) bf
 | byt i =>
  obtain t|rfl:=rx;cases y with
  | byt j=>obtain t'|rfl:=ry;exact PySem.W.ne_bytes (dP I q (congrArg not K9))
  | _=>exact absurd (show false=true from hs) bf
 | _=>cases y <;> exact absurd (show false=true from hs) bf
theorem tW:yT X (compareOp .Lt) (Qn λi j=>.bl (decide (i < j))):=Qz λ_ _ _ _ _ _ _ q=>lt_int q
theorem Vq:yT X (compareOp .LtE) (Qn λi j=>.bl (decide (i<=j))):=Qz λ_ _ _ _ _ _ _ q=>le_int q
theorem tY:yT X (compareOp .Gt) (Qn λi j=>.bl (decide (j < i))):=Qz λ_ _ _ _ _ _ _ q=>gt_int q
theorem CS:yT X (compareOp .GtE) (Qn λi j=>.bl (decide (j<=i))):=Qz λ_ _ _ _ _ _ _ q=>ge_int q
theorem KH:yT X (compareOp .IsNot) (λx y H Q=>y=.non/\Q (.bl (!decide (x=.non))) H):=by
 intro pins s σ H x y v u Q I rx ry h;obtain rfl|q:=h;cases ry;refine isnot_none_gen (dP I q ?_)
 cases x <;> first
  | (cases rx;rfl)
  | (obtain ⟨t,rfl⟩:=rx;rfl)
theorem bo (b:Expr) {op:CmpOp} (h:op≠.In:=by decide) (h2:op≠.NotIn:=by decide):behindInMarks op b=false:=by
 have e1:(op == CmpOp.In)=false:=by cases op <;> first | rfl | exact absurd rfl h
 have e2:(op == CmpOp.NotIn)=false:=by cases op <;> first | rfl | exact absurd rfl h2
 cases b <;> simp [behindInMarks,e1,e2]
theorem jh (ho:yT X (compareOp op) r) (ha:PE X a ta) (hb:PE X b tb) (hm:behindInMarks op b=false):PE X (.Compare a [op] [b] pos) (UW r ta tb):=by
 intro pins s σ H Q I h;exact wpAny_Compare1 (Uo ha hb I h λv u s2 x y H2 I2 rx ry q=>ho pins s2 σ H2 x y v u Q I2 rx ry q) hm
def RI (t:TE):TT:=λσ H Q=>t σ H λx H'=>∃k,x=.bl k/\Q k H'
theorem be (ho:yT X (compareOp op) r) (ha:PE X a ta) (hb:PE X b tb) (hm:behindInMarks op b=false):PT X (.Compare a [op] [b] pos) (RI (UW r ta tb)):=by
 intro pins s σ H Q I h
 refine wpAny_isTrue_Compare1 (iI (ha pins s σ H _ I h) λv s1 #[x,H1,I1,r1,q1]=>iI (hb pins s1 σ H1 _ I1 q1) λu s2 #[y,H2,I2,r2,q2] =>
  iI (ho pins s2 σ H2 x y v u _ I2 r1 r2 q2) λc s3 #[z,H3,I3,r3,k,e,q3]=>?_) hm
 subst e;cases r3;exact wpAny_truthy_bool #[H3,I3,q3]
theorem AE:(sizeLine:Nat) < 2^63:=by rw[sizeLine_eq];decide
theorem vals1 (r:cS [x] us):∃u,us=[u]/\RelV x u:=by
 cases r with
 | cons r1 r2=>cases r2;exact #[_,rfl,r1]
theorem vals2 (r:cS [x,y] us):∃u w',us=[u,w']/\RelV x u/\RelV y w':=by
 cases r with
 | cons r1 r2 =>
  cases r2 with
  | cons r3 r4=>cases r4;exact #[_,_,rfl,r1,r3]
theorem wX:o5 X (.builtin "abs") (λxs H Q=>∃i,xs=[.int i]/\Q (.int (if i < 0 then -i else i)) H):=by
 intro pins s σ H xs us Q I r h;obtain i|rfl|q:=h;obtain u|rfl|t|rfl:=vals1 r;exact call_abs_int λu tk=>#[.int (if i < 0 then -i else i),H,I.tok _,#[_,rfl],q]
theorem uM (hc:X.calm=true):o5 X (.builtin "min") (λxs H Q=>∃i j,xs=[.int i,.int j]/\Q (.int (if j < i then j else i)) H):=by
 intro pins s σ H xs us Q I r h;obtain i|j|rfl|q:=h;obtain u|w'|rfl|⟨t,rfl⟩|⟨t',rfl⟩:=vals2 r;refine min_two_ints (I.ok.hd hc) λh' tk k=>#[_,H,I.kept k,?_,q]
 by_cases hj:j < i
 ·rw[if_pos hj,if_pos hj];exact #[_,rfl]
 ·rw[if_neg hj,if_neg hj];exact #[_,rfl]
end
structure J8 (h:Heap) (x dx C:Addr) (mA:Str->Option Value):Prop where
 obj:h.get? x=some (PySem.W.instObj C dx)
 ns:h.Ns1 dx mA
 ne:dx≠x
theorem L4 {h:Heap} (n:h.Ns1 dx mA):∃od,h.get? dx=some od/\∀name,PySem.W.lookIn name od=some (mA name):=by
 obtain o|es|ep|ho|hd|hk|_|hm:=n;refine #[o,ho,λname=>?_];have e:=hm name;unfold nsFind findBy at e;rw[<- Array.find?_toList] at e;unfold PySem.W.lookIn;rw[hd]
 dsimp only
 split
 ·rename_i y q
  rw[q] at e;exact congrArg some e
 ·rename_i q
  rw[q] at e
  have a:es.toList.any (·.refKey)=false:=by
   rw[List.any_eq_false];intro y hy;obtain z|t|hkey:=hk y (Array.mem_toList_iff.mp hy);simp [DictEntry.refKey,hkey]
  have a':¬es.toList.any (·.refKey)=true:=by rw[a];exact bf
  rw[if_neg a'];exact congrArg some e
theorem J8.look (I:J8 h x dx C mA):∃od,PySem.W.InstAt h x (PySem.W.instObj C dx) C (some od)/\∀name,PySem.W.lookIn name od=some (mA name) :=
 let ⟨od,ho,hl⟩:=L4 I.ns
 #[od,#[I.obj,rfl,rfl,ho],hl]
section
variable {K:FG9}
theorem get_map (X:K.In s.8) (I:J8 s.heap x dx C mA) (hg:PySem.W.plainGet K C name=true) (hh:PySem.W.hasDictIn K C=true)
  (ha:PySem.W.findIn K (.ref C) name=some none) (hv:mA name=some v) (hv':PySem.W.handedIn v=true) (h:Q v { s with toks:=s.toks+1 }) :
  wpAny (model prog w) A (getAttr (.ref x) name expr) Q E s:=by
 obtain od|J|hl:=I.look;exact PySem.W.get_value X J (FD hg).1 (PySem.W.findObj_own hh ha rfl (by rw[hl,hv])) hv' h
theorem Oj (X:K.In s.8) (I:J8 s.heap x dx C mA) (hg:PySem.W.plainGet K C name=true)
  (hf:PySem.W.findIn K (.ref C) name=some (some (.ref f))) (ht:PySem.W.isFn K (.ref f)=true) (hv:mA name=none) (h:Q (.ref f,[.ref x]) s) :
  wpAny (model prog w) A (getMethod (.ref x) name pl) Q E s:=by
 obtain od|J|hl:=I.look;exact PySem.W.method_fn X J (FD hg).1 (FD hg).2 hf (beq_iff_eq.mp ht) (by show (PySem.W.lookIn name od).map (·.isSome)=some false;rw[hl,hv];rfl) h
theorem PC (X:K.In s.8) (I:J8 s.heap x dx C mA)
  (hs:PySem.W.findIn K (.ref C) "__setattr__"=some (some (.builtin "object.__setattr__"))) (hp:PySem.W.plainOver K C=true) (ht:PySem.W.takerIn K C name=some none) (hh:PySem.W.hasDictIn K C=true)
  (hw:PySem.Within mA ns) (hsz:ns.9<=sizeLine)
  (h:∀h',J8 h' x dx C (λy=>if y=name then some v else mA y)->Heap.SameBut dx s.heap h'->Q .unit { s with heap:=h',toks:=s.toks+2 }) :
  wpAny (model prog w) A (setAttr (.ref x) name v) Q E s:=by
 obtain od|J|hl:=I.look;refine PySem.W.set_plain X J hs (PySem.W.osa_open (s:={ s with toks:=s.toks+1 }) (r:=none) X J hp ht λb=>?_);obtain cd|hc|hd':=PySem.W.any_some hh;have hx:s.heap.get? x=some #[.ref C,some dx,.plain,[].toArray]:=I.obj;refine wpAny_bind (wpAny_pure (wpAny_bind (wpAny_bind (wpAny_loadPart hx (wpAny_bind (PySem.W.Looks.here (s:={ s with toks:=s.toks+1 }) (PySem.W.looks_clsIn X hc) ?_))))));rw[hd'];refine wpAny_pure (a:=some dx) (wpAny_bind (wpAny_pure (wpAny_bind ?_)));refine wpAny_nsSet1 (s:={ s with toks:=s.toks+1 }) I.ns λh' hn2 hs2=>?_
 obtain oD|esD|epD|hoD|hdD|hcD:=hn2.count (PySem.Within.cons name v hw);refine wpAny_bind (wpAny_lookBehind hoD (by rw[hdD];exact pastItsLine_dict (af hcD (by rw[a8];lia))) ?_);exact wpAny_pure (h _ #[(hs2.2 _ (Ne.symm I.ne)).trans I.obj,hn2,I.ne] hs2)
theorem NV (X:K.In s.8) (hm:PySem.W.makesIn K C=true)
  (hi:PySem.W.findIn K (.ref C) "__init__"=some (some (.ref f))) (hf:PySem.W.typeIn K (.ref f)=some (.type "function"))
  (h:codeAny (model prog w) (A.under (.builtin "type.__call__" #[.ref C :: vs,kw])) (.call (.ref f) #[.ref (s.6+1) :: vs,kw]) (PySem.W.InitBack (s.6+1) R)
   { s with heap:=(s.heap.push PySem.W.emptyDict).push (PySem.W.instObj C s.6) }) :
  codeAny (model prog w) A (.call (.ref C) #[vs,kw]) R s:=by
 obtain hh|g|d|t|os:=s;exact PySem.W.make_core (PySem.W.makes_of X hm) (PySem.W.looks_findIn X hi) (λself=>PySem.W.bind_fn X self hf) (.inl rfl) h
end
def cE (f:Str) (v:V):List (Str×V)->List (Str×V)
 | []=>[(f,v)]
 | (g,x) :: r=>if g=f then (g,v) :: r else (g,x) :: cE f v r
theorem bH (f g:Str) (v:V):∀fs:List (Str×V),(cE f v fs).lookup g=if g=f then some v else fs.lookup g
 | []=>by
  show List.lookup g [(f,v)]=_
  by_cases h:g=f
  ·have hb:(g == f)=true:=beq_iff_eq.mpr h;simp only[List.lookup,hb,if_pos h]
  ·have hb:(g == f)=false:=beq_eq_false_iff_ne.mpr h;simp only[List.lookup,hb,if_neg h]
 | (k,x) :: r=>by
  have ih:=bH f g v r;rw[show cE f v ((k,x) :: r)=(if k=f then (k,v) :: r else (k,x) :: cE f v r) from rfl];by_cases hk:k=f
  ·rw[if_pos hk];by_cases h:g=k
   ·have hb:(g == k)=true:=beq_iff_eq.mpr h;simp only[List.lookup,hb,if_pos (h.trans hk)]
   ·have hb:(g == k)=false:=beq_eq_false_iff_ne.mpr h;simp only[List.lookup,hb,if_neg (λe:g=f=>h (e.trans hk.symm))]
  ·rw[if_neg hk];by_cases h:g=k
   ·have hb:(g == k)=true:=beq_iff_eq.mpr h;simp only[List.lookup,hb,if_neg (λe:g=f=>hk (h.symm.trans e))]
   ·have hb:(g == k)=false:=beq_eq_false_iff_ne.mpr h;simp only[List.lookup,hb];exact ih
theorem xN (f:Str) (v:V):∀fs:List (Str×V),f∈(cE f v fs).map (·.1)/\∀g,g∈fs.map (·.1)->g∈(cE f v fs).map (·.1)
 | []=>#[by simp [cE],λg h=>by simp at h]
 | (k,x) :: r=>by
  obtain i1|i2:=xN f v r;rw[show cE f v ((k,x) :: r)=(if k=f then (k,v) :: r else (k,x) :: cE f v r) from rfl];by_cases hk:k=f
  ·rw[if_pos hk];subst hk;exact #[by simp,λg h=>by simpa using h]
  ·rw[if_neg hk];refine #[?_,λg h=>?_]
   ·rw[jm];exact bX _ i1
   ·rw[jm] at h ⊢;rcases aD.mp h with e | e
    ·exact aD.mpr (.inl e)
    ·exact bX _ (i2 g e)
theorem yp (f:Str) (v:V):∀fs:List (Str×V),(cE f v fs).9<=fs.9+1
 | []=>by simp [cE]
 | (k,x) :: r=>by
  have ih:=yp f v r;rw[show cE f v ((k,x) :: r)=(if k=f then (k,v) :: r else (k,x) :: cE f v r) from rfl];by_cases hk:k=f
  ·rw[if_pos hk,a8,a8];lia
  ·rw[if_neg hk,a8,a8];lia
theorem Cm.some_of (r:Cm (some v) o):∃u,o=some u/\RelV v u:=by
 cases o with
 | none=>exact (show False from r).elim
 | some u=>exact #[u,rfl,r]
theorem Cm.none_of (r:Cm none o):o=none:=by
 cases o with
 | none=>rfl
 | some u=>exact (show False from r).elim
theorem Mc (r:RelV v u):PySem.W.handedIn u=true:=by
 cases v with
 | non=>cases (show u=Value.none from r);rfl
 | bl b=>cases (show u=Value.bool b from r);rfl
 | int i=>obtain t|e:=(show ∃t,u=Value.int i t from r);cases e;rfl
 | str x=>obtain t|e:=(show ∃t,u=Value.str x t from r);cases e;rfl
 | byt b=>obtain t|e:=(show ∃t,u=Value.bytes b t from r);cases e;rfl
 | flt b=>obtain t|e:=(show ∃t,u=Value.float b t from r);cases e;rfl
 | ref a=>cases (show u=Value.ref a from r);rfl
 | ty n=>cases (show u=Value.type n from r);rfl
theorem wM (hok:yU P w H h) (e:H a=some (.ins C dx fs)):∃mA,J8 h a dx C mA/\(∀f,Cm (fs.lookup f) (mA f))/\PySem.Within mA (fs.map (·.1))/\fs.9<=1000/\H dx=some (.own a):=by
 obtain d|z|ne|ob|mA|n|r|q:=(show iw P w H h a (.ins C dx fs) from hok a _ e);exact #[mA,#[ob,n,ne],r,q,z,d]
structure MG (K:FG9) (C:Addr):Prop where
 pg:PySem.W.plainGet K C Str.empty=true
 hd:PySem.W.hasDictIn K C=true
 po:PySem.W.plainOver K C=true
 sa:PySem.W.findIn K (.ref C) "__setattr__"=some (some (.builtin "object.__setattr__"))
theorem MG.get {K:FG9} (c:MG K C) (f:Str):PySem.W.plainGet K C f=true:=c.pg
def lC (K:FG9) (C:Addr) (f:Str):Prop:=PySem.W.findIn K (.ref C) f=some none
theorem lC.taker {K:FG9} (n:lC K C f):PySem.W.takerIn K C f=some none:=by
 unfold PySem.W.takerIn;rw[show PySem.W.findIn K (.ref C) f=some none from n];rfl
structure Uv (K:FG9) (C:Addr) (m:Str) (f:Addr):Prop where
 at_:PySem.W.findIn K (.ref C) m=some (some (.ref f))
 fn:PySem.W.isFn K (.ref f)=true
 kp:PySem.W.keepIn K (.ref f)=true
section
variable {σ:St}
theorem JE (I:Inv X pins σ H s) (e:H a=some (.ins C dx fs)) (c:MG X.K C) (n:lC X.K C f) (l:fs.lookup f=some v)
  (h:∀u s',Inv X pins σ H s'->RelV v u->Q u s'):wpAny (model X.prog X.w) A (getAttr (.ref a) f b) Q E s:=by
 obtain mA|O|r|_|_|_:=wM I.hok e;obtain u|hu|ru:=Cm.some_of (v:=v) (o:=mA f) (by rw[<- l];exact r f);exact get_map I.kIn O (c.get f) c.hd n hu (Mc ru) (h u _ (I.tok _) ru)
theorem JD (I:Inv X pins σ H s) (e:H a=some (.ins C dx fs)) (c:MG X.K C) (k:Uv X.K C m g) (l:fs.lookup m=none)
  (h:Q (.ref g,[.ref a]) s):wpAny (model X.prog X.w) A (getMethod (.ref a) m pl) Q E s:=by
 obtain mA|O|r|_|_|_:=wM I.hok e;have hn:mA m=none:=Cm.none_of (by rw[<- l];exact r m);exact Oj I.kIn O (c.get m) k.at_ k.fn hn h
theorem Jc (I:Inv X pins σ H s) (e:H a=some (.ins C dx fs)) (c:MG X.K C) (n:lC X.K C f) (hl:fs.9 < 1000) (ry:RelV y u)
  (h:∀s',Inv X pins σ (upd H a (.ins C dx (cE f y fs))) s'->Q .unit s'):wpAny (model X.prog X.w) A (setAttr (.ref a) f u) Q E s:=by
 obtain mA|O|r|wi|_|ho:=wM I.hok e;have hz:(fs.map (·.1)).9<=sizeLine:=by rw[ag,sizeLine_eq];lia
 refine PC I.kIn O c.sa c.po n.taker c.hd wi hz λh' O' sb=>h _ ?_
 have hd:∃o,h'.get? dx=some o:=let ⟨o,_,_,e',_⟩:=O'.ns;#[o,e']
 refine I.write (x:=a) (e:=dx) (by rw[e];exact True.intro) (.inr ho) (λb q hb z=>(sb.2 b hb).trans z) hd ?_;refine #[by rw[bG O.ne];exact ho,?_,O.ne,O'.obj,_,O'.ns,λg=>?_,λg hg=>?_]
 ·have:=yp f y fs;lia
 ·show Cm ((cE f y fs).lookup g) (if g=f then some u else mA g)
  rw[bH];by_cases q:g=f
  ·rw[if_pos q,if_pos q];exact ry
  ·rw[if_neg q,if_neg q];exact r g
 ·by_cases q:g=f
  ·rw[q];exact (xN f y fs).1
  ·refine (xN f y fs).2 g (wi g λz=>hg ?_);show (if g=f then some u else mA g)=none
   rw[if_neg q];exact z
theorem Inv.made (I:Inv X pins σ H s):Inv X pins σ (upd (upd H s.heap.objs.size (.own (s.6+1))) (s.6+1) (.ins C s.6 []))
  { s with heap:=(s.heap.push PySem.W.emptyDict).push (PySem.W.instObj C s.6) }:=by
 have e1:(s.heap.push PySem.W.emptyDict).get? s.6=some PySem.W.emptyDict:=Heap.get?_push_size s.heap rfl
 have e2:((s.heap.push PySem.W.emptyDict).push (PySem.W.instObj C s.6)).get? (s.6+1)=some (PySem.W.instObj C s.6):=by
  have:=Heap.get?_push_size (s.heap.push PySem.W.emptyDict) (o:=PySem.W.instObj C s.6) rfl;rwa [Heap.size_push] at this
 have e3:(s.heap.push PySem.W.emptyDict).Ns s.heap.objs.size (λ_=>none):=#[PySem.W.emptyDict,[].toArray,_,e1,rfl,(λe he=>absurd he (by simp)),λ_=>rfl];have I1:=I.laid (a:=s.6) (o:=.own (s.6+1)) (h':=s.heap.push PySem.W.emptyDict) (t':=s.toks) (λb u q=>Heap.get?_push_of_some _ q) (ah _) #[_,e1];refine I1.laid (a:=s.6+1) (o:=.ins C s.6 []) (t':=s.toks) (λb u q=>Heap.get?_push_of_some _ q) (Nat.le_of_eq (Heap.size_push _ _)) ?_;have ne:s.6≠s.6+1:=cg (jU _);refine #[by rw[bG ne,aK],aW _,ne,e2,λ_=>none,(Heap.Ns1.of_empty e3).at λo q=>Heap.get?_push_of_some _ q,λ_=>True.intro,λy hy=>absurd rfl hy]
theorem Q8 (hb:attributeBase e f env (eval e env)=eval e env)
  (h:wpAny (model prog w) A (eval e env) (λo s₁=>wpAny (model prog w) A (getAttr o f true) Q E s₁) E s):wpAny (model prog w) A (eval (.Attribute e f pos) env) Q E s :=
 Attribute_any_ h (by rw[arm_eval_Attribute,hb])
end
def SK (K:FG9) (ta:TE) (f:Str):TE:=λσ H Q=>ta σ H λx H1=>∃a C dx fs v,x=.ref a/\H1 a=some (.ins C dx fs)/\MG K C/\lC K C f/\fs.lookup f=some v/\Q v H1
def U8 (K:FG9) (ta tv:TE) (f:Str):TS:=λD σ H=>tv σ H λy H1=>ta σ H1 λx H2=>∃a C dx fs,x=.ref a/\H2 a=some (.ins C dx fs)/\MG K C/\lC K C f/\fs.9 < 1000 /\
 D.nx σ (upd H2 a (.ins C dx (cE f y fs)))
theorem jX (he:PE X e ta) (hb:attributeBase e f X.env (eval e X.env)=eval e X.env):PE X (.Attribute e f pos) (SK X.K ta f):=by
 intro pins s σ H Q I h;refine Q8 hb (iI (he pins s σ H _ I h) λu s1 #[x,H1,I1,rx,a,C,dx,fs,v,ex,ea,c,n,l,q]=>?_);subst ex;obtain rfl:u=Value.ref a:=rx;exact JE I1 ea c n l λu' s2 I2 ru=>#[v,H1,I2,ru,q]
theorem xF (ha:PE X o ta) (hv:PE X value tv) (hs:swapsWith value (some (.Attribute o f pos')) pos.line X.env=pure false):PS X (.Assign [.Attribute o f pos'] value pos) (U8 X.K ta tv f):=by
 intro pins s σ H D I h;refine plainObj_wpAny_Assign_Attribute (iI (hv pins s σ H _ I h) λu s1 #[y,H1,I1,ry,q]=>iI (ha pins s1 σ H1 _ I1 q) λov s2 #[x,H2,I2,rx,a,C,dx,fs,ex,ea,c,n,l,q2]=>?_) hs;subst ex;obtain rfl:ov=Value.ref a:=rx;exact Jc I2 ea c n l ry λs3 I3=>#[σ,_,I3,q2]
section
variable {X:Cx} {pins:List (Addr×Obj)} {σ:St} {H:Hp} {s:Shared} {A:Around} {E:Value->Shared->Prop} {Q:Value->Shared->Prop} {c:Value} {b:Bool}
inductive vL (K:FG9) (H:Hp):V->Value->Prop where
 | non:vL K H .non (.type "NoneType")
 | bl (x:Bool):vL K H (.bl x) (.type "bool")
 | int (i:Int):vL K H (.int i) (.type "int")
 | str (x:Str):vL K H (.str x) (.type "str")
 | flt (x:UInt64):vL K H (.flt x) (.type "float")
 | lst {a:Addr} {xs:List V} (e:H a=some (.lst xs)):vL K H (.ref a) (.type "list")
 | frz {a:Addr} {o:Obj} {xs:List V} (e:H a=some (.frz o (.lst xs))):vL K H (.ref a) (.type "list")
 | tup {a:Addr} {xs:List V} (e:H a=some (.tup xs)):vL K H (.ref a) (.type "tuple")
 | dK {a:Addr} {kvs:List (Key×V)} (e:H a=some (.dK kvs)):vL K H (.ref a) (.type "dict")
 | dT {a:Addr} {kvs:List (List Key×V)} (e:H a=some (.dT kvs)):vL K H (.ref a) (.type "dict")
 | ins {a C dx:Addr} {fs:List (Str×V)} (e:H a=some (.ins C dx fs)) (cl:MG K C) (ha:PySem.W.findIn K (.ref C) "__class__"=some (some (.builtin "object.__class__")))
   (hn:PySem.W.specialIn K (.builtin "object.__class__") "__get__"=some (some (.builtin "getset_descriptor.__get__"))) (htk:PySem.W.takesIn K (.builtin "object.__class__")=some true)
   (hm:PySem.W.mroIn K C (.type "object")=some true):vL K H (.ref a) (.ref C)
theorem C1 (I:Inv X pins σ H s) (rx:RelV x u) (ty:vL X.K H x t) (e:PySem.W.kitOne X.K t c=some b) (h:∀tk,Q (.bool b) { s with toks:=tk }) :
  wpAny (model X.prog X.w) A (call (.builtin "isinstance") [u,c]) Q E s:=by
 cases ty with
 | non=>cases (show u=Value.none from rx);exact dR PySem.W.kitx_none I.kIn True.intro e (λz=>nomatch z) h
 | bl y=>cases (show u=Value.bool y from rx);exact dR PySem.W.kitx_bool I.kIn True.intro e (λz=>nomatch z) h
 | int i=>obtain t|q:=(show ∃t,u=Value.int i t from rx);cases q;exact dR PySem.W.kitx_int I.kIn True.intro e (λz=>nomatch z) h
 | str y=>obtain t|q:=(show ∃t,u=Value.str y t from rx);cases q;exact dR PySem.W.kitx_str I.kIn True.intro e (λz=>nomatch z) h
 | flt y=>obtain t|q:=(show ∃t,u=Value.float y t from rx);cases q;exact dR PySem.W.kitx_float I.kIn True.intro e (λz=>nomatch z) h
 | @lst a xs ea =>
  cases (show u=Value.ref a from rx);obtain _|_|n|_|h1:=(show iw X.prog X.w H s.heap a (.lst xs) from I.hok a _ ea);exact dR xc I.kIn #[_,h1,rfl] e (λz=>nomatch z) h
 | @frz a ob xs ea =>
  cases (show u=Value.ref a from rx);obtain _|_|_|n|_|h1:=(show iw X.prog X.w H s.heap a (.frz ob (.lst xs)) from I.hok a _ ea);exact dR xc I.kIn #[_,h1,rfl] e (λz=>nomatch z) h
 | @tup a xs ea =>
  cases (show u=Value.ref a from rx);obtain _|_|_|p:=(show iw X.prog X.w H s.heap a (.tup xs) from I.hok a _ ea);obtain o|h1|h2|_:=p;exact dR uZ I.kIn #[o,h1,h2] e (λz=>nomatch z) h
 | @dK a kvs ea =>
  cases (show u=Value.ref a from rx);obtain _|_|vs|_|p:=(show iw X.prog X.w H s.heap a (.dK kvs) from I.hok a _ ea);obtain o|es|ep|h1|h2|_:=p;exact dR xf I.kIn #[o,h1,h2.1] e (λz=>nomatch z) h
 | @dT a kvs ea =>
  cases (show u=Value.ref a from rx);obtain _|_|xs|_|o|es|ep|h1|h2|_:=(show iw X.prog X.w H s.heap a (.dT kvs) from I.hok a _ ea);exact dR xf I.kIn #[o,h1,h2.1] e (λz=>nomatch z) h
 | @ins a C dx fs ea cl ha hn htk hm =>
  cases (show u=Value.ref a from rx);obtain mA|O|_:=wM I.hok ea;obtain od|J|_:=O.look;exact dR (PySem.W.kitx_own (cl.get _) cl.hd ha hn htk hm) I.kIn J e (λz=>nomatch z) h
end
structure lV (k:Nat) (A:Around):Prop where
 hd:A.handled=none
 dp:A.depth+3*k+105 < recursionLimit
 un:A.units+16*k+200 < cLine
theorem lV.mono (r:lV k A) (h:j<=k):lV j A:=#[r.hd,by have:=r.dp;lia,by have:=r.un;lia]
theorem lV.deeper (r:lV (k+1) A) (env:Env):lV k (A.deeper env) :=
 #[r.hd,by have:=r.dp;show A.depth+1+3*k+105 < _;lia,by have:=r.un;show A.units+3+16*k+200 < _;lia]
theorem Jx {A:Around}:(A.under (.builtin "type.__call__" #[.ref C :: us,kw])).depth=A.depth+1:=by
 first | rfl | simp [Around.under,Code.weight,Code.isCreation,Code.isGuard,Code.isCaller,Code.frames,Code.isFrame,guardIds]
theorem Jw {A:Around}:(A.under (.builtin "type.__call__" #[.ref C :: us,kw])).units=A.units+1:=by
 first | rfl | simp [Around.under,Code.cUnits,Code.frames,Code.isFrame]
theorem lV.make (r:lV (k+1) A) (C:Addr) (us:List Value) (kw:List (Str×Value)):lV k (A.under (.builtin "type.__call__" #[.ref C :: us,kw])) :=
 #[r.hd,by have:=r.dp;rw[Jx];lia,by have:=r.un;rw[Jw];lia]
theorem lV.depth (r:lV k A):A.depth < recursionLimit:=by have:=r.dp;lia
theorem lV.units (r:lV k A):A.units+64 < cLine:=by have:=r.un;lia
def Bn:TA:=λ_ H Q=>Q [] H
def jZ (ta:TE) (tr:TA):TA:=λσ H Q=>ta σ H λx H1=>tr σ H1 λxs H2=>Q (x :: xs) H2
section
variable {X:Cx} {e:Expr} {es:List Expr} {te:TE} {t:TA} {pos:Pos}
theorem jy:PA X [] Bn:=λ_ _ _ _ H Q I h=>Calls.spliced_nil #[[],H,I,.nil,h]
theorem dh (ha:PE X e te) (hr:PA X es t) (hs:starEach (e :: es) X.env=(false,eval e X.env) :: starEach es X.env:=by rfl):PA X (e :: es) (jZ te t):=by
 intro pos pins s σ H Q I h;rw[hs];show wpAny _ _ (spliced ((false,eval e X.env) :: backTo pos (starEach es X.env))) _ _ s
 refine Calls.spliced_cons (iI (ha pins s σ H _ I h) λu s1 #[x,H1,I1,r1,q1]=>?_);exact iI (hr pos pins s1 σ H1 _ I1 q1) λus s2 #[xs,H2,I2,r2,q2]=>#[x :: xs,H2,I2,.cons r1 r2,q2]
def UQ (t:TA):TE:=λσ H Q=>t σ H λxs H1=>xs.9<=sizeLine/\∀p,H1 p=none->Q (.ref p) (upd H1 p (.tup xs))
def UY (t:TA):TE:=λσ H Q=>t σ H λxs H1=>xs.9<=sizeLine/\∀p,H1 p=none->Q (.ref p) (upd H1 p (.lst xs))
theorem cP (h:PA X es t):PE X (.Tuple es x1 pos) (UQ t):=by
 intro pins s σ H Q I hq;refine wpAny_Tuple_spliced (iI (h pos pins s σ H _ I hq) λus s1 #[xs,H1,I1,r,z,q]=>#[by rw[<- r.9];exact z,?_]);have hf:H1 s1.6=none:=I1.hok.fresh (ah _);refine #[.ref s1.6,upd H1 s1.heap.objs.size (.tup xs),I1.laid (t':=s1.toks) (λb u e=>Heap.get?_push_of_some _ e) (ah _) ?_,rfl,q _ hf];exact #[z,us,r,#[_,Heap.get?_push_size _ rfl,rfl,_,rfl]]
theorem dG (h:PA X es t):PE X (.List es pos) (UY t):=by
 intro pins s σ H Q I hq;refine wpAny_List_spliced (iI (h pos pins s σ H _ I hq) λus s1 #[xs,H1,I1,r,z,q]=>#[by rw[<- r.9];exact z,?_]);have hf:H1 s1.6=none:=I1.hok.fresh (ah _);refine #[.ref s1.6,upd H1 s1.heap.objs.size (.lst xs),I1.laid (t':=s1.toks) (λb u e=>Heap.get?_push_of_some _ e) (ah _) ?_,rfl,q _ hf];exact #[z,us,0,r,Heap.get?_push_size _ rfl]
end
abbrev Sp:=List V->Hp->VK->XK->Prop
abbrev O2:=List Env->Hp->Shared->XK->Value->Shared->Prop
structure Ka (P:Program) (w:World) (K:FG9) (mg:Str->Option Value) (base:Heap) (A:Around) (outer:List Env) (s:Shared) (H:Hp):Prop where
 frames:A.frames=some outer
 mod:Mod K mg base
 bs:∀b o,base.get? b=some o->s.heap.get? b=some o/\H b=none
 bsz:base.objs.7<=s.heap.objs.size
 funs:s.heap.FunFrames base outer
 frf:∀b∈MD outer,H b=none
 hok:yU P w H s.heap
 bare:AllBare s.gens
def CE (outer:List Env) (P:Program) (w:World) (H:Hp) (s:Shared) (Q:VK) (u:Value) (s':Shared):Prop :=
 ∃v H',s'.os=s.os/\AllBare s'.gens/\Un (MD outer) [] H H' s.heap s'.8/\yU P w H' s'.8/\RelV v u/\Q v H'
def CR (CX:O2) (outer:List Env) (P:Program) (w:World) (H:Hp) (s:Shared) (Q:VK) (E:XK) (r:Result) (s':Shared):Prop :=
 match r with
 | .ok (.ret u)=>CE outer P w H s Q u s'
 | .ok _=>False
 | .error e=>CX outer H s E e s'
structure oN (P:Program) (w:World) (K:FG9) (mg:Str->Option Value) (base:Heap) (CX:O2) (k:Nat) (f:Addr) (fd:FuncData) (ps:List Str) (sp:Sp):Prop where
 len:∀vs H Q E,sp vs H Q E->vs.9=ps.9
 run:∀(A:Around) (outer:List Env) (s:Shared) (H:Hp) (args:Args) (us:List Value) (vs:List V) (Q:VK) (E:XK),lV k A->Ka P w K mg base A outer s H->BindsTo s fd args (ps.zip us)->cS vs us->sp vs H Q E →
  codeAny (model P w) A (.call (.ref f) args) (CR CX outer P w H s Q E) s
theorem Ka.make {K:FG9} (e:Ka P w K mg base A outer s H) (C:Addr) (us:List Value) (kw:List (Str×Value)) :
  Ka P w K mg base (A.under (.builtin "type.__call__" #[.ref C :: us,kw])) outer s H:=#[by first | exact e.frames | (simpa [Around.under,Code.envs,Code.isFrame,pushEnvs] using e.frames),e.mod,e.bs,e.bsz,e.funs,e.frf,e.hok,e.bare]
section
variable {σ:St}
theorem Inv.env0 (I:Inv X pins σ H s):Ka X.prog X.w X.K X.mg X.base X.A X.stack s H :=
 #[I.ok.frames,I.ok.mod,I.bs,af I.ok.bsz I.sz,I.stack,I.stkFree,I.hok,I.bare]
theorem Inv.after (I:Inv X pins σ H s) (h:CE X.stack X.prog X.w H s Q u s'):EP X pins σ Q u s':=by
 obtain v|H'|os|bare|un|hok|r|q:=h;obtain hh|g|d|t|os':=s';obtain rfl:os'=s.os:=os;exact #[v,H',I.call (h':=hh) (g':=g) (d':=d) (t':=t) (ch:=[]) un hok bare (λb z=>absurd z (by simp)),r,q]
end
def MV (sp:Sp) (dvs:List V) (E:XK) (t:TA):TE:=λσ H Q=>t σ H λvs H1=>sp (vs++dvs) H1 Q E
def RM (C:Addr) (m:Str) (sp:Sp) (dvs:List V) (E:XK) (ta:TE) (t:TA):TE:=λσ H Q=>ta σ H λx H1=>∃a dx fs,x=.ref a/\H1 a=some (.ins C dx fs)/\fs.lookup m=none /\
 t σ H1 λvs H2=>sp (x :: (vs++dvs)) H2 Q E
def RN (C:Addr) (sp:Sp) (dvs:List V) (E:XK) (t:TA):TE:=λσ H Q=>t σ H λvs H1=>∀x dx,H1 x=none->H1 dx=none->dx≠x →
 sp (.ref x :: (vs++dvs)) (upd (upd H1 dx (.own x)) x (.ins C dx [])) (λv H2=>v=.non/\Q (.ref x) H2) E
def Binds (K:FG9) (fd:FuncData) (ps:List Str) (ds:List Value):Prop :=
 ∀(s:Shared) (us:List Value),K.In s.8->(us++ds).9=ps.9->BindsTo s fd #[us,[]] (ps.zip (us++ds))
theorem Binds.all {K:FG9} (h:∀us:List Value,us.9=ps.9->bindArgs fd #[us,[]]=pure (ps.zip us)):Binds K fd ps []:=λs us _ hl=>by
 rw[rZ] at hl ⊢;exact .of_eq (h us hl)
def yd (CX:O2) (X:Cx) (E:XK):Prop:=∀(pins:List (Addr×Obj)) (σ:St) (H:Hp) (s:Shared) (e:Value) (s':Shared),Inv X pins σ H s->CX X.stack H s E e s'->X.xe e s'
section
variable {X:Cx} {CX:O2} {k:Nat} {f C:Addr} {fd:FuncData} {ps:List Str} {sp:Sp} {dvs:List V} {ds:List Value} {E:XK} {x m:Str} {p pos apos:Pos} {e o:Expr} {es:List Expr} {ta:TE} {t:TA}
theorem Nj {σ:St} (F:oN X.prog X.w X.K X.mg X.base CX k f fd ps sp) (hr:lV k X.A) (hb:Binds X.K fd ps ds) (hd:cS dvs ds) (hx:yd CX X E)
  (I:Inv X pins σ H s) (r:cS vs us) (h:sp (vs++dvs) H Q E):wpAny (model X.prog X.w) X.A (call (.ref f) us) (EP X pins σ Q) X.xe s:=by
 have r2:cS (vs++dvs) (us++ds):=r.append hd;have hl:(us++ds).9=ps.9:=by rw[<- r2.9];exact F.len _ _ _ _ h
 refine wpAny_call (codeAny_mono (F.run X.A X.stack s H #[us,[]] (us++ds) (vs++dvs) Q E hr I.env0 (hb s us I.kIn hl) r2 h) λr s' hq=>?_);cases r with
 | error e=>exact hx pins σ H s e s' I hq
 | ok fl =>
  cases fl with
  | ret u=>exact I.after hq
  | next=>exact False.elim hq
  | brk=>exact False.elim hq
  | cont=>exact False.elim hq
theorem yM (F:oN X.prog X.w X.K X.mg X.base CX k f fd ps sp) (hr:lV k X.A) (hg:Gl X x) (hm:X.mg x=some (.ref f)) (hk:PySem.W.keepIn X.K (.ref f)=true) (hb:Binds X.K fd ps ds) (hd:cS dvs ds) (hx:yd CX X E)
  (ha:PA X (e :: es) t) (hdb:(x == ("__debug__":Str))=false:=by decide) (he:starEach (e :: es) X.env=(false,eval e X.env) :: starEach es X.env:=by rfl) (hpl:(backTo pos (starEach es X.env)).any (·.1)=false:=by rfl) :
  PE X (.Call (.Name x p) (e :: es) [] pos) (MV sp dvs E t):=by
 intro pins s σ H Q I h;refine wpAny_Call_Name_kw (Ep I hg hm ?_ hdb);refine IQ (h₀:=X.base) I.ok.mod.kin hk (iI (ha pos pins s σ H _ I h) λus s1 #[vs,H1,I1,r,q]=>#[I1.kIn,?_]) he hpl;exact Nj F hr hb hd hx I1 r q
theorem Qv {pl : Sem Bool} (he : PE X o ta) (c : MG X.K C) (hm : Uv X.K C m f) (F : oN X.prog X.w X.K X.mg X.base CX k f fd ps sp) (hr : lV k X.A) (hb : Binds X.K fd ps ds) (hd : cS dvs ds) (hx : yd CX X E) (ha : PA X (e :: es) t)
    (hst : starEach (e :: es) X.env = (false, eval e X.env) :: starEach es X.env := by rfl) (hpl : (backTo pos (starEach es X.env)).any (·.1) = false := by rfl)
    (ht : eval (.Call (.Attribute o m apos) (e :: es) [] pos) X.env = (do
      let ov <- eval o X.env
      standAt apos.atName
      let (f, first) <- holding [ov] (getMethod ov m pl)
      callWith pos f first (backTo pos (starEach (e :: es) X.env)) (backToKw pos (keywordEach [] X.env))) := by rfl) :
    PE X (.Call (.Attribute o m apos) (e :: es) [] pos) (RM C m sp dvs E ta t) := by
  intro pins s σ H Q I h;refine PySem.W.methodCall_KW (pl := pl) (iI (he pins s σ H _ I h) λu s1 #[x, H1, I1, rx, a, dx, fs, ex, ea, l, q] => ?_) ht;subst ex;obtain rfl : u = Value.ref a := rx;refine JD I1 ea c hm l ?_;refine IQ (first := [.ref a]) (h₀ := X.base) I.ok.mod.kin hm.kp (iI (ha pos pins s1 σ H1 _ I1 q) λus s2 #[vs, H2, I2, r, q2] => #[I2.kIn, ?_]) hst hpl;exact Nj (us := .ref a :: us) (vs := .ref a :: vs) F hr hb hd hx I2 (.cons rfl r) q2
structure Mk (K:FG9) (C f:Addr):Prop where
 makes:PySem.W.makesIn K C=true
 init:PySem.W.findIn K (.ref C) "__init__"=some (some (.ref f))
 fn:PySem.W.isFn K (.ref f)=true
 kp:PySem.W.keepIn K (.ref C)=true
theorem Ni {σ:St} (M:Mk X.K C f) (F:oN X.prog X.w X.K X.mg X.base CX k f fd ps sp) (hr:lV (k+1) X.A) (hb:Binds X.K fd ps ds) (hd:cS dvs ds)
  (hx:yd CX X E) (I:Inv X pins σ H s) (r:cS vs us)
  (h:∀x dx,H x=none->H dx=none->dx≠x->sp (.ref x :: (vs++dvs)) (upd (upd H dx (.own x)) x (.ins C dx [])) (λv H2=>v=.non/\Q (.ref x) H2) E) :
  wpAny (model X.prog X.w) X.A (call (.ref C) us) (EP X pins σ Q) X.xe s:=by
 have hq:=h (s.6+1) s.heap.objs.size (I.hok.fresh (oI _)) (I.hok.fresh (ah _)) (cg (jU _));have I2:=Inv.made (C:=C) I;have r2:cS (V.ref (s.6+1) :: (vs++dvs)) (Value.ref (s.6+1) :: (us++ds)):=.cons rfl (r.append hd)
 have hl:(Value.ref (s.6+1) :: us++ds).9=ps.9:=by
  have e:=r2.9;rw[F.len _ _ _ _ hq] at e;exact e.symm
 refine wpAny_call (NV (f:=f) I.kIn M.makes M.init (beq_iff_eq.mp M.fn) (codeAny_mono (F.run _ X.stack _ _ #[Value.ref (s.6+1) :: us,[]] (Value.ref (s.6+1) :: (us++ds)) _ _ E (hr.make C us [])
  (I2.env0.make C us []) (hb _ (Value.ref (s.6+1) :: us) I2.kIn hl) r2 hq) λr s' hq'=>?_))
 cases r with
 | error e=>exact hx pins σ _ _ e s' I2 hq'
 | ok fl =>
  cases fl with
  | ret u =>
   obtain v|H'|I3|rv|ev|q3:=I2.after hq';subst ev;exact #[rv,#[V.ref (s.6+1),H',I3,rfl,q3]]
  | next=>exact False.elim hq'
  | brk=>exact False.elim hq'
  | cont=>exact False.elim hq'
theorem Qw (M:Mk X.K C f) (F:oN X.prog X.w X.K X.mg X.base CX k f fd ps sp) (hr:lV (k+1) X.A) (hg:Gl X x) (hm:X.mg x=some (.ref C)) (hb:Binds X.K fd ps ds) (hd:cS dvs ds) (hx:yd CX X E)
  (ha:PA X (e :: es) t) (hdb:(x == ("__debug__":Str))=false:=by decide) (he:starEach (e :: es) X.env=(false,eval e X.env) :: starEach es X.env:=by rfl) (hpl:(backTo pos (starEach es X.env)).any (·.1)=false:=by rfl) :
  PE X (.Call (.Name x p) (e :: es) [] pos) (RN C sp dvs E t):=by
 intro pins s σ H Q I h;refine wpAny_Call_Name_kw (Ep I hg hm ?_ hdb);refine IQ (h₀:=X.base) I.ok.mod.kin M.kp (iI (ha pos pins s σ H _ I h) λus s1 #[vs,H1,I1,r,q]=>#[I1.kIn,?_]) he hpl;exact Ni M F hr hb hd hx I1 r q
end
structure uN (N P:List Str) (sc:Scope):Prop where
 kind:sc.kind=.function
 co:sc.isCoroutine=false
 gen:sc.isGenerator=false
 nd:N.Nodup
 pre:N.take P.9=P
 par:∀x∈P,sc.names.lookup x=some .local\/sc.names.lookup x=some .cell
 nofree:∀y∈sc.names,y.2≠.free
theorem De {kindOf:Str->Option NameKind} {x:Str}:∀{binds:List (Str×Value)} {m:Str->Option Value},(∀v,(x,v)∉binds)->bindL kindOf binds m x=m x
 | [],_,_=>rfl
 | (n,v) :: r,m,h=>by
  unfold bindL;rw[De λw hw=>h w (bX _ hw)]
  split
  ·have:x≠n:=by rintro rfl;exact h v dJ
   simp [this]
  ·rfl
theorem Di {kindOf:Str->Option NameKind} {x:Str}:∀{binds:List (Str×Value)} {m:Str->Option Value},(∀v,(x,v)∉binds)->bindC kindOf binds m x=m x
 | [],_,_=>rfl
 | (n,v) :: r,m,h=>by
  unfold bindC;rw[Di λw hw=>h w (bX _ hw)]
  split
  ·rfl
  ·have:x≠n:=by rintro rfl;exact h v dJ
   simp [this]
theorem Dg {kindOf:Str->Option NameKind} {x:Str} {v:Value}:∀{P:List Str} {vs:List Value} {i:Nat} {m:Str->Option Value},P.Nodup->P[i]?=some x->vs[i]?=some v->kindOf x=some .local →
  bindL kindOf (P.zip vs) m x=some v
 | [],_,_,_,_,h,_,_=>by simp at h
 | _ :: _,[],_,_,_,_,h,_=>by simp at h
 | p :: P,w :: vs,0,m,nd,h1,h2,hk=>by
  simp at h1 h2;subst h1;subst h2;show bindL kindOf ((p,w) :: P.zip vs) m p=_
  unfold bindL;rw[De λv hv=>(fG.mp nd).1 (Pa hv).1,if_pos hk];simp
 | p :: P,w :: vs,i+1,m,nd,h1,h2,hk=>by
  show bindL kindOf ((p,w) :: P.zip vs) m x=_
  unfold bindL;exact Dg (i:=i) (fG.mp nd).2 (by simpa using h1) (by simpa using h2) hk
theorem Dj {kindOf:Str->Option NameKind} {x:Str} {v:Value}:∀{P:List Str} {vs:List Value} {i:Nat} {m:Str->Option Value},P.Nodup->P[i]?=some x->vs[i]?=some v->kindOf x≠some .local →
  bindC kindOf (P.zip vs) m x=some v
 | [],_,_,_,_,h,_,_=>by simp at h
 | _ :: _,[],_,_,_,_,h,_=>by simp at h
 | p :: P,w :: vs,0,m,nd,h1,h2,hk=>by
  simp at h1 h2;subst h1;subst h2;show bindC kindOf ((p,w) :: P.zip vs) m p=_
  unfold bindC;rw[Di λv hv=>(fG.mp nd).1 (Pa hv).1,if_neg hk];simp
 | p :: P,w :: vs,i+1,m,nd,h1,h2,hk=>by
  show bindC kindOf ((p,w) :: P.zip vs) m x=_
  unfold bindC;exact Dj (i:=i) (fG.mp nd).2 (by simpa using h1) (by simpa using h2) hk
def start (N:List Str) (vs:List V):St:=vs.map some++List.replicate (N.9 - vs.9) none
def UD:List Str->List V->St
 | [],_=>[]
 | _ :: N,[]=>none :: UD N []
 | _ :: N,v :: vs=>some v :: UD N vs
theorem IZ:∀{N:List Str} {vs:List V},vs.9<=N.9->start N vs=UD N vs
 | [],[],_=>rfl
 | [],_ :: _,h=>absurd h (Nat.not_succ_le_zero _)
 | _ :: N,[],_=>congrArg (none :: ·) (IZ (N:=N) (vs:=[]) (aW _))
 | _ :: N,v :: vs,h=>by
  show some v :: (vs.map some++List.replicate (N.9+1 - (vs.9+1)) none)=some v :: UD N vs
  rw[Nat.add_sub_add_right,<- IZ (Nat.le_of_succ_le_succ h)];rfl
def HZ (CX:O2) (P:Program) (w:World) (K:FG9) (mg:Str->Option Value) (base:Heap) (N:List Str) (qual:Str) (scope:Scope) (f:Addr) (cd:Value) (A:Around) (outer:List Env) (s:Shared) (H:Hp) (E:XK):Cx where
 prog:=P
 w:=w
 K:=K
 mg:=mg
 base:=base
 A:=A.deeper (envOfC qual scope s.heap.objs.size f cd)
 N:=N
 s₀:=s
 H₀:=H
 env:=envOfC qual scope s.heap.objs.size f cd
 outer:=outer
 stack:=envOfC qual scope s.heap.objs.size f cd :: outer
 ex:=[]
 calm:=true
 fn:=λ_=>true
 pn:=[]
 xe:=λe s'=>wpAny (model P w) (A.deeper (envOfC qual scope s.heap.objs.size f cd)) (leaving (envOfC qual scope s.heap.objs.size f cd) e) (λ_ s''=>CX outer H s E e s'') (λe' s''=>CX outer H s E e' s'') s'
theorem Ic {sc:Scope} (h:sc.names.lookup x=some .cell):∃c,(cellsFrom n sc.names []).lookup x=some c:=by
 have q:=yV sc.names n [] (.inl h);exact UL.mp q
theorem L7 {K:FG9} 
  (S:uN N ps scope) (hd:A.handled=none) (e0:Ka P w K mg base A outer s H) (hl:vs.9=ps.9) (r:cS vs us)
  (x:InCallC s s.heap.objs.size (bindL (envOfC qual scope s.heap.objs.size f cd).kindOf (ps.zip us) λ_=>none) (cellsFrom (s.6+1) scope.names []) (bindC (envOfC qual scope s.heap.objs.size f cd).kindOf (ps.zip us) λ_=>none) s1) :
  Inv (HZ CX P w K mg base N qual scope f cd A outer s H E) [] (start N vs) H s1:=by
 have hpl:ps.9<=N.9:=by have:=congrArg List.length S.pre;rw[bY] at this;lia
 obtain h1|tk|rfl|hk:=x.done;have noA:∀b:Addr,b∉(HZ CX P w K mg base N qual scope f cd A outer s H E).ex:=λb z=>absurd (show b∈([]:List Addr) from z) (by simp)
 refine #[#[e0.mod,S.kind,rfl,rfl,ah _,λy z c h1 h2=>?_,λy hy=>?_,λy c _ h=>?_,λ_=>hd,Around.frames_deeper e0.frames,.inr #[rfl,rfl],λb z=>absurd z (noA b),e0.bs,e0.bsz,λb _ _=>noA b,λb z=>absurd z (noA b),e0.funs,e0.frf],
  rfl,e0.bare,Un.kept hk,#[_,x.toInCall.ns,λi y v h1 h2 h3=>?_],λy c h=>#[_,x.cell y c h],e0.hok.fresh (ah _),λy c h=>?_,λp hp=>absurd (show p∈([]:List (Addr×Obj)) from hp) (by simp),e0.hok.kept hk,?_]
 ·exact name_of_addr x.apart (mV h1) (mV h2)
 ·have hy:scope.names.lookup y=some .cell\/scope.names.lookup y=some .free:=hy;rcases hy with hy | hy
  ·exact Ic hy
  ·exact absurd rfl (S.nofree _ (mV hy))
 ·exact dn (x.above y c (mV h))
 ·have hi:i < vs.9:=by
   unfold start at h2;by_cases hi:i < vs.9
   ·exact hi
   ·rw[a7 (by simpa using hi)] at h2;rw[gR] at h2
    split at h2 <;> cases h2
  have ha:vs[i]?=some v:=by
   unfold start at h2;rw[bA (by simpa using hi),aB] at h2;cases e:vs[i]? with
   | none=>rw[e] at h2;cases h2
   | some a=>rw[e] at h2;cases h2;rfl
  obtain u|hu|rv:=r.get ha
  have hp:ps[i]?=some y:=by
   rw[<- S.pre,jo ()];exact h1
  have ndP:ps.Nodup:=by rw[<- S.pre];exact S.nd.sublist (List.take_sublist _ _)
  refine #[u,rv,?_];rcases S.par y (ar hp) with k | k
  ·exact .inl #[k,Dg ndP hp hu k]
  ·obtain c|e:=Ic (n:=s.6+1) k;refine .inr #[.inl k,c,e,?_];have q:=x.cell y c e;rw[Dj ndP hp hu (by show scope.names.lookup y≠_;rw[k];decide)] at q;exact q
 ·exact e0.hok.fresh (dn (x.above y c (mV h)))
 ·unfold start;show _=N.9
  rw[aj,ag,aV]
  lia
theorem VH {K:FG9} {dV kV doc pm cdv ct oc:Value} 
 (lk:K.lookup f=some #[oc,od,.func (PySem.W.fnOf name qual params body scope dV kV doc pm an cdv ct),osl]) (hcd:PySem.W.codeIn K cdv qual=true) (S:uN N ps scope)
  (len:∀vs H Q E,sp vs H Q E->vs.9=ps.9)
  (hbody:∀(A:Around) (outer:List Env) (s:Shared) (H:Hp) (vs:List V) (Q:VK) (E:XK),lV k (A.deeper (envOfC qual scope s.heap.objs.size f cdv))->sp vs H Q E →
   ∃t,IL (HZ CX P w K mg base N qual scope f cdv A outer s H E) body t/\t { nx:=λ_ H'=>Q .non H',rt:=Q } (start N vs) H) :
  oN P w K mg base CX (k+1) f (PySem.W.fnOf name qual params body scope dV kV doc pm an cdv ct) ps sp:=by
 refine #[len,λA outer s H args us vs Q E hr e0 hb r hsp=>?_];have hl:=len _ _ _ _ hsp;have KX:K.In s.8:=e0.mod.kin.keeps λb o e=>(e0.bs b o e).1
 have lim:s.heap.NoLimit:=e0.mod.nolimit.keeps λb o e=>(e0.bs b o e).1
 have hkind:∀y∈ps.zip us,scope.names.lookup y.1=some .local\/(scope.names.lookup y.1=some .cell/\((cellsFrom (s.6+1) scope.names []).lookup y.1).isSome=true):=λ#[n,v] hy=>by
  rcases S.par n (Pa hy).1 with q | q
  ·exact .inl q
  ·exact .inr #[q,yV _ _ _ (.inl q)]
 refine codeAny_call_function hr.depth (KX _ _ lk) rfl S.co S.gen rfl (PySem.W.codeRec_of KX hcd) (hb _ _ _ _ ?_);refine wpAny_newFunctionEnv_cells S.kind hkind λenv he s1 x=>?_
 subst he;refine #[lim.keeps x.toInCall.keep,codeAny_func ?_];obtain t|ht|hq:=hbody A outer s H vs Q E (hr.deeper _) hsp;have I:Inv (HZ CX P w K mg base N qual scope f cdv A outer s H E) [] (start N vs) H s1:=L7 S hr.hd e0 hl r x;refine wpAny_mono (ht [] s1 (start N vs) H _ I hq) (λfl s' hs=>?_) λe s' hs=>hs
 have fin:∀{σ':St} {H':Hp} {v:V} {u:Value},Inv (HZ CX P w K mg base N qual scope f cdv A outer s H E) [] σ' H' s'->RelV v u->Q v H'->CE outer P w H s Q u s' :=
  λ{σ' H' v u} J rv q=>#[v,H',J.os,J.bare,J.base,J.hok,rv,q]
 cases fl with
 | ret u =>
  obtain v|σ'|H'|J|rv|q:=hs;exact fin J rv q
 | next =>
  obtain σ'|H'|J|q:=hs;exact fin (v:=V.non) (u:=Value.none) J rfl q
 | brk =>
  obtain _|_|_|q:=hs;exact False.elim q
 | cont =>
  obtain _|_|_|q:=hs;exact False.elim q
section
variable {X:Cx} {x:Str} {p pos:Pos} {e:Expr} {es:List Expr} {t:TA} {id T:String} {r:List V->Hp->VK->Prop}
def We (r:List V->Hp->VK->Prop) (t:TA):TE:=λσ H Q=>t σ H λvs H1=>r vs H1 Q
theorem ba (hc:o5 X (.builtin id) r) (hg:Gl X x) (hm:X.mg x=none) (hv:bootBuiltins x=some (.builtin id)) (ha:PA X (e :: es) t) (hn:x≠"__name__":=by decide) (hdb:(x == ("__debug__":Str))=false:=by decide)
  (he:starEach (e :: es) X.env=(false,eval e X.env) :: starEach es X.env:=by rfl) (hpl:(backTo pos (starEach es X.env)).any (·.1)=false:=by rfl):PE X (.Call (.Name x p) (e :: es) [] pos) (We r t):=by
 intro pins s σ H Q I h;refine wpAny_Call_Name_kw (k9 I hg hm hv ?_ hn hdb);exact PyProof.Rows.callWith_builtin1 (iI (ha pos pins s σ H _ I h) λus s1 #[vs,H1,I1,r1,q1]=>hc pins s1 σ H1 vs us Q I1 r1 q1) he hpl
theorem dB (hc:o5 X (.type T) r) (hg:Gl X x) (hm:X.mg x=none) (hv:bootBuiltins x=some (.type T)) (ha:PA X (e :: es) t) (hn:x≠"__name__":=by decide) (hdb:(x == ("__debug__":Str))=false:=by decide)
  (he:starEach (e :: es) X.env=(false,eval e X.env) :: starEach es X.env:=by rfl) (hpl:(backTo pos (starEach es X.env)).any (·.1)=false:=by rfl):PE X (.Call (.Name x p) (e :: es) [] pos) (We r t):=by
 intro pins s σ H Q I h;refine wpAny_Call_Name_kw (k9 I hg hm hv ?_ hn hdb);exact PyProof.Rows.callWith_type1 (iI (ha pos pins s σ H _ I h) λus s1 #[vs,H1,I1,r1,q1]=>hc pins s1 σ H1 vs us Q I1 r1 q1) he hpl
end
end L2
namespace HT
open PySem PyProof.Rows
section
open PySem.SeqAt
open PySem.AutoSeq1 (wpAny_loadPart')
open PySem.MeetsSeq PySem.MeetsSeq2 PySem.MeetsSeq3
end
section
variable {prog:Program} {w:World} {A:Around} {E:Value->Shared->Prop} {s:Shared}
def Gf (n d:Nat):Option Int->Nat
 | none=>d
 | some v=>if v < 0 then (v+(n:Int)).toNat else min v.toNat n
theorem Ge (n d:Nat):Gf n d none=d:=rfl
theorem Kx (n d k:Nat):Gf n d (some (k:Int))=min k n:=by
 show (if (k:Int) < 0 then ((k:Int)+(n:Int)).toNat else min (k:Int).toNat n)=min k n
 rw[if_neg (),Int.toNat_natCast]
end
end HT
namespace L2
open PySem PySem.Spec PyProof.Rows
abbrev TO:=St->Hp->(Option Int->Hp->Prop)->Prop
def PO (X:Cx) (e:Option Expr) (t:TO):Prop :=
 ∀(pins:List (Addr×Obj)) (s:Shared) (σ:St) (H:Hp) (Q:Option Int->Hp->Prop),Inv X pins σ H s->t σ H Q →
  wpAny (model X.prog X.w) X.A (evalPart e X.env) (λu s'=>∃o H',Inv X pins σ H' s'/\IsPart u o/\Q o H') X.xe s
def Kg:TO:=λ_ H Q=>Q none H
def RJ (t:TE):TO:=λσ H Q=>t σ H λx H1=>∃i,x=.int i/\Q (some i) H1
theorem intsAre_of:∀{us:List Value},cS (ns.map V.int) us->IntsAre us ns:=by
 induction ns with
 | nil=>intro us r;rw[List.map_nil] at r;cases r;exact .nil
 | cons n ns ih =>
  intro us r;rw[jm] at r;cases r with
  | cons r1 r2 =>
   obtain t|e:=r1;subst e;exact .cons n t (ih r2)
section
variable {X:Cx} {e:Expr} {te:TE} {lo hi:Option Expr} {tl th:TO} {pos p2:Pos}
theorem KE:PO X none Kg:=by
 intro pins s σ H Q I h;rw[evalPart_none];exact wpAny_pure #[none,H,I,.none,h]
theorem KD (h:PE X e te):PO X (some e) (RJ te):=by
 intro pins s σ H Q I hw;rw[evalPart_some];refine iI (h pins s σ H _ I hw) λu s1 #[x,H1,I1,r1,q1]=>?_
 obtain i|rfl|q:=q1;obtain t|rfl:=r1;exact #[some i,H1,I1,.int i t,q]
def SlR (X:Cx) (r:V->Option Int->Option Int->Hp->VK->Prop):Prop :=
 ∀(pins:List (Addr×Obj)) (s:Shared) (σ:St) (H:Hp) (x:V) (v vl vu:Value) (lo hi:Option Int) (sl:Addr) (Q:VK),Inv X pins σ H s->RelV x v->s.heap.IsSliceOf sl vl vu .none->IsPart vl lo->IsPart vu hi->r x lo hi H Q →
  ∃T id,typeLookup (.type T) "__getitem__"=pure (some (.builtin id))/\s.TypeIs v T/\wpAny (model X.prog X.w) X.A (getItem v (.ref sl)) (EP X pins σ Q) X.xe s
def tSl (r:V->Option Int->Option Int->Hp->VK->Prop) (te:TE) (tl th:TO):TE:=λσ H Q=>te σ H λx H1=>tl σ H1 λl H2=>th σ H2 λu H3=>r x l u H3 Q
theorem Gy (hr:SlR X r) (he:PE X e te) (hl:PO X lo tl) (hu:PO X hi th):PE X (.Subscript e (.Slice lo hi none p2) pos) (tSl r te tl th):=by
 intro pins s σ H Q I h;refine Subscript_ (iI (he pins s σ H _ I h) λv s1 #[x,H1,I1,r1,q1]=>?_);refine wpAny_Slice (iI (hl pins s1 σ H1 _ I1 q1) λvl s2 #[l,H2,I2,pl,q2]=>iI (hu pins s2 σ H2 _ I2 q2) λvu s3 #[u,H3,I3,pu,q3]=>?_);rw[evalPart_none];refine wpAny_pure ?_;have I4:Inv X pins σ H3 { s3 with heap:=s3.heap.push { cls:=.type "slice",data:=.fields [vl,vu,.none].toArray } }:=I3.kept (t':=s3.toks) λb ob q=>Heap.get?_push_of_some _ q
 obtain T|id|hT|ht|hg:=hr pins { s3 with heap:=s3.heap.push { cls:=.type "slice",data:=.fields [vl,vu,.none].toArray } } σ H3 x v vl vu l u s3.heap.objs.size Q I4 r1 (Heap.IsSliceOf.new ..) pl pu q3;show wpAny (model X.prog X.w) X.A (subscriptTail e (.Slice lo hi none p2) v (.ref s3.6)) (EP X pins σ Q) X.xe { s3 with heap:=s3.heap.push { cls:=.type "slice",data:=.fields [vl,vu,.none].toArray } }
 exact tail_any (ops:=[.ref s3.6,v]) ht hT hg (by with_unfolding_all rfl)
def wW (xs:List V) (lo hi:Option Int):List V:=(xs.drop (HT.Gf xs.9 0 lo)).take (HT.Gf xs.9 xs.9 hi - HT.Gf xs.9 0 lo)
theorem yu (xs:List V) (lo hi:Option Int):(wW xs lo hi).9<=xs.9:=by
 unfold wW;rw[bY,MH]
 lia
end
def MC (n:Nat) (i:Int):Option Nat:=if 0<=i then (if i < n then some i.toNat else none) else if -(n:Int)<=i then some (i+n).toNat else none
def JT {α:Type} (xs:List α) (i:Int):Option α:=(MC xs.9 i).bind λj=>xs[j]?
theorem KS (h:MC n i=some j):seqIndex? i n=some j/\j < n/\-(n:Int)<=i/\i < n:=by
 unfold MC at h;by_cases h0:0<=i
 ·rw[if_pos h0] at h;by_cases h1:i < n
  ·rw[if_pos h1] at h;have e:i.toNat=j:=cp h;exact #[by rw[seqIndex_of h0 h1,e],(),(),h1]
  ·rw[if_neg h1] at h;cases h
 ·rw[if_neg h0] at h;by_cases h1:-(n:Int)<=i
  ·rw[if_pos h1] at h;have e:(i+n).toNat=j:=cp h;exact #[by rw[seqIndex_neg () h1,e],(),h1,()]
  ·rw[if_neg h1] at h;cases h
theorem E6 {xs:List α} {v:α} (h:JT xs i=some v):∃j,seqIndex? i xs.9=some j/\xs[j]?=some v/\j < xs.9/\-(xs.9:Int)<=i/\i < xs.9:=by
 unfold JT at h;cases e:MC xs.9 i with
 | none=>rw[e] at h;cases h
 | some j =>
  rw[e] at h;obtain h1|h2|h3|h4:=KS e;exact #[j,h1,h,h2,h3,h4]
theorem fJ {xs:List α} {j:Nat} {v:α} (h:xs[j]?=some v):JT xs (j:Int)=some v:=by
 have hj:j < xs.9:=(aJ.mp h).1
 have e:MC xs.9 (j:Int)=some j:=by
  unfold MC;rw[if_pos (),if_pos ()];simp
 unfold JT;rw[e];exact h
theorem wY (xs:List α) (v:α):JT (xs++[v]) (-1)=some v:=by
 have hl:(xs++[v]).9=xs.9+1:=by simp
 have e:MC (xs++[v]).9 (-1)=some xs.9:=by
  unfold MC;rw[hl,if_neg (),if_pos ()];congr 1
  lia
 unfold JT;rw[e];show (xs++[v])[xs.9]?=some v
 simp
def Rj (b:Expr):Prop:=∀o i,subscripted b false o i=operate [o,i] (getItem o i)
def VS (X:Cx) (r:R2):Prop :=
 ∀(value slice:Expr) (pins:List (Addr×Obj)) (s:Shared) (σ:St) (H:Hp) (x y:V) (v u:Value) (Q:VK),Inv X pins σ H s->RelV x v->RelV y u->r x y H Q →
  subscripted slice false v u=operate [v,u] (getItem v u)->wpAny (model X.prog X.w) X.A (subscriptTail value slice v u) (EP X pins σ Q) X.xe s
def MtR (X:Cx) (id:String) (r:V->List V->Hp->VK->Prop):Prop :=
 ∀(pins:List (Addr×Obj)) (s:Shared) (σ:St) (H:Hp) (x:V) (xs:List V) (v:Value) (us:List Value) (Q:VK),Inv X pins σ H s->RelV x v->cS xs us->r x xs H Q →
  wpAny (model X.prog X.w) X.A (call (.builtin id) (v :: us)) (EP X pins σ Q) X.xe s
section
variable {X:Cx} {a b:Expr} {ta tb:TE} {pos:Pos}
theorem aS {r:R2} (hr:VS X r) (ha:PE X a ta) (hb:PE X b tb) (hs:Rj b:=by intro _ _;rfl):PE X (.Subscript a b pos) (UW r ta tb):=by
 intro pins s σ H Q I h;exact Subscript_ (Uo ha hb I h λv u s2 x y H2 I2 rx ry q=>hr a b pins s2 σ H2 x y v u Q I2 rx ry q (hs _ _))
def TB (K:FG9):R2:=λx y H Q=>∃p xs i v,x=.ref p/\y=.int i/\bC K H p xs/\JT xs i=some v/\Q v H
def Tz (K:FG9):R2:=λx y H Q=>∃p xs i v,x=.ref p/\y=.int i/\j8 K H p xs/\JT xs i=some v/\Q v H
theorem bE:VS X (TB X.K):=by
 intro value slice pins s σ H x y v u Q I rx ry h hs;obtain p|xs|i|z|rfl|rfl|hq|he|q:=h;cases rx;obtain t|rfl:=ry;obtain its|r|pl|hz:=I.list hq;obtain j|h1|h2|h3|h4|h5:=E6 he;obtain w|ew|rw':=r.get h2;have hl:=r.9;have hn:=AE;have fin:EP X pins σ Q w s:=#[z,H,I,rw',q];by_cases h0:0<=i
 ·have hj:i.toNat=j:=by
   rw[seqIndex_of h0 h5] at h1;exact cp h1
  exact item_listR pl.isList h0 () (by rw[hj];simpa using ew) fin hs
 ·have hj:(i+(its.5.7:Int)).toNat=j:=by
   rw[seqIndex_neg () h4] at h1;rw[aG,<- hl];exact cp h1
  exact subscriptTail_builtinR (x:=w) pl.isList.typeIs slot_list_getitem.lookup
   (wpAny_getItem_list_neg (Q:=λr s'=>r=w/\EP X pins σ Q r s') pl.isList () (by rw[aG] <;> lia) () (by rw[hj];simpa using ew) #[rfl,fin]) hs
theorem br:VS X (Tz X.K):=by
 intro value slice pins s σ H x y v u Q I rx ry h hs;obtain p|xs|i|z|rfl|rfl|hq|he|q:=h;cases rx;obtain t|rfl:=ry;obtain its|r|pl|hz:=I.tuple hq;obtain j|h1|h2|h3|h4|h5:=E6 he;obtain w|ew|rw':=r.get h2;have hl:=r.9;have hn:=AE;have fin:EP X pins σ Q w s:=#[z,H,I,rw',q]
 exact subscriptTail_builtinR (x:=w) pl.typeIs slot_tuple_getitem.lookup
  (getItem_tuple (j:=j) (Q:=λr s'=>r=w/\EP X pins σ Q r s') pl () () (by rw[aG,<- hl];exact h1) (by simpa using ew) #[rfl,fin]) hs
theorem Jv (its:List Value) (n j:Nat) (u:Value):Obj.mapSeq (·.setIfInBounds j u) { cls:=.type "list",data:=.seq its.toArray n }={ cls:=.type "list",data:=.seq (its.set j u).toArray n }:=by
 simp [Obj.mapSeq]
theorem Inv.lst {pins:List (Addr×Obj)} {σ:St} {H:Hp} {s:Shared} {p:Addr} {xs:List V} (I:Inv X pins σ H s) (h:H p=some (.lst xs)) :
  ∃(its:List Value) (n:Nat),cS xs its/\s.heap.get? p=some { cls:=.type "list",data:=.seq its.toArray n }/\xs.9<=sizeLine:=by
 obtain z|its|n|r|e:=I.hok p _ h;exact #[its,n,r,e,z]
theorem Inv.lstUpd {σ:St} {its its':List Value} (I:Inv X pins σ H s) (h:H p=some (.lst xs))
  (ho:s.heap.get? p=some { cls:=.type "list",data:=.seq its.toArray n }) (hf:f { cls:=.type "list",data:=.seq its.toArray n }={ cls:=.type "list",data:=.seq its'.toArray n' }) (r:cS ys its') (hz:ys.9<=sizeLine) (t:Nat) :
  Inv X pins σ (upd H p (.lst ys)) { s with heap:=s.heap.update p f,toks:=t }:=by
 have e:(s.heap.update p f).get? p=some { cls:=.type "list",data:=.seq its'.toArray n' }:=by
  rw[Heap.get?_update_self f ho (by rw[hf] <;> rfl),hf]
 refine I.write (x:=p) (e:=p) (by rw[h];trivial) (.inl rfl) (λb u hb q=>(Heap.get?_update_other _ _ (Ne.symm hb)).trans q) #[_,e] ?_;exact #[hz,its',n',r,e]
def RV:V->V->V->Hp->(Hp->Prop)->Prop:=λo i v H Q=>∃p xs k j,o=.ref p/\i=.int k/\H p=some (.lst xs)/\MC xs.9 k=some j/\Q (upd H p (.lst (xs.set j v)))
theorem set_list:Ut X RV:=by
 intro pins s σ H o i v ov iv u Q I ro ri rv h;obtain p|xs|k|j|rfl|rfl|hp|hj|q:=h;cases ro;obtain t|rfl:=ri;obtain its|n|r|ho|hz:=I.lst hp;obtain h1|h2|h3|h4:=KS hj;have hl:=r.9;have hn:=AE
 have I':Inv X pins σ (upd H p (.lst (xs.set j v))) { s with heap:=s.heap.update p (Obj.mapSeq (·.setIfInBounds j u)) } :=
  I.lstUpd hp ho (Jv its n j u) (r.set rv j) (by rw[eH];exact hz) s.toks
 by_cases h0:0<=k
 ·have hk:k.toNat=j:=by
   rw[seqIndex_of h0 h4] at h1;exact cp h1
  exact PySem.W.ki_setAt ho h0 () (by rw[aG,<- hl];exact h4) (by rw[hk];exact #[_,I',q])
 ·have hk:(k+(its.5.7:Int)).toNat=j:=by
   rw[seqIndex_neg () h3] at h1;rw[aG,<- hl];exact cp h1
  exact PySem.W.ki_setBack ho () (by rw[aG,<- hl];exact h3) () (by rw[hk];exact #[_,I',q])
theorem DL (lo hi:Option Int) (n:Nat):(sliceBounds lo hi none n).1=((HT.Gf n 0 lo:Nat):Int)/\(sliceBounds lo hi none n).2.1=((HT.Gf n n hi:Nat):Int)/\(sliceBounds lo hi none n).2.2=1:=by
 refine #[?_,?_,rfl]
 ·cases lo with
  | none=>simp [sliceBounds,HT.Gf]
  | some i =>
   simp only[sliceBounds,HT.Gf,Option.getD_none,show (1:Int) > 0 by decide,if_true];by_cases h:i < 0
   ·simp only[h,if_true] <;> lia
   ·simp only[h,if_false] <;> lia
 ·cases hi with
  | none=>simp [sliceBounds,HT.Gf]
  | some i =>
   simp only[sliceBounds,HT.Gf,Option.getD_none,show (1:Int) > 0 by decide,if_true];by_cases h:i < 0
   ·simp only[h,if_true] <;> lia
   ·simp only[h,if_false] <;> lia
theorem Bo (its:List Value) (lo hi:Option Int):slicePick its.toArray lo hi none=((its.drop (HT.Gf its.9 0 lo)).take (HT.Gf its.9 its.9 hi - HT.Gf its.9 0 lo)).5:=by
 obtain h1|h2|h3:=DL lo hi its.5.7;unfold slicePick;rw[h1,h2,h3];simp only[sliceRange_one,pick_run,aG] <;> rfl
def Vm (K:FG9):V->Option Int->Option Int->Hp->VK->Prop:=λx lo hi H Q=>∃a xs,x=.ref a/\bC K H a xs/\∀p,H p=none->Q (.ref p) (upd H p (.lst (wW xs lo hi)))
theorem Kw:SlR X (Vm X.K):=by
 intro pins s σ H x v vl vu lo hi sl Q I rx hs pl pu h;obtain a|xs|rfl|hx|q:=h;cases rx;obtain its|r|ht|hz:=I.list hx;have hlen:=r.9;refine #["list",_,slot_list_getitem.lookup,ht.isList.typeIs,?_];refine wpAny_getItem_list_slice ht.isList hs pl pu .none (by simp) ?_ (by rw[aG] <;> lia);rw[Bo,<- hlen];refine #[.ref s.6,_,I.laid (t':=s.toks) (o:=.lst (wW xs lo hi)) (λb ob q=>Heap.get?_push_of_some _ q) (ah _) ?_,rfl,q _ (I.hok.fresh (ah _))];exact #[af (yu xs lo hi) hz,_,0,(r.drop (HT.Gf xs.9 0 lo)).take (HT.Gf xs.9 xs.9 hi - HT.Gf xs.9 0 lo),Heap.get?_push_size _ rfl]
def pY:V->Bool
 | .non=>true
 | .bl _=>true
 | .int _=>true
 | .str _=>true
 | _=>false
def Si:V->V->Bool
 | .non,.non=>true
 | .bl a,.bl b=>a == b
 | .bl a,.int b=>(if a then 1 else 0) == b
 | .int a,.bl b=>a == (if b then 1 else 0)
 | .int a,.int b=>a == b
 | .str a,.str b=>a == b
 | _,_=>false
theorem Ud (ry:RelV y u) (rx:RelV x v) (fy:pY y=true) (fx:pY x=true):SeqAt.EqAt A s u v (Si y x):=by
 cases y with
 | non =>
  cases ry;cases x with
  | non=>cases rx;exact SeqAt.EqAt.same _
  | bl b=>cases rx;exact SeqAt.EqAt.none_bool b
  | int b=>obtain t|rfl:=rx;exact SeqAt.EqAt.none_int b t
  | str b=>obtain t|rfl:=rx;exact SeqAt.EqAt.none_str b t
  | _=>exact absurd (show false=true from fx) bf
 | bl a =>
  cases ry;cases x with
  | non=>cases rx;exact SeqAt.EqAt.bool_none a
  | bl b=>cases rx;exact SeqAt.EqAt.bool_bool a b
  | int b=>obtain t|rfl:=rx;exact SeqAt.EqAt.bool_int a b t
  | str b=>obtain t|rfl:=rx;exact SeqAt.EqAt.bool_str a b t
  | _=>exact absurd (show false=true from fx) bf
 | int a =>
  obtain t'|rfl:=ry;cases x with
  | non=>cases rx;exact SeqAt.EqAt.int_none a t'
  | bl b=>cases rx;exact SeqAt.EqAt.int_bool a t' b
  | int b=>obtain t|rfl:=rx;exact SeqAt.EqAt.int_int a t' b t
  | str b=>obtain t|rfl:=rx;exact SeqAt.EqAt.int_str a t' b t
  | _=>exact absurd (show false=true from fx) bf
 | str a =>
  obtain t'|rfl:=ry;cases x with
  | non=>cases rx;exact SeqAt.EqAt.str_none a t'
  | bl b=>cases rx;exact SeqAt.EqAt.str_bool a t' b
  | int b=>obtain t|rfl:=rx;exact SeqAt.EqAt.str_int a t' b t
  | str b=>obtain t|rfl:=rx;exact SeqAt.EqAt.str_str a t' b t
  | _=>exact absurd (show false=true from fx) bf
 | _=>exact absurd (show false=true from fy) bf
def QT (x:V) (u:Value):Bool:=match u with
 | .none=>Si .non x
 | .bool b=>Si (.bl b) x
 | .int i _=>Si (.int i) x
 | .str z _=>Si (.str z) x
 | _=>false
theorem Oz (r:RelV y u) (f:pY y=true):QT x u=Si y x:=by
 cases y with
 | non=>cases r;rfl
 | bl b=>cases r;rfl
 | int i=>obtain t|rfl:=r;rfl
 | str z=>obtain t|rfl:=r;rfl
 | _=>exact absurd (show false=true from f) bf
theorem E8 {x:V}:∀{xs:List V} {us:List Value},cS xs us->xs.all pY=true->us.any (QT x)=xs.any λy=>Si y x
 | _,_,.nil,_=>rfl
 | y :: xs,u :: us,.cons r t,f=>by
  rw[IJ,eJ] at f;rw[List.any_cons,List.any_cons,Oz r f.1,E8 t f.2]
theorem Ax {A:Around} {s:Shared} {x:V} {v:Value} (rx:RelV x v) (fx:pY x=true):∀{xs:List V} {us:List Value},cS xs us->xs.all pY=true->∀u∈us,SeqAt.EqAt A s u v (QT x u)
 | _,_,.nil,_=>λu hu=>by cases hu
 | y :: xs,u :: us,.cons r t,f=>λu' hu=>by
  rw[IJ,eJ] at f;rcases aD.mp hu with rfl | hu
  ·rw[Oz r f.1];exact Ud r rx f.1 fx
  ·exact Ax rx fx t f.2 u' hu
def V4 (x:V) (xs:List V):Bool:=xs.any λy=>Si y x
def rIn (K:FG9) (neg:Bool):R2:=λx y H Q=>∃p xs,y=.ref p/\(bC K H p xs\/j8 K H p xs)/\pY x=true/\xs.all pY=true/\Q (.bl (if neg then !V4 x xs else V4 x xs)) H
theorem LK:yT X (compareOp .In) (rIn X.K false):=by
 intro pins s σ H x y v u Q I rx ry h;obtain p|xs|rfl|hq|fx|fs|q:=h;cases ry;rcases hq with hq | hq
 ·obtain its|r|pl|hz:=I.list hq;refine SeqAt.in_listAt (QT x) pl.isList (λw hw=>Ax rx fx r fs w (by simpa using hw)) #[.bl _,H,I,rfl,?_];rw[show its.toArray.any (QT x)=its.any (QT x) by simp,E8 r fs];exact q
 ·obtain its|r|pl|hz:=I.tuple hq;refine SeqAt.in_tupleAt (QT x) pl (λw hw=>Ax rx fx r fs w (by simpa using hw)) #[.bl _,H,I,rfl,?_];rw[show its.toArray.any (QT x)=its.any (QT x) by simp,E8 r fs];exact q
theorem aR:o5 X (.builtin "len") (λxs H Q=>∃p ys,xs=[.ref p]/\(bC X.K H p ys\/j8 X.K H p ys)/\Q (.int ys.9) H):=by
 intro pins s σ H xs us Q I r h;obtain p|ys|rfl|hq|q:=h;obtain u|rfl|rx:=vals1 r;cases rx;have hn:=AE;rcases hq with hq | hq
 ·obtain its|r'|pl|hz:=I.list hq;have hlen:=r'.9;exact Calls.call_len_list pl.isList (by simp only[aG] <;> lia) #[.int ys.9,H,I.tok _,#[s.toks+1,by rw[aG,hlen]],q]
 ·obtain its|r'|pl|hz:=I.tuple hq;have hlen:=r'.9;exact len_tuple pl (by simp only[aG] <;> lia) #[.int ys.9,H,I.tok _,#[s.toks+1,by rw[aG,hlen]],q]
theorem rF:o5 X (.type "list") (λxs H Q=>∃p ys,xs=[.ref p]/\(bC X.K H p ys\/j8 X.K H p ys)/\∀l,H l=none->Q (.ref l) (upd H l (.lst ys))):=by
 intro pins s σ H xs us Q I r h;obtain p|ys|rfl|hq|q:=h;obtain u|rfl|rx:=vals1 r;cases rx
 have fin:∀(its:List Value),cS ys its->ys.9<=sizeLine->∀(h':Heap) (c':Nat),(∀b o',s.heap.get? b=some o'->h'.get? b=some o') →
   h'.get? s.6=some { cls:=.type "list",dict:=none,data:=.seq its.toArray c',slots:=[].toArray }->EP X pins σ Q (.ref s.6) { s with heap:=h' }:=λits r' hz h' c' kp e =>
  #[.ref s.6,_,I.laid (t':=s.toks) kp (ah _) (show iw X.prog X.w _ h' _ (.lst ys) from #[hz,its,c',r',e]),rfl,q _ (I.hok.fresh (ah _))]
 rcases hq with hq | hq
 ·obtain its|r'|pl|hz:=I.list hq;have hlen:=r'.9;obtain o|ho|hc|n|hd:=pl.isList;exact call_list_seq p (.inl rfl) ho hc hd (λh' c' kp e=>fin its r' hz h' c' kp e) (by simp only[aG] <;> lia)
 ·obtain its|r'|pl|hz:=I.tuple hq;have hlen:=r'.9;obtain o|ho|hc|n|hd:=pl;exact call_list_seq p (.inr rfl) ho hc hd (λh' c' kp e=>fin its r' hz h' c' kp e) (by simp only[aG] <;> lia)
theorem BV:o5 X (.type "tuple") (λxs H Q=>∃p ys,xs=[.ref p]/\((bC X.K H p ys/\∀l,H l=none->Q (.ref l) (upd H l (.tup ys)))\/(j8 X.K H p ys/\Q (.ref p) H))):=by
 intro pins s σ H xs us Q I r h;obtain p|ys|rfl|h:=h;obtain u|rfl|rx:=vals1 r;cases rx;rcases h with ⟨hq,q⟩ | ⟨hq,q⟩
 ·obtain its|r'|pl|hz:=I.list hq;have hlen:=r'.9;refine call_tuple_list pl.isList (λh' kp=>?_) (by simp only[aG] <;> lia);have I1:Inv X pins σ H { s with heap:=h' }:=I.kept (t':=s.toks) kp
  have I2:Inv X pins σ (upd H h'.objs.size (.tup ys)) { s with heap:=h'.push { cls:=.type "tuple",data:=.seq its.5 } } :=
   I1.laid (t':=s.toks) (λb o e=>Heap.get?_push_of_some _ e) (ah _) (show iw X.prog X.w _ _ _ (.tup ys) from #[hz,its,r',IsTup.new _ _])
  exact #[.ref h'.objs.7,_,I2,rfl,q _ (I1.hok.fresh (ah _))]
 ·obtain its|r'|pl|hz:=I.tuple hq;exact call_tuple_same pl #[.ref p,H,I,rfl,q]
def Wd (K:FG9) (T:String) (x:V) (H:Hp):Prop:=match x with
 | .str _=>T="str"
 | .int _=>T="int"
 | .ref p=>(T="list"/\∃xs,bC K H p xs)\/(T="tuple"/\∃o,K.lookup p=some o/\o.cls=.type "tuple"/\o.dict=none) \/
   (T="dict"/\((∃kvs,H p=some (.dK kvs))\/∃kvs,H p=some (.dT kvs)))\/(T="set"/\∃S n,H p=some (.set S n))
 | _=>False
theorem Sy {σ:St} (I:Inv X pins σ H s) (r:RelV x v) (ty:Wd X.K T x H) :
  s.TypeIs v T/\∀a,v=.ref a->∃ob,s.heap.get? a=some ob/\ob.dict=none:=by
 cases x with
 | str z =>
  obtain t|rfl:=r;cases (show T="str" from ty);exact #[typeIs_str s z t,λ_ e=>nomatch e]
 | int i =>
  obtain t|rfl:=r;cases (show T="int" from ty);exact #[typeIs_int s i t,λ_ e=>nomatch e]
 | ref p =>
  cases r;rcases ty with ⟨rfl,xs,hq⟩ | ⟨rfl,o,hk,hc,hd⟩ | ⟨rfl,hk⟩ | ⟨rfl,S,n,hk⟩
  ·obtain its|_|pl|_:=I.list hq;refine #[pl.isList.typeIs,λa e=>?_];cases e;obtain o|n|e|c|hd|_:=pl;exact #[o,e,hd]
  ·refine #[#[o,I.kIn p o hk,hc],λa e=>?_];cases e;exact #[o,I.kIn _ o hk,hd]
  ·have z:∃o,s.heap.get? p=some o/\o.ExactDict:=by
    rcases hk with ⟨kvs,hk⟩ | ⟨kvs,hk⟩
    ·obtain _|_|_|_|o|_|_|e|ex|_:=I.hok p _ hk;exact #[o,e,ex]
    ·obtain _|_|_|_|o|_|_|e|ex|_:=I.hok p _ hk;exact #[o,e,ex]
   obtain o|e|ex:=z;refine #[#[o,e,ex.1],λa e2=>?_];cases e2;exact #[o,e,ex.2.1]
  ·obtain o|_|_|_|e|ex|_:=I.hok p _ hk;refine #[#[o,e,ex.1],λa e2=>?_];cases e2;exact #[o,e,ex.2.1]
 | _=>exact False.elim ty
def tBM (K:FG9) (T:String) (r:V->List V->Hp->VK->Prop) (to:TE) (t:TA):TE:=λσ H Q=>to σ H λx H1=>Wd K T x H1/\t σ H1 λxs H2=>r x xs H2 Q
variable {o e:Expr} {es:List Expr} {to:TE} {t:TA} {name:Str} {apos cpos:Pos} {T id:String} {r:V->List V->Hp->VK->Prop}
theorem tT (pa:PlainAttrs T) (slot:Slot T name id) (hty:typeOf (.builtin id)=pure (.type "method_descriptor")) (hm:MtR X id r) (ho:PE X o to) (ha:PA X (e :: es) t)
  (hbase:attributeBase o name X.env (eval o X.env)=eval o X.env:=by rfl)
  (hfew:((backTo cpos (starEach (e :: es) X.env)).all (λx=>!x.1) && (backToKw cpos (keywordEach [] X.env)).all (λx=>x.1.isSome)
   && decide ((e :: es).9+([]:List Keyword).9+(if ([]:List Keyword).isEmpty then 0 else 1) < 30))=true:=by rfl)
  (hline:(apos.endLine == cpos.line)=true:=by rfl) (hs:starEach (e :: es) X.env=(false,eval e X.env) :: starEach es X.env:=by rfl) (hplain:(backTo cpos (starEach es X.env)).any (·.1)=false:=by rfl) :
  PE X (.Call (.Attribute o name apos) (e :: es) [] cpos) (tBM X.K T r to t):=by
 intro pins s σ H Q I h;refine wpAny_Call_method_late hbase hfew hline rfl (iI (ho pins s σ H _ I h) λv s1 #[x,H1,I1,r1,ty,q1]=>?_);obtain h1|h2:=Sy I1 r1 ty;refine #[T,id,pa,slot,hty,h1,h2,?_];have hA:=ha cpos pins s1 σ H1 _ I1 q1;rw[hs] at hA ⊢;refine Calls.callWith_builtin (by show (false || (backTo cpos (starEach es X.env)).any (·.1))=false;rw[hplain] <;> rfl) (Calls.evalArgs_plain ?_);exact iI hA λus s2 ⟨vs,H2,I2,r2,q2⟩=>hm pins s2 σ H2 x vs v us Q I2 r1 r2 q2
end
def Wu (X:Cx) (id:String) (r:V->List V->Hp->VK->Prop):Prop :=
 ∀(pins:List (Addr×Obj)) (s:Shared) (σ:St) (H:Hp) (x:V) (xs:List V) (v:Value) (us:List Value) (Q:VK),Inv X pins σ H s->RelV x v->cS xs us->r x xs H Q →
  wpAny (model X.prog X.w) X.A (call (.builtin id) (v :: us)) (EP X pins σ Q) X.xe s
theorem cS.one:∀{x:V} {us:List Value},cS [x] us->∃u,us=[u]/\RelV x u
 | _,_,.cons r .nil=>#[_,rfl,r]
theorem cS.eraseIdx:∀{xs:List V} {us:List Value} (i:Nat),cS xs us->cS (xs.eraseIdx i) (us.eraseIdx i)
 | _,_,_,.nil=>.nil
 | _,_,0,.cons _ t=>t
 | _,_,i+1,.cons r t=>.cons r (cS.eraseIdx i t)
theorem CY {α:Type}:∀(l:List α) (i:Nat),(l.eraseIdx i).9<=l.9
 | [],_=>ah _
 | _ :: _,0=>oI _
 | _ :: r,i+1=>dY (CY r i)
section
variable {σ:St}
theorem Inv.lset {its its':List Value} (I:Inv X pins σ H s) (hH:H l=some (.lst xs))
  (e:s.heap.get? l=some { cls:=.type "list",data:=.seq its.toArray n }) (hf:f its.5=its'.5) (hv:cS ys its') (hz:ys.9<=sizeLine) :
  Inv X pins σ (upd H l (.lst ys)) { s with heap:=s.heap.update l (Obj.mapSeq f),toks:=t' }:=by
 have q:=mI e f;rw[hf] at q;refine I.write (x:=l) (e:=l) (by rw[hH];exact trivial) (.inl rfl) (λb' u hb hu=>(Heap.get?_update_other s.heap (Obj.mapSeq f) (Ne.symm hb)).trans hu) #[_,q] ?_;exact #[hz,its',_,hv,q]
theorem Inv.lnew (I:Inv X pins σ H s) (hv:cS ys its) (hz:ys.9<=sizeLine) :
  Inv X pins σ (upd H s.heap.objs.size (.lst ys)) { s with heap:=s.heap.push { cls:=.type "list",data:=.seq its.5 },toks:=t' } :=
 I.laid (λ_ _ q=>Heap.get?_push_of_some _ q) (ah _) #[hz,its,0,hv,Heap.get?_push_size _ rfl]
theorem Inv.fresh (I:Inv X pins σ H s):H s.6=none:=I.hok.fresh (ah _)
theorem Inv.lstM (I:Inv X pins σ H s) (hH:H l=some (.lst xs)):xs.9<=sizeLine/\∃(its:List Value) (n:Nat),cS xs its/\xs.9=its.9/\s.heap.get? l=some { cls:=.type "list",data:=.seq its.toArray n }:=by
 obtain z|its|n|r|e:=I.hok l _ hH;exact #[z,its,n,r,r.9,e]
theorem NL (h:n<=sizeLine):Builtin.List.listTooLong n=false:=by
 unfold Builtin.List.listTooLong;exact decide_eq_false ()
end
section
variable {X:Cx}
def Kz:V->List V->Hp->VK->Prop:=λx vs H Q=>∃l xs y,x=.ref l/\vs=[y]/\H l=some (.lst xs)/\xs.9 < sizeLine/\Q .non (upd H l (.lst (xs++[y])))
theorem jN:Wu X "list.append" Kz:=by
 intro pins s σ H x vs v us Q I rx rv h;obtain l|xs|y|rfl|rfl|hH|hz|q:=h;cases rx;obtain u|rfl|ru:=rv.one;obtain z|its|n|r|hl|e:=I.lstM hH;refine call_meets F.slot_list_append #[_,e,rfl] F.entry_list_append (F.args_list_append_2 _ _) (PySem.list_append l its.toArray n u (by rw[aG];lia)) #[e,?_];refine #[.non,_,I.lset (its':=its++[u]) hH e (by simp) (r.append (.cons ru .nil)) ?_,rfl,q];rw[aj,bg]
 lia
def Qo:V->List V->Hp->VK->Prop:=λx vs H Q=>∃l b xs zs,x=.ref l/\vs=[.ref b]/\H l=some (.lst xs)/\H b=some (.lst zs)/\xs.9+zs.9<=sizeLine/\Q .non (upd H l (.lst (xs++zs)))
theorem LW:Wu X "list.extend" Qo:=by
 intro pins s σ H x vs v us Q I rx rv h;obtain l|b|xs|zs|rfl|rfl|hH|hB|hz|q:=h;cases rx;obtain u|rfl|ru:=rv.one;cases ru;obtain z|its|n|r|hl|e:=I.lstM hH;obtain z2|its2|n2|r2|hl2|e2:=I.lstM hB;have hsz:its.5.7+its2.5.7<=sizeLine:=by rw[aG,aG];lia
 have hlong:¬(!its.toArray.isEmpty && Builtin.List.listTooLong (its.5.7+its2.5.7))=true:=by
  rw[NL hsz,Bool.and_false];exact bf
 refine call_meets F.slot_list_extend #[_,e,rfl] F.entry_list_extend (F.args_list_extend_2 _ _)
  (AutoSeq1.list_extend_list_list_0 l its.toArray n b its2.toArray n2 hlong (by rw[aG];lia) ()) #[e,e2,?_]
 refine #[.non,_,I.lset (its':=its++its2) hH e (by simp) (r.append r2) ?_,rfl,q];rw[aj]
 lia
def Tw:V->List V->Hp->VK->Prop:=λx vs H Q=>∃l xs i k y,x=.ref l/\vs=[.int i]/\H l=some (.lst xs)/\-(2^63)<=i/\i < 2^63/\seqIndex? i xs.9=some k/\xs[k]?=some y/\Q y (upd H l (.lst (xs.eraseIdx k)))
theorem NQ:Wu X "list.pop" Tw:=by
 intro pins s σ H x vs v us Q I rx rv h;obtain l|xs|i|k|y|rfl|rfl|hH|h1|h2|hk|hy|q:=h;cases rx;obtain u|rfl|ru:=rv.one;obtain t|rfl:=ru;obtain z|its|n|r|hl|e:=I.lstM hH;obtain w|hw|rw':=r.get hy
 refine call_meets F.slot_list_pop #[_,e,rfl] F.entry_list_pop (F.args_list_pop_2 _ _)
  (MeetsSeq.list_pop_at l its.toArray n i t k w (fitsIndex_both h1 h2) (by rw[aG,<- hl];exact hk) (by rw[<- Array.getElem?_toList];exact hw) (by rw[aG];lia)) #[e,?_]
 refine #[y,_,I.lset (its':=its.eraseIdx k) hH e ?_ (r.eraseIdx k) ?_,rw',q]
 ·show its.toArray.eraseIdxIfInBounds k=(its.eraseIdx k).toArray
  rw[List.eraseIdxIfInBounds_toArray]
 ·have:=CY xs k
  lia
def Vp:R2:=λx y H Q=>∃l b xs zs,x=.ref l/\y=.ref b/\H l=some (.lst xs)/\H b=some (.lst zs)/\xs.9+zs.9<=sizeLine/\∀p,H p=none->Q (.ref p) (upd H p (.lst (xs++zs)))
theorem ni:yT X (binaryOp .Add) Vp:=by
 intro pins s σ H x y v u Q I rx ry h;obtain l|b|xs|zs|rfl|rfl|hH|hB|hz|q:=h;cases rx;cases ry;obtain z|its|n|r|hl|e:=I.lstM hH;obtain z2|its2|n2|r2|hl2|e2:=I.lstM hB;refine PySem.P.add_list e e2 ?_ (by rw[aG,aG];lia);have ea:its.5++its2.5=(its++its2).5:=by simp
 rw[ea];exact #[.ref _,_,I.lnew (t':=s.toks) (r.append r2) (by rw[aj];lia),rfl,q _ I.fresh]
end
end L2
namespace Att
open PySem PySem.W PySem.Calls PyProof.Rows
theorem yE:∀(ns:List Int) (vs:List Value),WellAll P h vs (ns.map WData.int)->IntsAre vs ns:=by
 intro ns
 induction ns with
 | nil =>
  intro vs w;rw[List.map_nil] at w;cases w;exact .nil
 | cons n ns ih =>
  intro vs w;rw[jm] at w;cases w with
  | cons a b =>
   cases a;exact .cons _ _ (ih _ b)
theorem Ls {l:OpenLaw} (hn:l.most=some n) 
  (hpre:l.row.toRowW.claim.pre args=true) (hwl:WellAll P h vals args) :
  ∃a vs ns,vals=[Value.ref a]/\args=[WData.list (ns.map WData.int)]/\h.get? a=some { cls:=.type "list",data:=.seq vs.5 }/\IntsAre vs ns/\ns.9<=n:=by
 have hsh:WShape.hasAll [] args [.list .int]=true:=(pre_splitW hpre).1;have hc:l.pre.holds [] { args:=args }=true:=(pre_splitW hpre).2;obtain d|r|rfl|h1|h2:=hasAllW_cons hsh;obtain rfl:=hasAllW_nil h2;obtain xs|rfl|h3:=hasW_list h1;obtain ns|rfl:=items_int h3
 have hlen:ns.9<=n:=by
  unfold OpenLaw.pre at hc
  have h4:(WTm.not (.lt (.lit (.int (n:Int))) (.len (.arg 0)))).holds [] { args:=[.list (ns.map .int)] }=true:=by
   have h4:=(holds_andW hc).1;rw[hn] at h4;exact h4
  have h5:=condW_of h4 (w_not (w_lt w_lit (w_len_list (w_arg rfl))));rw[ag] at h5;refine Nat.le_of_not_lt λq=>?_
  have q':(n:Int) < ((ns.9:Nat):Int):=()
  first
   | (rw[decide_eq_true q'] at h5;exact absurd h5 ())
   | (simp at h5;lia)
 cases hwl with
 | cons w1 w2 =>
  cases w2;cases w1 with
  | list ho hall=>exact #[_,_,ns,rfl,rfl,ho,yE ns _ hall,hlen]
theorem LH (l:OpenLaw) (args:List WData):l.row.toRowW.claim.post args (.bool true) args=true :=
 postW_of (r:=l.row.toRowW) (X:=(true == true))
  (show WShape.has [] (.bool true) .bool=true by first | rfl | decide | simp [WShape.has,WShape.arms,WShape.armsAll])
  (show (WTm.eq .res (.lit (.bool true))).value [] { args:=args,res:=some (.bool true),after:=args }=some (.bool (true == true)) from w_eq_bool (w_res rfl) w_lit) rfl
theorem Ii {l:OpenLaw} 
  (hn:l.most=some n) (hdf:d.params.defaults=[])
  (call:∀(w:World) (s₀ s₁:Shared) (mg mb:Str->Option Value) (fa:Addr) (o:Obj) (pm cd doc:Value) (a:Addr) (vs:List Value) (ns:List Int),
   Ground q loose [] XP w s₀ mg mb s₁.8->YP w s₁.8 →
   s₁.heap.get? fa=some o->o.data=.func (docDef d.name d.params d.body d.scope pm cd doc)->s₁.heap.CodeRec cd d.name->mg d.name=some (.ref fa) →
   s₁.heap.get? a=some { cls:=.type "list",data:=.seq vs.5 }->IntsAre vs ns->ns.9<=n->s₁.gens=[].toArray →
   codeAny (model l.prog w) callerA (.call (.ref fa) #[[.ref a],[]]) (λr s'=>r=.ok (.ret (.bool true))/\OldK s₁.heap s'.8/\s'.os=s₁.os/\AllBare s'.gens) s₁) :
  WalkO q loose XP YP l.row.toRowW d [] (λf vs=>PySem.call f vs):=by
 intro w s₀ s₁ mg mb G Y fa o pm cd doc dV kV ho hd hcd hD hmg hg args vals as hpre hlay hrd hwl hlo;obtain rfl:dV=.none:=Dflts.none hD hdf;obtain rfl:kV=.none:=Dflts.noKw hD;obtain a|vs|ns|rfl|rfl|hobj|hints|hlen:=Ls hn hpre hwl;refine enter_call (codeAny_mono (call w s₀ s₁ mg mb fa o pm cd doc a vs ns G Y ho (fd_plain hd) hcd hmg hobj hints hlen hg) λr s' hq=>?_);obtain rfl|h2|h3|h4:=hq;exact #[.inl #[.bool true,.bool true,[],rfl,λ_=>rfl,.bool true,LH l _,λ_=>#[List.Pairwise.nil,λ_ hm=>(nomatch hm)]],h2,h3,h4]
end Att
namespace L2
open PySem PySem.Spec PyProof.Rows
theorem Cq:∀{vs:List Value} {ns:List Int},IntsAre vs ns->cS (ns.map V.int) vs
 | _,_,.nil=>.nil
 | _,_,.cons n t h=>.cons #[t,rfl] (Cq h)
def Uu (H:Hp):Prop:=∀b,H b=none\/∃o xs,H b=some (.frz o (.lst xs))
theorem N3 {K:FG9} 
  (KX:K.In s₁.8) (hns:s₁.heap.Ns mainGlobals mg) (hb:s₁.heap.Ns builtinsNs mb) (hbb:∀x:Str,x≠"__name__"->mb x=bootBuiltins x) (hlim:s₁.heap.NoLimit) (hsr:s₁.heap.NoSeer) (hg:s₁.gens=[].toArray)
  (ha:s₁.heap.get? a=some { cls:=.type "list",data:=.seq vs.5 }) (hi:IntsAre vs ns) (hl:ns.9<=sizeLine) (hr:lV k callerA)
  (F:∀base:Heap,K.In base->base.Ns mainGlobals mg->oN P w K mg base CX k fa fd [x] sp) (hbind:∀(s:Shared) (u:Value),BindsTo s fd #[[u],[]] [(x,u)])
  (hsp:∀H:Hp,Uu H->bC K H a (ns.map V.int)->sp [.ref a] H (λv _=>v=.bl true) λ_ _ _=>False)
  (hCX:∀H e s',CX [] H s₁ (λ_ _ _=>False) e s'->False) :
  codeAny (model P w) callerA (.call (.ref fa) #[[.ref a],[]]) (λr s'=>r=.ok (.ret (.bool true))/\OldK s₁.heap s'.8/\s'.os=s₁.os/\AllBare s'.gens) s₁:=by
 have rv:=Cq hi;have lenV:=hi.length
 have core:∀H:Hp,Uu H->bC K H a (ns.map V.int)->yU P w H s₁.8->(∀b,H b≠none->b=a)->(H a≠none->K.lookup a=none) →
   codeAny (model P w) callerA (.call (.ref fa) #[[.ref a],[]]) (λr s'=>r=.ok (.ret (.bool true))/\OldK s₁.heap s'.8/\s'.os=s₁.os/\AllBare s'.gens) s₁:=by
  intro H hO hS hok hA hK;have base_of:∀{b:Addr} {o:Obj},s₁.heap.get? b=some o->H b=none->(Ew s₁.heap H).get? b=some o:=λe n=>Oi e n
  have noA:∀{b:Addr} {o:Obj} {es:Array DictEntry} {ep:Nat},s₁.heap.get? b=some o->o.data=.dict es ep->H b=none:=λ{b o es ep} e d=>by
   cases q:H b with
   | none=>rfl
   | some u =>
    have e':b=a:=hA b (by rw[q];simp);subst e';rw[ha] at e;cases e;have d':Data.seq vs.toArray _=Data.dict es ep:=d;cases d'
  have nsK:∀{b:Addr} {m:Str->Option Value},s₁.heap.Ns b m->(Ew s₁.heap H).Ns b m:=λ{b m} #[o,es,ep,e,d,r]=>#[o,es,ep,base_of e (noA e d),d,r]
  have hKb:K.In (Ew s₁.heap H):=λb o e=>base_of (KX b o e) (by
   cases q:H b with
   | none=>rfl
   | some u =>
    have e':b=a:=hA b (by rw[q];simp);subst e';rw[hK (by rw[q];simp)] at e;cases e)
  have hM:Mod K mg (Ew s₁.heap H):=#[hKb,nsK hns,#[mb,nsK hb,hbb],let ⟨mc,h1,h2⟩:=hlim;#[mc,nsK h1,h2],#[let ⟨mc,h1,h2⟩:=hsr.statics;#[mc,nsK h1,h2],let ⟨mm,h1,h2⟩:=hsr.mods;#[mm,nsK h1,h2],#[mb,nsK hb,hbb],let ⟨mg',bm,ob,h1,h2,h3,h4,h5⟩:=hsr.main;#[mg',bm,ob,nsK h1,h2,base_of h3 (by
   cases q:H bm with
   | none=>rfl
   | some u =>
    have e':bm=a:=hA bm (by rw[q];simp);subst e';rw[ha] at h3;cases h3;injection h4 with q4
    exact absurd q4 ()),h4,h5]]]
  have e0:Ka P w K mg (Ew s₁.heap H) callerA [] s₁ H:=#[rfl,hM,λb o e=>QD e,Nat.le_of_eq (L9 _ _),trivial,λb hb=>absurd (show b∈([]:List Addr) from hb) (by simp),hok,.of_eq hg];refine codeAny_mono ((F _ hKb (nsK hns)).run callerA [] s₁ H #[[.ref a],[]] [.ref a] [.ref a] _ _ hr e0 (hbind s₁ (.ref a)) (.cons rfl .nil) (hsp H hO hS)) λr s' h=>?_
  cases r with
  | error e=>exact (hCX H e s' h).elim
  | ok fl =>
   cases fl with
   | next=>exact False.elim h
   | brk=>exact False.elim h
   | cont=>exact False.elim h
   | ret u =>
    obtain v|H'|os|bare|un|hok'|r'|q:=h;have q':v=.bl true:=q;subst q';obtain rfl:u=Value.bool true:=r';refine #[rfl,OldK.of_keep λb o e=>?_,os,bare];cases q:H b with
    | none=>exact un.keep b o e q (by intro z;exact absurd (show b∈([]:List Addr) from z) (by simp)) (by simp)
    | some u =>
     rcases hO b with z | ⟨ob,xs,z⟩
     ·rw[q] at z;cases z
     ·have z2:=un.frzs b ob _ z;obtain e1|_:=hok b _ z;obtain e2|_:=hok' b _ z2;rw[e] at e1;cases e1;exact e2
 cases hk:K.lookup a with
 | some o =>
  have e:=KX a o hk;rw[ha] at e;cases e;refine core (λ_=>none) (λ_=>.inl rfl) (.inr #[_,vs.5,_,hk,rfl,rfl,rfl,by rw[aG,lenV];exact hl,by simpa using rv]) (λb u z=>by have z':(none:Option HO)=some u:=z;cases z') (λb z=>absurd rfl z) λz=>absurd rfl z
 | none =>
  refine core (λb=>if b=a then some (.frz { cls:=.type "list",data:=.seq vs.5 } (.lst (ns.map V.int))) else none) (λb=>?_) (.inl (.inr #[{ cls:=.type "list",data:=.seq vs.5 },if_pos rfl])) (λb u z=>?_) (λb z=>?_) λ_=>hk
  ·by_cases hb:b=a
   ·exact .inr #[_,_,if_pos hb]
   ·exact .inl (if_neg hb)
  ·by_cases hb:b=a
   ·have z':=(if_pos hb).symm.trans z;cases z';subst hb;exact #[ha,by rw[ag];exact hl,vs,_,rv,ha]
   ·have z':=(if_neg hb).symm.trans z;cases z'
  ·by_cases hb:b=a
   ·exact hb
   ·exact absurd (if_neg hb) z
theorem Pg {l:PySem.W.OpenLaw} {K:Params->FG9} {CX:World->O2} {sp:World->Sp} 
  (hn:l.most=some n) (hn2:n<=sizeLine) (hdf:d.params.defaults=[]) (hr:lV k callerA) (hi:importsNone q=true)
  (hY:∀(w:World) (h:Heap),YP w h->(K w.params).In h)
  (F:∀(w:World) (mg:Str->Option Value) (fa:Addr) (h:Heap),(K w.params).In h->h.Ns mainGlobals mg->mg d.name=some (.ref fa) →
   ∃fd:FuncData,(∀(s:Shared) (u:Value),BindsTo s fd #[[u],[]] [(x,u)]) /\
    ∀base:Heap,(K w.params).In base->base.Ns mainGlobals mg->oN l.prog w (K w.params) mg base (CX w) k fa fd [x] (sp w))
  (hsp:∀(w:World) (H:Hp) (a:Addr) (ns:List Int),ns.9<=n->Uu H->bC (K w.params) H a (ns.map V.int)->sp w [.ref a] H (λv _=>v=.bl true) λ_ _ _=>False)
  (hCX:∀(w:World) (H:Hp) (s:Shared) (e:Value) (s':Shared),CX w [] H s (λ_ _ _=>False) e s'->False) :
  PySem.W.WalkO q loose XP YP l.row.toRowW d [] (λf vs=>PySem.call f vs):=by
 refine Att.Ii hn hdf λw s₀ s₁ mg mb fa o pm cd doc a vs ns G Y ho hd hcd hmg hobj hints hlen hg=>?_
 have KX:=hY w _ Y;obtain fd|hb|hF:=F w mg fa _ KX G.T.g hmg;exact N3 KX G.T.g G.T.b G.T.builtins G.T.nolimit (G.T.seer hi) hg hobj hints (af hlen hn2) hr hF hb (λH hO hS=>hsp w H a ns hlen hO hS) λH e s'=>hCX w H s₁ e s'
end L2

namespace L2
open PySem PySem.Spec PyProof.Rows
def inClass (s:Stmt) (j:Nat):Stmt:=match s with
 | .ClassDef _ _ _ body _ _ _ _ _ _ _=>body.getD j (.Pass #[0,0,0,0])
 | _=>.Pass #[0,0,0,0]
def nV (s:Stmt):Arguments:=match s with
 | .FunctionDef _ a _ _ _ _ _ _ _ _=>a
 | _=>{ posonlyargs:=[],args:=[],vararg:=none,kwonlyargs:=[],kw_defaults:=[],kwarg:=none,defaults:=[] }
def j7 (s:Stmt):List Stmt:=match s with
 | .FunctionDef _ _ b _ _ _ _ _ _ _=>b
 | _=>[]
def fE (s:Stmt):Scope:=match s with
 | .FunctionDef _ _ _ _ _ _ sc _ _ _=>sc
 | _=>{ kind:=.function,names:=[],isGenerator:=false,isCoroutine:=false }
abbrev FC:O2:=λ_ _ _ _ _ _=>False
abbrev E0:XK:=λ_ _ _=>False
theorem CP:yd FC X E0:=λ_ _ _ _ _ _ _ h=>h.elim
structure ME (K:FG9) (x qual:Str) (st:Stmt) (f:Addr) (fd:FuncData):Prop where
 ex:∃(oc:Value) (od:Option Addr) (kV doc pm:Value) (an:Option Addr) (cdv ct:Value) (osl:Array (Option Value)),
  fd=PySem.W.fnOf x qual (nV st) (j7 st) (fE st) .none kV doc pm an cdv ct/\K.lookup f=some #[oc,od,.func fd,osl]/\PySem.W.codeIn K cdv qual=true
 kp:PySem.W.keepIn K (.ref f)=true
section
variable {P:Program} {w:World} {K:FG9} {mg:Str->Option Value} {base:Heap}
theorem ME.ok {st:Stmt} (F:ME K x qual st f fd) (S:uN N ps (fE st)) (len:∀vs H Q E,sp vs H Q E->vs.9=ps.9)
  (hbody:∀(cdv:Value) (A:Around) (outer:List Env) (s:Shared) (H:Hp) (vs:List V) (Q:VK) (E:XK),lV k (A.deeper (envOfC qual (fE st) s.heap.objs.size f cdv))->sp vs H Q E →
   ∃t,IL (HZ FC P w K mg base N qual (fE st) f cdv A outer s H E).nox (j7 st) t/\t { nx:=λ_ H'=>Q .non H',rt:=Q } (start N vs) H):oN P w K mg base FC (k+1) f fd ps sp:=by
 obtain oc|od|kV|doc|pm|an|cdv|ct|osl|rfl|lk|hcd:=F.ex;refine VH lk hcd S len λA outer s H vs Q E hr hsp=>?_
 obtain t|h|q:=hbody cdv A outer s H vs Q E hr hsp;exact #[t,h.nox,q]
theorem SO {N ps:List Str} {vs:List V} (h:N.take ps.9=ps) (l:vs.9=ps.9):vs.9<=N.9:=by
 have:=congrArg List.length h;rw[bY] at this
 lia
theorem ME.k {x qual:Str} {st:Stmt} {f:Addr} {fd:FuncData} {N ps:List Str} {k:Nat} {sp:Sp} (F:ME K x qual st f fd) (S:uN N ps (fE st))
  (hbody:∀(cdv:Value) (A:Around) (outer:List Env) (s:Shared) (H:Hp) (vs:List V) (Q:VK) (E:XK) (hr:lV k (A.deeper (envOfC qual (fE st) s.heap.objs.size f cdv))) (h:sp vs H Q E),
   ∃t,IL (HZ FC P w K mg base N qual (fE st) f cdv A outer s H E).nox (j7 st) t/\t { nx:=λ_ H'=>Q .non H',rt:=Q } (UD N vs) H) (len:∀vs H Q E,sp vs H Q E->vs.9=ps.9:=by walk_at "n"):oN P w K mg base FC (k+1) f fd ps sp :=
 F.ok S len λcdv A outer s H vs Q E hr h=>by
  rw[IZ (SO S.pre (len _ _ _ _ h))];exact hbody cdv A outer s H vs Q E hr h
theorem ME.binds {st:Stmt} (F:ME K x qual st f fd)
  (h:∀(kV doc pm:Value) (an:Option Addr) (cdv ct:Value) (us:List Value),us.9=ps.9->bindArgs (PySem.W.fnOf x qual (nV st) (j7 st) (fE st) .none kV doc pm an cdv ct) #[us,[]]=pure (ps.zip us)):Binds K fd ps []:=by
 obtain oc|od|kV|doc|pm|an|cdv|ct|osl|rfl|lk|hcd:=F.ex;exact .all (h kV doc pm an cdv ct)
theorem JF {st:Stmt} {kV doc pm cdv ct:Value} (l:K.lookup f=some #[oc,od,.func (PySem.W.fnOf x qual (nV st) (j7 st) (fE st) .none kV doc pm an cdv ct),osl])
  (c:PySem.W.codeIn K cdv qual=true) (k:PySem.W.keepIn K (.ref f)=true):ME K x qual st f (PySem.W.fnOf x qual (nV st) (j7 st) (fE st) .none kV doc pm an cdv ct):=#[#[oc,od,kV,doc,pm,an,cdv,ct,osl,rfl,l,c],k]
end
structure Df (K:FG9) (mg:Str->Option Value) (x:Str) (st:Stmt) (ps:List Str) (f:Addr) (fd:FuncData):Prop where
 m:mg x=some (.ref f)
 b:Binds K fd ps []
 F:ME K x x st f fd
structure Dh (K:FG9) (x:Str) (st:Stmt) (f:Addr) (fd:FuncData):Prop where
 a:PySem.W.nsIn K mainGlobals x=some (some (.ref f))
 F:ME K x x st f fd
theorem VI {K:FG9} {st:Stmt} {kV doc pm cdv ct:Value} (a:PySem.W.nsIn K mainGlobals x=some (some (.ref f))) (l:K.lookup f=some #[oc,od,.func (PySem.W.fnOf x x (nV st) (j7 st) (fE st) .none kV doc pm an cdv ct),osl]) (c:PySem.W.codeIn K cdv x=true) (k:PySem.W.keepIn K (.ref f)=true):Dh K x st f (PySem.W.fnOf x x (nV st) (j7 st) (fE st) .none kV doc pm an cdv ct):=#[a,JF l c k]
theorem Dh.D {K:FG9} {x:Str} {st:Stmt} {f:Addr} {fd:FuncData} {ps:List Str} {mg:Str->Option Value} {h:Heap} (d:Dh K x st f fd) (X:K.In h) (G:h.Ns mainGlobals mg) (hb:∀(kV doc pm:Value) (an:Option Addr) (cdv ct:Value) (us:List Value),us.9=ps.9->bindArgs (PySem.W.fnOf x x (nV st) (j7 st) (fE st) .none kV doc pm an cdv ct) #[us,[]]=pure (ps.zip us):=by walk_at "b"):Df K mg x st ps f fd:=#[PySem.W.mg_of X G d.a,d.F.binds hb,d.F]
abbrev Df.o {K:FG9} {mg:Str->Option Value} {x:Str} {st:Stmt} {ps:List Str} {f:Addr} {fd:FuncData} (_:Df K mg x st ps f fd) (P:Program) (w:World) (base:Heap) (k:Nat) (sp:Sp):Prop:=oN P w K mg base FC k f fd ps sp
theorem cw {X:Cx} {k k':Nat} {f:Addr} {fd:FuncData} {ps:List Str} {sp:Sp} {x:Str} {st:Stmt} {p pos:Pos} {e:Expr} {es:List Expr} {t:TA} (F:oN X.prog X.w X.K X.mg X.base FC k f fd ps sp) (hr:lV k' X.A) (D:Df X.K X.mg x st ps f fd) (ha:PA X (e :: es) t) (hle:k<=k':=by decide) (hg:Gl X x:=by exact rfl) (hdb:(x == ("__debug__":Str))=false:=by decide) (he:starEach (e :: es) X.env=(false,eval e X.env) :: starEach es X.env:=by rfl) (hpl:(backTo pos (starEach es X.env)).any (·.1)=false:=by rfl):PE X (.Call (.Name x p) (e :: es) [] pos) (MV sp [] E0 t):=yM F (hr.mono hle) hg D.m D.F.kp D.b .nil CP ha hdb he hpl
theorem dA (h:n<=1000):n < sizeLine:=bc h ()
theorem mR {n:Nat} (h:n<=1000:=by lia):n<=sizeLine:=dn (dA h)
section
variable {X:Cx}
theorem pv (i:Nat) {x:Str} {pos:Pos} (hN:X.N[i]?=some x:=by rfl) (hv:Wo X.env.scope x:=by first | exact Or.inl rfl | exact Or.inr (Or.inl rfl) | exact Or.inr (Or.inr rfl)) (hd:(x == ("__debug__":Str))=false:=by decide)
  (hcd:(x == ("__classdict__":Str))=false:=by decide):PE X (.Name x pos) (SJ i):=TM hN hv hd hcd
end
theorem QM {A B:Prop} (h:B):if false=true then A else B:=by
 rw[if_neg bf];exact h
theorem Vz {A B:Prop} (h:A):if true=true then A else B:=by
 rw[if_pos rfl];exact h
theorem iO {c A B:Prop} [Decidable c] (h1:c->A) (h2:¬c->B):if c then A else B:=by
 by_cases h:c
 ·rw[if_pos h];exact h1 h
 ·rw[if_neg h];exact h2 h
def aH (H H':Hp):Prop:=∀b o,H b=some o->H' b=some o
theorem aH.refl (H:Hp):aH H H:=λ_ _ h=>h
theorem aH.trans (a:aH H H1) (b:aH H1 H2):aH H H2:=λc o h=>b c o (a c o h)
theorem aH.free (e:aH H H') (h:H' l=Option.none):H l=Option.none:=by
 cases q:H l with
 | none=>rfl
 | some o =>
  rw[e l o q] at h;cases h
theorem aH.seq {K:FG9} (e:aH H H') (h:bC K H a xs):bC K H' a xs:=by
 rcases h with (h | ⟨o,h⟩) | h
 ·exact .inl (.inl (e _ _ h))
 ·exact .inl (.inr #[o,e _ _ h])
 ·exact .inr h
end L2
namespace Nm
theorem Oo (a b:Int):Int.gcd b (a.fmod b)=Int.gcd a b:=by
 rw[Int.fmod_def,kg a b];apply Nat.dvd_antisymm
 ·apply O6
  ·exact fQ ..
  ·have h1:=fQ (a:=b) (b:=a - b*a.fdiv b);have h2:=gU (a:=b) (b:=a - b*a.fdiv b);have h3:=Int.dvd_add h2 (oK (c:=a.fdiv b) h1);rwa [Int.sub_add_cancel] at h3
 ·apply O6
  ·exact fQ ..
  ·exact Int.dvd_sub (gU ..) (oK (fQ ..))
theorem Oq (a b:Int):Int.gcd b (a % b)=Int.gcd a b:=by
 rw[Int.emod_def,kg a b];apply Nat.dvd_antisymm
 ·apply O6
  ·exact fQ ..
  ·have h1:=fQ (a:=b) (b:=a - b*(a / b));have h2:=gU (a:=b) (b:=a - b*(a / b));have h3:=Int.dvd_add h2 (oK (c:=a / b) h1);rwa [Int.sub_add_cancel] at h3
 ·apply O6
  ·exact fQ ..
  ·exact Int.dvd_sub (gU ..) (oK (fQ ..))
theorem QR (a b:Int) (h:b≠0):(a.fmod b).natAbs < b.natAbs:=by
 rcases Int.lt_or_gt_of_ne h with h | h
 ·have e:a.fmod b=-((-a).fmod (-b)):=by
   have:=Int.neg_fmod_neg (-a) (-b);simp only[Int.neg_neg] at this;exact this
  have h1:=Int.fmod_nonneg_of_pos (-a) (b:=-b) ();have h2:=Int.fmod_lt_of_pos (-a) (b:=-b) ()
  lia
 ·have h1:=Int.fmod_nonneg_of_pos a h;have h2:=Int.fmod_lt_of_pos a h
  lia
def g (t b:Int):Int:=(Int.gcd t b:Int)
def lo (t b:Int):Int:=t / g t b
def hi (t b:Int):Int:=b / g t b
theorem AQ (h:b≠0):0 < g t b:=by
 unfold g;have:0 < Int.gcd t b:=Pe _ h
 lia
theorem AB (t b:Int):lo t b*g t b=t:=Int.ediv_mul_cancel (fQ ..)
theorem xP (t b:Int):hi t b*g t b=b:=Int.ediv_mul_cancel (gU ..)
theorem Ex (h:0 < b):0 < hi t b:=by
 have h1:=AQ (t:=t) (b:=b) ();have h2:=xP t b;by_cases h3:0 < hi t b
 ·exact h3
 ·have:hi t b*g t b<=0:=Int.mul_nonpos_of_nonpos_of_nonneg () ()
  lia
theorem Az (h:b≠0):Int.gcd (lo t b) (hi t b)=1:=by
 have h1:=AQ (t:=t) h;have e:=Int.gcd_mul_right (lo t b) (g t b) (hi t b);rw[AB,xP] at e;have e2:(g t b).natAbs=Int.gcd t b:=by unfold g;simp
 rw[e2] at e;have h2:0 < Int.gcd t b:=Pe _ h;exact Nat.eq_of_mul_eq_mul_right h2 (by rw[<- e,rS])
theorem AA (t b:Int):lo t b*b=t*hi t b:=by
 have h1:=AB t b;have h2:=xP t b
 calc lo t b*b=lo t b*(hi t b*g t b):=by rw[h2]
  _=(lo t b*g t b)*hi t b:=by rw[ic (hi t b),<- eh]
  _=t*hi t b:=by rw[h1]
theorem rA (h:Int.gcd a b=1) (hd:a∣b*c):a∣c:=by
 have h1:a.natAbs∣b.natAbs*c.natAbs:=by rw[<- cX];exact fM.mpr hd
 have h2:Nat.Coprime a.natAbs b.natAbs:=h;exact fM.mp (h2.dvd_of_dvd_mul_left h1)
theorem uniq (hb:0 < b) (hd:0 < d) (h1:Int.gcd a b=1) (h2:Int.gcd c d=1) (e:a*d=c*b):a=c/\b=d:=by
 have e1:b∣d:=by
  have:b∣a*d:=#[c,by rw[e,ic]];exact rA (by rw[kg];exact h1) this
 have e2:d∣b:=by
  have:d∣c*b:=#[a,by rw[<- e,ic]];exact rA (by rw[kg];exact h2) this
 have e3:b=d:=Int.dvd_antisymm () () e1 e2;subst e3;exact #[vd () e,rfl]
theorem TX (hb:0 < b) (hd:0 < d) (h2:Int.gcd c d=1) (e:t*d=c*b):lo t b=c/\hi t b=d:=by
 refine uniq (Ex hb) hd (Az ()) h2 ?_;have h:=AA t b;have hb':b≠0:=()
 apply vd hb'
 calc lo t b*d*b=lo t b*b*d:=by rw[eh,ic d b,<- eh]
  _=t*hi t b*d:=by rw[h]
  _=t*d*hi t b:=by rw[eh,ic (hi t b),<- eh]
  _=c*b*hi t b:=by rw[e]
  _=c*hi t b*b:=by rw[eh,ic b,<- eh]
theorem TY (hb:0 < b) (h:Int.gcd a b=1):lo a b=a/\hi a b=b:=TX hb hb h rfl
theorem pQ {a b:Int} (h:b≠0):a.natAbs<=(a*b).natAbs:=by
 rw[cX];exact cJ _ (Int.natAbs_pos.mpr h)
theorem lo_le (h:b≠0):(lo t b).natAbs<=t.natAbs:=by
 have:=pQ (a:=lo t b) (b:=g t b) (by have:=AQ (t:=t) h;lia);rwa [AB] at this
theorem Sf (h:b≠0):(hi t b).natAbs<=b.natAbs:=by
 have:=pQ (a:=hi t b) (b:=g t b) (by have:=AQ (t:=t) h;lia);rwa [xP] at this
def Sz (k:Nat) (x:Int):Prop:=x.natAbs < 2^k
theorem Sz.mono (h:Sz j x) (l:j<=k):Sz k x:=bw h (ak () l)
theorem Sz.mul (h1:Sz j x) (h2:Sz k y):Sz (j+k) (x*y):=by
 unfold Sz at *
 rw[cX,ax];exact Nat.mul_lt_mul'' h1 h2
theorem Sz.neg (h:Sz k x):Sz k (-x):=by unfold Sz at *;rw[pe];exact h
theorem Sz.le (h:Sz k y) (l:x.natAbs<=y.natAbs):Sz k x:=bc l h
theorem Sz.hi {k:Nat} {t b:Int} (h:Sz k b) (hb:b≠0):Sz k (hi t b):=h.le (Sf hb)
end Nm
namespace L2
open PySem PySem.Spec PyProof.Rows
structure Bk (env:Env) (scope:Scope) (own capN:List Str):Prop where
 kind:scope.kind=.function
 locs:∀y∈scope.names,y.2=.local->scope.names.lookup y.1=some .local
 ownk:∀x∈own,scope.names.lookup x=some .local\/scope.names.lookup x=some .cell
 cells:∀y∈scope.names,y.2=.cell->y.1∈own/\y.1∉capN
 frees:∀y∈scope.names,y.2=.free->y.1∈capN/\y.1∉own
 capf:∀x∈capN,scope.names.lookup x=some .free
 caps:∀x∈capN,env.kindOf x=some .cell\/env.kindOf x=some .free
def V5 (scope:Scope) (own capN:List Str):Bool :=
 decide (scope.kind=.function) && scope.names.all (λy=>decide (y.2=.local->scope.names.lookup y.1=some .local) && decide (y.2=.cell->y.1∈own/\y.1∉capN) && decide (y.2=.free->y.1∈capN/\y.1∉own)) &&
 own.all (λx=>decide (scope.names.lookup x=some .local\/scope.names.lookup x=some .cell)) && capN.all λx=>decide (scope.names.lookup x=some .free)
def Dc (env:Env):List Str->Bool
 | []=>true
 | x :: r=>(match env.kindOf x with | some .cell=>true | some .free=>true | _=>false) && Dc env r
theorem Ie {env:Env}:∀{capN:List Str},Dc env capN=true->∀x∈capN,env.kindOf x=some .cell\/env.kindOf x=some .free
 | [],_,_,h=>nomatch h
 | y :: r,h,x,hx=>by
  unfold Dc at h;rw[eJ] at h;rcases aD.mp hx with e | hx
  ·subst e;have h1:=h.1
   split at h1
   ·rename_i e;exact .inl e
   ·rename_i e;exact .inr e
   ·cases h1
  ·exact Ie h.2 x hx
theorem Bk.of (h1:V5 scope own capN=true) (h2:Dc env capN=true):Bk env scope own capN:=by
 unfold V5 at h1;rw[eJ,eJ,eJ,qB,qB,qB] at h1;obtain ⟨⟨a1,a2⟩,a3⟩|a4:=h1
 have a2':∀y∈scope.names,(y.2=.local->scope.names.lookup y.1=some .local)/\(y.2=.cell->y.1∈own/\y.1∉capN)/\(y.2=.free->y.1∈capN/\y.1∉own):=λy hy=>by
  have q:=a2 y hy;rw[eJ,eJ] at q;exact #[of_decide_eq_true q.1.1,of_decide_eq_true q.1.2,of_decide_eq_true q.2]
 exact #[of_decide_eq_true a1,λy hy=>(a2' y hy).1,λx hx=>of_decide_eq_true (a3 x hx),λy hy=>(a2' y hy).2.1,λy hy=>(a2' y hy).2.2,λx hx=>of_decide_eq_true (a4 x hx),Ie h2]
def eT (env:Env):List (Str×NameKind)->List (Str×Addr)->List (Str×Addr)
 | [],acc=>acc
 | (n,k) :: r,acc=>if k == .free then eT env r ((n,(env.cells.lookup n).getD 0) :: acc) else eT env r acc
theorem jR (env:Env):∀(names:List (Str×NameKind)) (acc:List (Str×Addr)),eT env names acc=eT env names []++acc
 | [],_=>rfl
 | (n,k) :: r,acc=>by
  unfold eT
  split
  ·rw[jR env r (_ :: acc),jR env r [_],cz];rfl
  ·exact jR env r acc
theorem rD (env:Env):∀(names:List (Str×NameKind)) {x:Str} {c:Addr},(x,c)∈eT env names []->(x,NameKind.free)∈names/\c=(env.cells.lookup x).getD 0
 | [],_,_,h=>nomatch h
 | (n,k) :: r,x,c,h=>by
  unfold eT at h
  split at h
  ·rename_i hk
   have ek:k=.free:=by simpa using hk
   subst ek;rw[jR] at h;rcases av.mp h with h | h
   ·have q:=rD env r h;exact #[bX _ q.1,q.2]
   ·have e:(x,c)=(n,(env.cells.lookup n).getD 0):=by simpa using h
    cases e;exact #[dJ,rfl]
  ·have q:=rD env r h;exact #[bX _ q.1,q.2]
theorem ko {α:Type}:∀{l:List (Str×α)} {x:Str} {c:α},(x,c)∈l->∃d,l.lookup x=some d
 | (k,v) :: r,x,c,h=>by
  rw[mJ];cases hb:x == k with
  | true=>exact #[v,rfl]
  | false =>
   rcases aD.mp h with e | h
   ·cases e;simp at hb
   ·exact ko h
theorem rE (env:Env):∀(names:List (Str×NameKind)) {x:Str},(x,NameKind.free)∈names->∃c,(x,c)∈eT env names []
 | (n,k) :: r,x,h=>by
  unfold eT;rcases aD.mp h with e | h
  ·cases e;rw[if_pos (),jR];exact #[_,bB _ dJ]
  ·obtain c|q:=rE env r h
   split
   ·rw[jR];exact #[c,dM _ q]
   ·exact #[c,q]
theorem AY (h:∀y∈scope.names,y.2=.free->∃c,env.cells.lookup y.1=some c):closureFor scope env=pure (eT env scope.names []):=by
 have gen:∀(names:List (Str×NameKind)) (acc:List (Str×Addr)) (f:Str×NameKind->List (Str×Addr)->Sem (ForInStep (List (Str×Addr)))),
   (∀name kind cells,f (name,kind) cells=if kind == .free then (do let a <- cellOf env name;pure (.yield ((name,a) :: cells))) else pure (.yield cells)) →
   (∀y∈names,y.2=.free->∃c,env.cells.lookup y.1=some c)->forIn names acc f=pure (eT env names acc):=by
  intro names
  induction names with
  | nil=>intro acc f hf _;rw[Dp];rfl
  | cons y r ih =>
   intro acc f hf hh;obtain n|k:=y;rw[Pd,hf];unfold eT;by_cases hk:(k == NameKind.free)=true
   ·obtain c|hc:=hh (n,k) dJ (by simpa using hk);have hc':env.cells.lookup n=some c:=hc;have e:cellOf env n=pure c:=by unfold cellOf;rw[hc']
    rw[if_pos hk,if_pos hk,e,hc'];simp only[pure_bind,yz];exact ih _ f hf λy hy=>hh y (bX _ hy)
   ·rw[if_neg hk,if_neg hk];simp only[pure_bind];exact ih _ f hf λy hy=>hh y (bX _ hy)
 simp only[closureFor];rw[gen scope.names [] _ (λname kind cells=>by cases hkc:kind == NameKind.free <;> simp [hkc]) h];rfl
theorem hZ:∀(names:List (Str×NameKind)) (n:Nat) (acc:List (Str×Addr)),cellsFrom n names acc=cellsFrom n names []++acc
 | [],_,_=>rfl
 | (x,k) :: r,n,acc=>by
  unfold cellsFrom
  split
  ·rw[hZ r (n+1) (_ :: acc),hZ r (n+1) [_],cz];rfl
  ·exact hZ r n acc
theorem mH:∀(names:List (Str×NameKind)) (n:Nat) {x:Str} {c:Addr},(x,c)∈cellsFrom n names []->(x,NameKind.cell)∈names
 | [],_,_,_,h=>nomatch h
 | (y,k) :: r,n,x,c,h=>by
  unfold cellsFrom at h
  split at h
  ·rename_i hk
   have ek:k=.cell:=by simpa using hk
   subst ek;rw[hZ] at h;rcases av.mp h with h | h
   ·exact bX _ (mH r _ h)
   ·have e:(x,c)=(y,n):=by simpa using h
    cases e;exact dJ
  ·exact bX _ (mH r _ h)
def xY (env:Env) (scope:Scope) (C:Addr):Env :=
 { scope:=relabel scope env,locals:=C,globals:=env.globals,cells:=cellsFrom (C+1) scope.names (eT env scope.names []),qual:=env.qual,func:=none,code:=env.code,frame:=env.frame,builtins:=env.builtins }
theorem GI 
  (h:Q (newEnv scope s.heap.objs.size g (cellsFrom (s.6+1) scope.names cl) qual none .none (some env) builtinsNs) { s with heap:=pushCells (s.heap.push { cls:=.type "dict",data:=.dict [].toArray }) scope.names }) :
  wpAny M A (newFunctionEnv scope g cl [] qual none .none (some env)) Q E s:=by
 simp only[newFunctionEnv,Option.isSome_some,if_true];refine wpAny_bind (wpAny_alloc ?_);refine wpAny_bind (wpAny_layCells _ (λname kind cells=>by cases hkc:kind == NameKind.cell <;> simp [hkc]) _ _ _ _ ?_);rw[show ({ s with heap:=s.heap.push { cls:=.type "dict",data:=.dict [].toArray } }:Shared).6=s.6+1 from Heap.size_push ..];rw[Dp];exact wpAny_bind (wpAny_pure (wpAny_pure h))
theorem vY:∀{k:NameKind},(relabel scope env).names.lookup x=some k->∃k0,scope.names.lookup x=some k0/\(k=k0\/(k0=.free/\k=.cell)):=by
 unfold relabel;show ∀{k:NameKind},(scope.names.map λ(n,k)=>if (k == NameKind.free && env.scope.kind == .function && env.kindOf n == some .cell) then (n,NameKind.cell) else (n,k)).lookup x=some k->_
 induction scope.names with
 | nil=>intro k h;cases h
 | cons y r ih =>
  intro k h;obtain n|k1:=y;rw[jm,mJ] at h;rw[mJ];by_cases hc:(k1 == NameKind.free && env.scope.kind == .function && env.kindOf n == some .cell)=true
  ·simp only[hc,if_true] at h;cases hb:x == n with
   | true =>
    simp only[hb] at h
    have e1:k1=.free:=by
     rw[eJ,eJ] at hc;simpa using hc.1.1
    cases h;exact #[k1,rfl,.inr #[e1,rfl]]
   | false=>simp only[hb] at h;exact ih h
  ·have hc':(k1 == NameKind.free && env.scope.kind == .function && env.kindOf n == some .cell)=false:=by simpa using hc
   simp only[hc',ki,if_false] at h;cases hb:x == n with
   | true=>simp only[hb] at h;cases h;exact #[_,rfl,.inl rfl]
   | false=>simp only[hb] at h;exact ih h
theorem Gi:scope.names.lookup x=some .free->(relabel scope env).names.lookup x=some .cell\/(relabel scope env).names.lookup x=some .free:=by
 unfold relabel;show _->(scope.names.map λ(n,k)=>if (k == NameKind.free && env.scope.kind == .function && env.kindOf n == some .cell) then (n,NameKind.cell) else (n,k)).lookup x=some .cell\/(scope.names.map λ(n,k)=>if (k == NameKind.free && env.scope.kind == .function && env.kindOf n == some .cell) then (n,NameKind.cell) else (n,k)).lookup x=some .free
 induction scope.names with
 | nil=>intro h;cases h
 | cons y r ih =>
  intro h;obtain n|k1:=y;rw[mJ] at h;rw[jm];by_cases hc:(k1 == NameKind.free && env.scope.kind == .function && env.kindOf n == some .cell)=true
  ·simp only[hc,if_true,mJ];cases hb:x == n with
   | true=>exact .inl rfl
   | false=>rw[hb] at h;exact ih h
  ·have hc':(k1 == NameKind.free && env.scope.kind == .function && env.kindOf n == some .cell)=false:=by simpa using hc
   simp only[hc',ki,if_false,mJ];cases hb:x == n with
   | true=>rw[hb] at h;cases h;exact .inr rfl
   | false=>rw[hb] at h;exact ih h
structure Bz where
 s:Shared
 H:Hp
 fp:List Addr
 C:Addr
def yG (X:Cx) (own capN:List Str) (scope:Scope) (Z:Bz):Cx where
 prog:=X.prog
 w:=X.w
 K:=X.K
 mg:=X.mg
 base:=X.base
 A:=X.A
 N:=own++capN
 s₀:=Z.s
 H₀:=Z.H
 env:=xY X.env scope Z.C
 outer:=X.stack
 stack:=X.stack
 ex:=Z.fp
 fn:=λx=>own.contains x
 calm:=true
 pn:=[]
 xe:=λ_ _=>False
section
variable {X:Cx} {pins:List (Addr×Obj)} {σ:St} {own capN:List Str} {scope:Scope} {Z:Bz}
theorem kz (B:Bk X.env scope own capN) (I:Inv X pins σ Z.H Z.s) (h:(xY X.env scope Z.C).cells.lookup x=some c) :
  (x∈own/\(x,c)∈cellsFrom (Z.C+1) scope.names [])\/(x∈capN/\x∉own/\X.env.cells.lookup x=some c):=by
 have h':(cellsFrom (Z.C+1) scope.names (eT X.env scope.names [])).lookup x=some c:=h;rw[hZ] at h';rcases av.mp (mem_of_lookup h') with m | m
 ·exact .inl #[(B.cells _ (mH _ _ m) rfl).1,m]
 ·obtain m1|e:=rD _ _ m;obtain q1|q2:=B.frees _ m1 rfl;obtain d|hd:=I.ok.has x (B.caps x q1);rw[hd] at e;exact .inr #[q1,q2,by rw[hd,e];rfl]
theorem Q7 (B:Bk X.env scope own capN) (I:Inv X pins σ Z.H Z.s) (hx:x∈capN) (h:X.env.cells.lookup x=some c):(xY X.env scope Z.C).cells.lookup x=some c:=by
 have hm:(x,NameKind.free)∈scope.names:=mem_of_lookup (B.capf x hx);obtain c1|m1:=rE X.env scope.names hm
 have hs:∃d,(xY X.env scope Z.C).cells.lookup x=some d:=by
  show ∃d,(cellsFrom (Z.C+1) scope.names (eT X.env scope.names [])).lookup x=some d
  rw[hZ];exact ko (bB _ m1)
 obtain d|hd:=hs;rcases kz B I hd with ⟨q,m⟩ | ⟨_,_,q⟩
 ·exact absurd hx (B.cells _ (mH _ _ m) rfl).2
 ·rw[h] at q;cases q;exact hd
theorem LJ (h:Heap) (C:Addr) (hC:h.objs.7=C+1) (names:List (Str×NameKind)):CellsOk (pushCells h names) (C+1) (cellsFrom (C+1) names []):=by
 have q:=cellsFrom_ok names h (C+1) [] #[λ_ _ hm=>(nomatch hm),List.Pairwise.nil] (by rw[hC];exact ah _);rwa [hC] at q
theorem E5 (I:Inv X pins σ Z.H Z.s) (h:X.env.cells.lookup x=some c):@LT.lt Nat instLTNat c Z.s.6:=by
 obtain v|q:=I.cell x c h;exact q.lt
theorem Um (I:Inv X pins σ Z.H Z.s) (hc:X.calm=true) (B:Bk X.env scope own capN) (hC:Z.s.6<=Z.C) (hcl:CellsOk h1 (Z.C+1) (cellsFrom (Z.C+1) scope.names []))
  (hf:∀b∈Z.fp,lY X pins Z.H b/\@LT.lt Nat instLTNat b Z.s.6):(yG X own capN scope Z).Ok:=by
 refine #[I.ok.mod,B.kind,I.ok.glob,I.ok.blt,hC,λx y c h1 h2=>?_,λx hx=>?_,λx c hx h=>?_,λ_=>I.ok.hd hc,I.ok.frames,.inl rfl,λb hb=>#[?_,λx c h=>?_],I.bs,af I.ok.bsz I.sz,λb o e hb=>?_,λb hb hz=>?_,I.stack,I.stkFree]
 ·rcases kz B I h1 with ⟨q1,m1⟩ | ⟨q1,n1,m1⟩ <;> rcases kz B I h2 with ⟨q2,m2⟩ | ⟨q2,n2,m2⟩
  ·exact name_of_addr hcl.apart m1 m2
  ·have l1:=(hcl.empty _ _ m1).2;have l2:=E5 I m2
   lia
  ·have l1:=(hcl.empty _ _ m2).2;have l2:=E5 I m1
   lia
  ·exact I.ok.inj x y c m1 m2
 ·have hx':(relabel scope X.env).names.lookup x=some .cell\/(relabel scope X.env).names.lookup x=some .free:=hx
  have hk:scope.names.lookup x=some .cell\/scope.names.lookup x=some .free:=by
   rcases hx' with h | h
   ·obtain ⟨k0,e,q | ⟨q,_⟩⟩:=vY h
    ·exact .inl (by rw[e,<- q])
    ·exact .inr (by rw[e,q])
   ·obtain ⟨k0,e,q | ⟨_,q⟩⟩:=vY h
    ·exact .inr (by rw[e,<- q])
    ·cases q
  show ∃c,(cellsFrom (Z.C+1) scope.names (eT X.env scope.names [])).lookup x=some c
  rcases hk with h | h
  ·exact UL.mp (yV scope.names (Z.C+1) _ (.inl h))
  ·obtain c|m:=rE X.env scope.names (mem_of_lookup h);rw[hZ];exact ko (bB _ m)
 ·have ho:x∈own:=by have hx':own.contains x=true:=hx;simpa using hx'
  rcases kz B I h with ⟨_,m⟩ | ⟨_,n,_⟩
  ·have:=(hcl.empty _ _ m).2;have hC':Z.s.6<=Z.C:=hC;show Z.s.6<=c
   lia
  ·exact absurd ho n
 ·intro e;have e':@Eq Nat b Z.C:=e;have:=(hf b hb).2
  lia
 ·have l:=(hf b hb).2;rcases kz B I h with ⟨_,m⟩ | ⟨_,_,m⟩
  ·intro e;have e':@Eq Nat c b:=e;have:=(hcl.empty _ _ m).2
   lia
  ·exact (hf b hb).1.2.2.2.2.1 x c m
 ·obtain _|_|_|f3|_:=(hf b hb).1;rcases f3 with f3 | f3
  ·exact I.ok.noex b o e f3
  ·exact absurd (bw (Heap.lt_size e) (af I.ok.bsz f3)) (ff _)
 ·obtain _|f1|f2|_:=(hf b hb).1;rcases aD.mp (I.stkSub b hz) with e | e
  ·exact f1 e
  ·exact f2 e
def MB (k:Nat) (cap:List Nat) (σ:St):St:=List.replicate k none++cap.map λj=>(σ[j]?).join
def yx (X:Cx) (capN:List Str) (cap:List Nat):Prop:=cap.map (λj=>X.N[j]?)=capN.map some
theorem yx.get (h:yx X capN cap) {i:Nat} (e:capN[i]?=some x):∃j,cap[i]?=some j/\X.N[j]?=some x:=by
 have q:=congrArg (λl=>l[i]?) h;simp only[aB,e,Option.map_some] at q;cases hc:cap[i]? with
 | none=>rw[hc] at q;cases q
 | some j=>rw[hc] at q;exact #[j,rfl,by simpa using q]
theorem Ig (I:Inv X pins σ Z.H Z.s) (B:Bk X.env scope own capN) (hcap:yx X capN cap)
  (kc:∀x c,X.env.cells.lookup x=some c->∀v,Z.s.heap.IsCell c v->h'.IsCell c v) {i:Nat} (e1:(own++capN)[i]?=some x) (e2:(MB own.9 cap σ)[i]?=some (some v)) :
  ∃u,RelV v u/\Look (xY X.env scope Z.C) h' m x u:=by
 have hi:own.9<=i:=by
  by_cases hi:own.9<=i
  ·exact hi
  ·exfalso
   unfold MB at e2;rw[bA (by simpa using hi),gR] at e2
   split at e2 <;> cases e2
 rw[a7 hi] at e1;unfold MB at e2;rw[a7 (by simpa using hi),aV,aB] at e2;obtain j|hj|hN:=hcap.get e1;rw[hj] at e2;have e3:(σ[j]?).join=some v:=by simpa using e2
 have e4:σ[j]?=some (some v):=by
  cases q:σ[j]? with
  | none=>rw[q] at e3;cases e3
  | some o=>rw[q] at e3;simp at e3;rw[e3]
 have hx:x∈capN:=ar e1;have hk:=B.caps x hx;obtain m0|_|hl:=I.loc;obtain u|r|l:=hl j x v hN e4 (.inr hk);refine #[u,r,.inr #[Gi (B.capf x hx),?_]];rcases l with ⟨hk2,_⟩ | ⟨_,c,hc,z⟩
 ·rcases hk with hk | hk
  ·rw[hk] at hk2;cases hk2
  ·rw[hk] at hk2;cases hk2
 ·exact #[c,Q7 B I hx hc,kc x c hc _ z]
theorem VG (I:Inv X pins σ Z.H Z.s) (h:b∈MD X.stack):@LT.lt Nat instLTNat b Z.s.6:=by
 obtain _|o|ho|_:=I.stack.mem h;exact Heap.lt_size ho
theorem Q5 {D:Addr} (I:Inv X pins σ Z.H Z.s) (hc:X.calm=true) (B:Bk X.env scope own capN) (hcap:yx X capN cap) (hC:Z.s.6<=Z.C)
  (hcl:CellsOk h1 (Z.C+1) (cellsFrom (Z.C+1) scope.names [])) (hf:∀b∈Z.fp,lY X pins Z.H b/\@LT.lt Nat instLTNat b Z.s.6)
  (hk:∀b o,Z.s.heap.get? b=some o->h1.get? b=some o) (hn:h1.Ns Z.C λ_=>none) (hD:Z.s.6<=D) (hDC:D≠Z.C) (hoD:h1.get? D=some oD) (hdD:∀v,oD.data≠.cell v) :
  Inv (yG X own capN scope Z) [(D,oD)] (MB own.9 cap σ) Z.H { Z.s with heap:=h1,toks:=t1 }:=by
 refine #[Um I hc B hC hcl hf,rfl,I.bare,Un.kept hk,#[_,hn,λi x v e1 e2 _=>Ig I B hcap (λx c _ v z=>z.keeps hk) e1 e2],λx c h=>?_,I.hok.fresh hC,λx c h=>?_,λp hp=>?_,I.hok.kept hk,?_]
 ·rcases kz B I h with ⟨_,m⟩ | ⟨_,_,m⟩
  ·exact #[none,(hcl.empty _ _ m).1]
  ·obtain v|q:=I.cell x c m;exact #[v,q.keeps hk]
 ·rcases kz B I h with ⟨_,m⟩ | ⟨_,_,m⟩
  ·exact I.hok.fresh (by have:=(hcl.empty _ _ m).2;lia)
  ·exact I.freeC x c m
 ·have e:p=(D,oD):=by simpa [yG] using hp
  subst e;exact #[hoD,I.hok.fresh hD,hDC,λz=>ff _ (bw (VG I z) hD),hdD]
 ·show (MB own.9 cap σ).9=(own++capN).9
  have:=congrArg List.length hcap;simp only[ag] at this;unfold MB;simp [this]
theorem OU {σ':St} (I:Inv X pins σ Z.H Z.s) (B:Bk X.env scope own capN) (hcap:yx X capN cap) (hf:∀b∈Z.fp,lY X pins Z.H b/\@LT.lt Nat instLTNat b Z.s.6)
  (J:Inv (yG X own capN scope Z) pins' σ' H' s'):Inv (yG X own capN scope Z) pins' (MB own.9 cap σ) H' s':=by
 refine #[J.ok,J.os,J.bare,J.base,?_,J.cell,J.free,J.freeC,J.pin,J.hok,?_]
 ·obtain m|hn|_:=J.loc;refine #[m,hn,λi x v e1 e2 _=>Ig I B hcap (λx c hx v z=>?_) e1 e2];obtain o|ho|hd:=z;obtain sl|e:=J.base.any ho (I.freeC x c hx) λz=>(hf c z).1.2.2.2.2.1 x c hx rfl
  exact #[_,e,hd]
 ·show (MB own.9 cap σ).9=(own++capN).9
  have:=congrArg List.length hcap;simp only[ag] at this;unfold MB;simp [this]
theorem Q6 {σ':St} {D:Addr} (I:Inv X pins σ Z.H Z.s) (hf:∀b∈Z.fp,lY X pins Z.H b/\@LT.lt Nat instLTNat b Z.s.6) (hD:Z.s.6<=D)
  (J:Inv (yG X own capN scope Z) [(D,{ cls:=.type "list",data:=.seq its.toArray n })] σ' H' s') (r:cS ys its) (hz:ys.9<=sizeLine) :
  Inv X pins σ (upd H' D (.lst ys)) s':=by
 have pD:=J.pin (D,{ cls:=.type "list",data:=.seq its.toArray n }) (by simp);have ne:∀{b:Addr} {o:Obj},Z.s.heap.get? b=some o->b≠D:=λe z=>by subst z;exact ff _ (bw (Heap.lt_size e) hD)
 have nt:∀{b:Addr} {u:HO},H' b=some u->b≠D:=λe z=>by rw[z,pD.2.1] at e;cases e
 refine I.call' (ch:=Z.fp) J.os #[J.base.keep,J.base.slot,λb o e h hx=>?_,J.base.there,λb xs e=>?_,λb o u e=>?_,λb ps e=>?_] (λb u e=>?_) J.bare λb hb=>?_
 ·rw[bG (ne e)];exact J.base.free b o e h hx
 ·have q:=J.base.tups b xs e;rw[bG (nt q)];exact q
 ·have q:=J.base.frzs b o u e;rw[bG (nt q)];exact q
 ·obtain more|q:=J.base.tbls b ps e;exact #[more,by rw[bG (nt q)];exact q]
 ·by_cases hb:b=D
  ·subst hb;rw[aK] at e;cases e;exact #[hz,its,n,r,pD.1]
  ·rw[bG hb] at e;exact (J.hok b u e).stay (λc v _ q=>q) (λc q=>by rw[bG (nt q)];exact q) λc xs q=>by rw[bG (nt q)];exact q
 ·obtain _|f1|_|f3|f4|f5:=(hf b hb).1;exact #[f3,f1,f4,f5]
end
theorem SI {t:Sem α} {Q Q':α->Shared->Prop} (h:wpAny M A t Q (λ_ _=>False) s) (hQ:∀a s,Q a s->Q' a s):wpAny M A t Q' E s :=
 wpAny_mono h hQ λ_ _ z=>False.elim z
theorem E3 (I:Nat->Shared->Prop)
  (turn:∀(E:Value->Shared->Prop) n s,I n s->wpAny (model prog w) A (pyNext it) (λr s₁=>match r with
   | none=>R (.ok .next) s₁
   | some v=>wpAny (model prog w) A (letOwnedTupleGo target it v) (λ_ s₂=>wpAny (model prog w) A (assign target env v) (λ_ s₃ =>
     wpAny (model prog w) A (forIn ifs true λc r=>if r=true then do let ok <- isTrue c env (eval c env);pure (ForInStep.yield ok) else pure (ForInStep.yield r)) (λok s₄ =>
      if ok=true then wpAny (model prog w) A (eval elt env) (λx s₅=>wpAny (model prog w) A (call (.builtin "list.append") [acc,x]) (λ_ s₆=>∃m,m < n/\I m s₆) E s₅) E s₄
      else ∃m,m < n/\I m s₄) E s₃) E s₂) E s₁) E s)
  (n:Nat) (h:I n s):codeAny (model prog w) A (.compLoop (.ListComp elt [#[target,iter,ifs,0]] scope pos) 0 it acc env) R s:=by
 refine codeAny_loop rfl I (λn s hI=>?_) n h;show wpAny _ A ((compTurn (.ListComp elt [#[target,iter,ifs,0]] scope pos) 0 it acc env).onRaise (λx=>do noteFrame x env;theTreesLotGoes x)) _ _ s
 refine wpAny_noted ?_;rw[compTurn_list];refine wpAny_bind (wpAny_standAt (wpAny_bind (wpAny_mono (turn _ n s hI) (λr s₁ h₁=>?_) λ_ _ h'=>h')));cases r with
 | none=>exact wpAny_pure h₁
 | some v =>
  refine wpAny_bind (wpAny_mono h₁ (λ_ s₂ h₂=>wpAny_bind (wpAny_mono h₂ (λ_ s₃ h₃=>wpAny_bind (wpAny_mono h₃ (λok s₄ h₄=>?_) λ_ _ h'=>h')) λ_ _ h'=>h')) λ_ _ h'=>h');cases ok with
  | false=>exact wpAny_pure #[rfl,h₄]
  | true =>
   exact wpAny_bind (wpAny_bind (wpAny_mono h₄ (λx s₅ h₅=>wpAny_bind (wpAny_mono h₅ (λ_ s₆ h₆=>wpAny_pure (wpAny_pure #[rfl,h₆])) λ_ _ h'=>h')) λ_ _ h'=>h'))
def PF (X:Cx) (ifs:List Expr) (t:TT):Prop :=
 ∀(pins:List (Addr×Obj)) (s:Shared) (σ:St) (H:Hp) (Q:Bool->Hp->Prop),Inv X pins σ H s->t σ H Q →
  wpAny (model X.prog X.w) X.A (forIn ifs true λc r=>if r=true then do let ok <- isTrue c X.env (eval c X.env);pure (ForInStep.yield ok) else pure (ForInStep.yield r)) (TP X pins σ Q) X.xe s
def UP:TT:=λ_ H Q=>Q true H
theorem cA:PF X [] UP:=λ_ _ _ H _ I h=>wpAny_tests_nil #[H,I,h]
theorem TL (h:PT X c t):PF X [c] t:=λpins s σ H Q I hw=>wpAny_tests_one (h pins s σ H Q I hw)
def rH (σ₀:St) (g:TG) (tf:TT) (te:TE) (x:V) (H:Hp) (NY:V->Hp->Prop) (NN:Hp->Prop):Prop :=
 g x σ₀ H λσ2 H2=>tf σ2 H2 λb H3=>if b=true then te σ2 H3 NY else NN H3
def rO (J:It) (σ₀:St) (g:TG) (tf:TT) (te:TE) (Q:VK) (H1:Hp):Prop :=
 ∃W:Nat->Nat->List V->Hp->Prop,(∃m,W 0 m [] H1)/\∀i m ys H,W i m ys H →
  (J.stop i H/\ys.9<=sizeLine/\∀p,H p=none->Q (.ref p) (upd H p (.lst ys))) \/
  (J.go i H/\ys.9 < sizeLine/\∃(NY:V->Hp->Prop) (NN:Hp->Prop),(∀y H',NY y H'->∃m',m' < m/\W (i+1) m' (ys++[y]) H')/\(∀H',NN H'->∃m',m' < m/\W (i+1) m' ys H') /\
   ∀x H',J.yld i H x H'->rH σ₀ g tf te x H' NY NN)
def FJ (wi:TI) (k:Nat) (cap:List Nat) (g:TG) (tf:TT) (te:TE):TE:=λσ H Q=>wi σ H λJ H1=>rO J (MB k cap σ) g tf te Q H1
abbrev lobj (its:List Value) (n:Nat):Obj:={ cls:=.type "list",data:=.seq its.toArray n }
section
variable {X:Cx} {own capN:List Str} {cap:List Nat} {scope:Scope} {elt tg iter:Expr} {ifs:List Expr} {pos:Pos} {wi:TI} {g:TG} {tf:TT} {te:TE}
theorem C8 (hc:X.calm=true) (B:Bk X.env scope own capN) (hcap:yx X capN cap)
  (hi:PI X tg iter wi) (hg:∀Z,PG (yG X own capN scope Z) tg g) (hf:∀Z,PF (yG X own capN scope Z) ifs tf) (he:∀Z,PE (yG X own capN scope Z) elt te)
  (hs:∀x,foldedSetIterable iter X.env x=pure x) {σ:St} (I:Inv X pins σ H s) (h:FJ wi own.9 cap g tf te σ H Q)
  (fin:∀(D C:Addr) (s':Shared) (H':Hp),Inv X pins σ H' s'->lY X pins H' C->(∃m,s'.heap.Ns C m)->Q (.ref D) H'->compPost (model X.prog X.w) X.A X.xe use Qe (.ref D) C (.ok .next) s') :
  wpAny (model X.prog X.w) X.A (comprehension (.ListComp elt [#[tg,iter,ifs,0]] scope pos) scope X.env fpos (newList []) false (eval iter X.env) use) Qe X.xe s:=by
 refine wpAny_comprehension_free (use:=use) rfl hs (AY λy hy hk=>I.ok.has y.1 (B.caps _ (B.frees y hy hk).1)) B.kind B.locs ?_;refine iI (hi pins s σ H _ I h) λv s1 h1=>iI h1 λitv s2 h2=>?_
 obtain it|fp|tn|J|H2|e|I2|T|st2|f2|W|⟨m0,w0⟩|turn:=h2;subst e;have hfp:∀b∈fp,lY X pins H2 b/\@LT.lt Nat instLTNat b s2.6:=λb hb=>#[f2 b hb,let ⟨_,e,_⟩:=T.obj _ _ st2 b hb;Heap.lt_size e]
 refine wpAny_newObj_type (GI ?_) (aW _);have es:(s2.heap.push { cls:=.type "list",data:=.seq ([]:List Value).5 }).objs.size=s2.6+1:=Heap.size_push ..
 show codeAny _ _ (.compStart _ 0 (.ref it) (.ref s2.6) { newEnv scope (s2.heap.push { cls:=.type "list",data:=.seq ([]:List Value).5 }).objs.size X.env.globals (cellsFrom ((s2.heap.push { cls:=.type "list",data:=.seq ([]:List Value).5 }).objs.size+1) scope.names (eT X.env scope.names [])) X.env.qual none .none (some X.env) builtinsNs with scope:=relabel scope X.env })
  (compPost (model X.prog X.w) X.A X.xe use Qe (.ref s2.6) (s2.heap.push { cls:=.type "list",data:=.seq ([]:List Value).5 }).objs.size)
  { s2 with heap:=pushCells ((s2.heap.push { cls:=.type "list",data:=.seq ([]:List Value).5 }).push { cls:=.type "dict",data:=.dict [].toArray }) scope.names }
 have hk1:∀b o,(s2.heap.push { cls:=.type "list",data:=.seq ([]:List Value).5 }).get? b=some o->(pushCells ((s2.heap.push { cls:=.type "list",data:=.seq ([]:List Value).5 }).push { cls:=.type "dict",data:=.dict [].toArray }) scope.names).get? b=some o :=
  λb o e=>pushCells_keeps _ _ _ _ (Heap.get?_push_of_some _ e)
 have hk:∀b o,s2.heap.get? b=some o->(pushCells ((s2.heap.push { cls:=.type "list",data:=.seq ([]:List Value).5 }).push { cls:=.type "dict",data:=.dict [].toArray }) scope.names).get? b=some o:=λb o e=>hk1 b o (Heap.get?_push_of_some _ e)
 have hoD:=hk1 s2.heap.objs.size _ (Heap.get?_push_size s2.heap (o:={ cls:=.type "list",data:=.seq ([]:List Value).5 }) rfl);have hn:=(Heap.Ns.new (s2.heap.push { cls:=.type "list",data:=.seq ([]:List Value).5 }) (.type "dict")).keeps (pushCells_keeps scope.names _);have hcl:=LJ ((s2.heap.push { cls:=.type "list",data:=.seq ([]:List Value).5 }).push { cls:=.type "dict",data:=.dict [].toArray }) (s2.6+1) (by rw[Heap.size_push,es]) scope.names;rw[es] at hn ⊢;generalize pushCells ((s2.heap.push { cls:=.type "list",data:=.seq ([]:List Value).5 }).push { cls:=.type "dict",data:=.dict [].toArray }) scope.names=h3 at hk hoD hn hcl ⊢;have Z:Bz:=#[s2,H2,fp,s2.6+1]
 have I3:Inv (yG X own capN scope #[s2,H2,fp,s2.6+1]) [(s2.6,lobj [] 0)] (MB own.9 cap σ) H2 { s2 with heap:=h3 } :=
  Q5 (Z:=#[s2,H2,fp,s2.6+1]) (t1:=s2.toks) I2 hc B hcap (oI _) hcl hfp hk hn (ah _) (cg (jU _)) hoD (λv z=>nomatch z)
 have st3:tn 0 h3:=T.keep _ _ _ st2 λb _ o e=>hk b o e
 have loop:codeAny (model X.prog X.w) X.A (.compLoop (.ListComp elt [#[tg,iter,ifs,0]] scope pos) 0 (.ref it) (.ref s2.6) (xY X.env scope (s2.6+1))) (compPost (model X.prog X.w) X.A X.xe use Qe (.ref s2.6) (s2.6+1)) { s2 with heap:=h3 }:=by
  refine E3 (λm s'=>∃i ys σ' H' its n,Inv (yG X own capN scope #[s2,H2,fp,s2.6+1]) [(s2.6,lobj its n)] σ' H' s'/\tn i s'.8/\(∀b∈fp,H' b=none)/\cS ys its/\W i m ys H') ?_ m0
   #[0,[],_,H2,[],0,I3,st3,λb hb=>(f2 b hb).1,.nil,w0]
  rintro E n s4 ⟨i,ys,σ4,H4,its,k,I4,st4,fr4,rv,w4⟩
  have fpo:∀{pp:List (Addr×Obj)} {H':Hp},(∀p∈pp,p.1=s2.6)->(∀b∈fp,H' b=none)->∀b∈fp,lY (yG X own capN scope #[s2,H2,fp,s2.6+1]) pp H' b:=λ{pp H'} hpp hn b hb=>by
   obtain e1|e2:=I4.ok.exf b hb;refine #[hn b hb,e1,I4.ok.exfs b hb,.inl hb,e2,λp hp=>?_];have hp':p∈pp:=by simpa [yG] using hp
   have l:=(hfp b hb).2;rw[hpp p hp'];exact λz=>ff _ (by rw[<- z] at l;exact l)
  have pinD:∀{its:List Value} {n:Nat},∀p∈[(s2.6,lobj its n)],p.1=s2.6:=λp hp=>by simp at hp;rw[hp]
  rcases turn i n ys H4 w4 with ⟨stop,hz,q⟩ | ⟨go,hlt,NY,NN,hNY,hNN,step⟩
  ·refine iI (T.done (yG X own capN scope #[s2,H2,fp,s2.6+1]) rfl rfl rfl rfl i _ s4 σ4 H4 E I4 (fpo pinD fr4) st4 stop) λr s5 #[hr,I5]=>?_
   subst hr;have pD:=I5.pin (s2.6,lobj its k) (by simp);have I6:=Q6 (Z:=#[s2,H2,fp,s2.6+1]) I2 hfp (ah _) I5 rv hz
   have hC:upd H4 s2.heap.objs.size (.lst ys) (s2.6+1)=none:=by
    rw[bG (Lh (jU _))];exact I5.free
   obtain m|hm|_:=I5.loc;exact fin _ _ s5 _ I6 (I2.fpOk (oI _) hC) #[m,hm] (q _ pD.2.1)
  ·refine iI (T.item (yG X own capN scope #[s2,H2,fp,s2.6+1]) rfl rfl rfl rfl i _ s4 σ4 H4 E I4 (fpo pinD fr4) st4 go) λr s5 #[u,hr,h5]=>?_
   subst hr;refine iI h5 λ_ s6 #[x,H6,I6,r6,y6,st6,fr6]=>?_
   have I6':=(OU (Z:=#[s2,H2,fp,s2.6+1]) I2 B hcap hfp I6).pinned (fpo pinD fr6) (T.obj _ _ st6)
   have back:∀{σ7:St} {H7:Hp} {s7:Shared},Inv (yG X own capN scope #[s2,H2,fp,s2.6+1]) ([(s2.6,lobj its k)]++Ah fp s6.8) σ7 H7 s7 →
     Inv (yG X own capN scope #[s2,H2,fp,s2.6+1]) [(s2.6,lobj its k)] σ7 H7 s7/\tn (i+1) s7.8/\∀b∈fp,H7 b=none:=λ{σ7 H7 s7} I7=>by
    refine #[I7.unpinned,T.keep _ _ _ st6 λb hb o e=>(I7.pin (b,o) (bB _ (bB _ (rh hb e)))).1,λb hb=>?_];obtain o|e|d:=T.obj _ _ st6 b hb;exact (I7.pin (b,o) (bB _ (bB _ (rh hb e)))).2.1
   refine SI (hg _ _ s6 _ H6 x u _ I6' r6 (step x H6 y6)) λ_ s7 #[σ7,H7,I7,q7]=>?_
   refine SI (hf _ _ s7 σ7 H7 _ I7 q7) λok s8 #[H8,I8,q8]=>?_
   cases ok with
   | false =>
    rw[if_neg bf] at q8 ⊢;obtain m'|hm|w8:=hNN H8 q8;obtain J1|J2|J3:=back I8;exact #[m',hm,i+1,ys,σ7,H8,its,k,J1,J2,J3,rv,w8]
   | true =>
    rw[if_pos rfl] at q8 ⊢;refine SI (he _ _ s8 σ7 H8 _ I8 q8) λz s9 #[y,H9,I9,r9,q9]=>?_
    obtain J1|J2|J3:=back I9;obtain m'|hm|w9:=hNY y H9 q9;have pD:=J1.pin (s2.6,lobj its k) (by simp);have hl:=rv.9;refine call_meets F.slot_list_append #[_,pD.1,rfl] F.entry_list_append (F.args_list_append_2 _ _) (PySem.list_append s2.heap.objs.size its.toArray k z (by rw[aG];lia)) #[pD.1,?_];have e9:=mI pD.1 (λa=>a.push z);have e9':(its.toArray.push z)=(its++[z]).5:=by simp
    rw[e9'] at e9;obtain ⟨n',e9⟩:∃n',(s9.heap.update s2.heap.objs.size (Obj.mapSeq λa=>a.push z)).get? s2.6=some (lobj (its++[z]) n'):=#[_,e9]
    have J4:Inv (yG X own capN scope #[s2,H2,fp,s2.6+1]) [] σ7 H9 { s9 with heap:=s9.heap.update s2.heap.objs.size (Obj.mapSeq λa=>a.push z),toks:=s9.toks } :=
     (J1.pins_of (pins':=[]) λp hp=>nomatch hp).turned (λb o hb e=>(Heap.get?_update_other s9.heap _ (Ne.symm hb)).trans e) pD.2.1 pD.2.2.1 (.inr (ah _)) (λx c hx z=>by
      rcases kz (Z:=⟨s2,H2,fp,s2.6+1⟩) B I2 hx with ⟨_,m⟩ | ⟨_,_,m⟩
      ·have:=(hcl.empty _ _ m).2;have z':@Eq Nat c s2.6:=z
       lia
      ·have:=E5 (Z:=#[s2,H2,fp,s2.6+1]) I2 m;rw[z] at this;exact ff _ this) λp hp=>by simp [yG] at hp
    have nfp:∀b∈fp,b≠s2.6:=λb hb z=>by have:=(hfp b hb).2;rw[z] at this;exact ff _ this
    refine #[m',hm,i+1,ys++[y],σ7,H9,its++[z],n',J4.pins_of λp hp=>?_,T.keep _ _ _ J2 λb hb o e=>(Heap.get?_update_other s9.heap _ (Ne.symm (nfp b hb))).trans e,J3,rv.append (.cons r9 .nil),w9];have ep:p=(s2.6,lobj (its++[z]) n'):=by simpa using hp
    rw[ep];exact #[e9,pD.2.1,pD.2.2.1,pD.2.2.2.1,λv z=>nomatch z]
 exact codeAny_compStart_list loop (T.self _ _ _ _ _ st3 loop)
theorem cn (own capN:List Str) (cap:List Nat) (hi:PI X tg iter wi) (hg:∀Z,PG (yG X own capN scope Z) tg g) (hf:∀Z,PF (yG X own capN scope Z) ifs tf) (he:∀Z,PE (yG X own capN scope Z) elt te)
  (h1:V5 scope own capN=true:=by decide +kernel) (h2:Dc X.env capN=true:=by rfl) (hcap:yx X capN cap:=by rfl) (hc:X.calm=true:=by rfl) (hs:∀x,foldedSetIterable iter X.env x=pure x:=by intro _;rfl) :
  PE X (.ListComp elt [#[tg,iter,ifs,0]] scope pos) (FJ wi own.9 cap g tf te):=by
 intro pins s σ H Q I h;rw[eval_ListComp];refine C8 (use:=none) hc (Bk.of h1 h2) hcap hi hg hf he hs I h λD C s' H' I' fC hm q=>?_
 obtain m|hm:=hm;refine #[m,hm,λh' hs'=>?_];obtain f0|f1|f2|f3|f4|f5:=fC;exact #[.ref D,H',I'.turned (t':=s'.toks) (λb o hb e=>(hs'.2 b hb).trans e) f0 f1 f3 f4 f5,rfl,q]
theorem nB (i:Nat) (own capN:List Str) (cap:List Nat) {x:Str} {pos' spos:Pos} (hN:X.N.Nodup) (hi':X.N[i]?=some x) (hx:X.env.scope.names.lookup x=some .local) (hi:PI X tg iter wi) (hg:∀Z,PG (yG X own capN scope Z) tg g) (hf:∀Z,PF (yG X own capN scope Z) ifs tf) (he:∀Z,PE (yG X own capN scope Z) elt te)
  (h1:V5 scope own capN=true:=by decide +kernel) (h2:Dc X.env capN=true:=by rfl) (hcap:yx X capN cap:=by rfl) (hc:X.calm=true:=by rfl) (hs:∀x,foldedSetIterable iter X.env x=pure x:=by intro _;rfl)
  (hsw:swapsWith (.ListComp elt [#[tg,iter,ifs,0]] scope pos) (some (.Name x pos')) spos.line X.env=pure true:=by rfl) :
  PS X (.Assign [.Name x pos'] (.ListComp elt [#[tg,iter,ifs,0]] scope pos) spos) (MW (FJ wi own.9 cap g tf te) (C2 i)):=by
 intro pins s σ H D I h;rw[exec_Assign_Name_used _ _ _ _ hsw];refine wpAny_bind (wpAny_standAt (wpAny_bind ?_));rw[arm_evalThenUse_ListComp];refine wpAny_bind (C8 (Q:=λv H1=>D.nx (σ.set i (some v)) H1) (use:=some _) hc (Bk.of h1 h2) hcap hi hg hf he hs I h λL C s' H' I' fC hm q=>?_);obtain m|hm:=hm;obtain f0|f1|f2|f3|f4|f5:=fC;refine wpAny_assign_Name (Cu I' hN hi' (.inl hx) (v:=.ref L) rfl (λs'' I'' #[a,sb,ha]=>?_) (.inr hx))
 have hCa:C≠a:=by
  rcases ha with e | e
  ·rw[e];exact f1
  ·exact (f4 x a e).symm
 refine #[m,hm.at' λo e=>(sb.2 C hCa).trans e,λh' hs'=>?_];have I3:=I''.turned (h':=h') (t':=s''.toks) (λb o hb e=>(hs'.2 b hb).trans e) f0 f1 f3 f4 f5;exact wpAny_pure (wpAny_pure #[_,H',I3,q])
end
section
variable {K:FG9}
theorem iu (Pv:Nat->List V->Hp->Prop) (hz:xs.9<=sizeLine) (h0:Pv 0 [] H) (hl:∀i ys H,i<=xs.9->Pv i ys H->bC K H a xs)
  (hs:∀i x ys H,xs[i]?=some x->ys.9<=i->Pv i ys H->rH σ₀ g tf te x H (λy H'=>Pv (i+1) (ys++[y]) H') (λH'=>Pv (i+1) ys H'))
  (hd:∀ys H,ys.9<=xs.9->Pv xs.9 ys H->∀p,H p=none->Q (.ref p) (upd H p (.lst ys))):rO (RD K a) σ₀ g tf te Q H:=by
 refine #[λi m ys H=>m=xs.9 - i/\i<=xs.9/\ys.9<=i/\Pv i ys H,#[xs.9,by simp,aW _,aW _,h0],?_];rintro i m ys H ⟨rfl,hi,hy,p⟩;have q:=hl i ys H hi p;by_cases hlt:i < xs.9
 ·refine .inr #[#[xs,xs[i],q,by simp [hlt]],(),λy H'=>Pv (i+1) (ys++[y]) H',λH'=>Pv (i+1) ys H',λy H' p'=>#[xs.9 - (i+1),(),rfl,hlt,by rw[aj,bg];lia,p'],λH' p'=>#[xs.9 - (i+1),(),rfl,hlt,(),p'],λx H' y=>?_];obtain e|y:=y;subst e;exact hs i x ys _ (y xs q) hy p
 ·have e:i=xs.9:=()
  subst e;exact .inl #[#[xs,q,ah _],(),hd ys H hy p]
theorem OR (Pv:Nat->List V->Hp->Prop) (hz:xs.9<=sizeLine) (h0:Pv 0 [] H) (hl:∀i ys H,i<=xs.9->Pv i ys H->j8 K H a xs)
  (hs:∀i x ys H,xs[i]?=some x->ys.9<=i->Pv i ys H->rH σ₀ g tf te x H (λy H'=>Pv (i+1) (ys++[y]) H') (λH'=>Pv (i+1) ys H'))
  (hd:∀ys H,ys.9<=xs.9->Pv xs.9 ys H->∀p,H p=none->Q (.ref p) (upd H p (.lst ys))):rO (RC K a) σ₀ g tf te Q H:=by
 refine #[λi m ys H=>m=xs.9 - i/\i<=xs.9/\ys.9<=i/\Pv i ys H,#[xs.9,by simp,aW _,aW _,h0],?_];rintro i m ys H ⟨rfl,hi,hy,p⟩;have q:=hl i ys H hi p;by_cases hlt:i < xs.9
 ·refine .inr #[#[xs,xs[i],q,by simp [hlt]],(),λy H'=>Pv (i+1) (ys++[y]) H',λH'=>Pv (i+1) ys H',λy H' p'=>#[xs.9 - (i+1),(),rfl,hlt,by rw[aj,bg];lia,p'],λH' p'=>#[xs.9 - (i+1),(),rfl,hlt,(),p'],λx H' y=>?_];obtain e|y:=y;subst e;exact hs i x ys _ (y xs q) hy p
 ·have e:i=xs.9:=()
  subst e;exact .inl #[#[xs,q,ah _],(),hd ys H hy p]
theorem rC {lo:Int} (Pv:Nat->List V->Hp->Prop) (hz:n<=sizeLine) (h0:Pv 0 [] H)
  (hs:∀i ys H,i < n->ys.9<=i->Pv i ys H->rH σ₀ g tf te (.int (lo+i)) H (λy H'=>Pv (i+1) (ys++[y]) H') (λH'=>Pv (i+1) ys H'))
  (hd:∀ys H,ys.9<=n->Pv n ys H->∀p,H p=none->Q (.ref p) (upd H p (.lst ys))):rO (IM lo n) σ₀ g tf te Q H:=by
 refine #[λi m ys H=>m=n - i/\i<=n/\ys.9<=i/\Pv i ys H,#[n,by simp,aW _,aW _,h0],?_];rintro i m ys H ⟨rfl,hi,hy,p⟩;by_cases hlt:i < n
 ·refine .inr #[hlt,(),λy H'=>Pv (i+1) (ys++[y]) H',λH'=>Pv (i+1) ys H',λy H' p'=>#[n - (i+1),(),rfl,hlt,by rw[aj,bg];lia,p'],λH' p'=>#[n - (i+1),(),rfl,hlt,(),p'],λx H' y=>?_];obtain e|y:=y;subst e y;exact hs i ys _ hlt hy p
 ·have e:i=n:=()
  subst e;exact .inl #[ah _,(),hd ys H hy p]
end
open Nm
def fZ (i j:Int):Prop:=Uy i j\/∃m n,Sz m i/\Sz n j/\m+n<=100000000
def o6 (i j:Int):Prop:=j≠0/\Sz 8999000 j
theorem A0 (h:Sz k i):Builtin.Int.intBits i<=k:=by
 unfold Builtin.Int.intBits;by_cases e:i=0
 ·subst e;simp
 ·have e':(i == 0)=false:=by simpa using e
  rw[e'];have hn:i.natAbs≠0:=()
  have:=(Nat.log2_lt hn).mpr h;simp only[ki,if_false]
  lia
theorem fZ.ok (h:fZ i j):IntMulOk i j:=by
 rcases h with h | ⟨m,n,h1,h2,h3⟩
 ·exact h.ok
 ·exact .of_le (A0 h1) (A0 h2) (af h3 ())
section
variable {X:Cx} {a b:Expr} {ta tb:TE} {pos:Pos}
theorem cR:yT X (binaryOp .Mult) (rI fZ λi j=>.int (i*j)):=Wj λ_ _ _ _ _ _ _ hc q=>mul_int q hc.ok
theorem jA (hs:X.stack=env :: l) (S:uN N ps sc) (he:env.scope=sc) (hb:env.builtins=builtinsNs) (hg:env.globals=mainGlobals) (ht:X.prog.given.tree=none) (hd:X.A.depth+Builtin.pylongFrames < recursionLimit):yT X (binaryOp .FloorDiv) (rI o6 λi j=>.int (i.fdiv j)):=by
 intro pins s σ H x y v u Q I rx ry h;obtain i|j|rfl|rfl|hc|q:=h;obtain t|rfl:=rx;obtain t'|rfl:=ry;refine floordiv_int hc.1 #[.int _,H,I.tok _,#[_,rfl],q] (.inr (PySem.PylongRoom.of I.nolimit hd (PySem.SeerAt.of (I.ok.mod.seer.keeps I.bk) ht (env:=env) (l:=l) (by rw[I.ok.frames,hs]) (by rw[he];exact S.gen) (by rw[he];exact S.co) hb hg)))
theorem uj (hr:lV k A):A.depth+Builtin.pylongFrames < recursionLimit:=by have:=hr.dp;show A.depth+100 < _;lia
def UR (t u:TS):TS:=λD σ H=>∃N:St->Hp->Prop,t { D with nx:=N } σ H/\∀σ' H',N σ' H'->u D σ' H'
theorem ks {st:Stmt} (h1:PS X st t) (h2:IL X rest u):IL X (st :: rest) (UR t u):=by
 intro pins s σ H D I h;obtain N|h|k:=h;refine wpAny_execs_cons (iI (h1 pins s σ H { D with nx:=N } I h) λf s1 q=>?_);cases f with
 | next =>
  obtain σ'|H'|I'|q:=q;exact h2 pins s1 σ' H' D I' (k _ _ q)
 | ret v=>exact q
 | brk=>exact q
 | cont=>exact q
def RW (K:FG9):V->V->Hp->VK->Prop:=λo i H Q=>∃p xs k v,o=.ref p/\i=.int k/\bC K H p xs/\JT xs k=some v/\Q v H
theorem Ol:VO X (RW X.K):=by
 intro pins s σ H o i ov iv Q I ro ri h;obtain p|xs|k|z|rfl|rfl|hq|he|q:=h;cases ro;obtain t|rfl:=ri;obtain its|r|pl|hz:=I.list hq;obtain j|h1|h2|h3|h4|h5:=E6 he;obtain w|ew|rw':=r.get h2;have hl:=r.9;have hn:=AE;have fin:EP X pins σ Q w s:=#[z,H,I,rw',q];by_cases h0:0<=k
 ·have hj:k.toNat=j:=by
   rw[seqIndex_of h0 h5] at h1;exact cp h1
  exact wpAny_getItem_list pl.isList h0 () (by rw[hj];simpa using ew) fin
 ·have hj:(k+(its.5.7:Int)).toNat=j:=by
   rw[seqIndex_neg () h4] at h1;rw[aG,<- hl];exact cp h1
  exact wpAny_getItem_list_neg pl.isList () (by rw[aG] <;> lia) () (by rw[hj];simpa using ew) fin
def Jl (K:FG9) (T:String):V->Hp->VK->Prop:=λx H Q=>∃t b,vL K H x t/\PySem.W.kitOne K t (.type T)=some b/\Q (.bl b) H
theorem vC {c:Str} {T:String} {p p2:Pos} (hg:Gl X "isinstance") (hm:X.mg "isinstance"=none) (hb:bootBuiltins c=some (.type T)) (hmc:X.mg c=none) (ha:PE X a ta) (hgc:Gl X c:=by rfl) (hn:c≠"__name__":=by decide)
  (hd:(c == ("__debug__":Str))=false:=by decide) (he:starEach [a,.Name c p2] X.env=[(false,eval a X.env),(false,eval (.Name c p2) X.env)]:=by rfl)
  (hpl:(backTo pos (starEach [.Name c p2] X.env)).any (·.1)=false:=by rfl) (he2:starEach [.Name c p2] X.env=[(false,eval (.Name c p2) X.env)]:=by rfl):PE X (.Call (.Name "isinstance" p) [a,.Name c p2] [] pos) (V3 (Jl X.K T) ta):=by
 intro pins s σ H Q I h;refine wpAny_Call_Name_kw (k9 I hg hm PyProof.Rows.boot_isinstance ?_);have hA:PA X [a,.Name c p2] (jZ ta (jZ (tC (.ty T)) Bn)):=dh ha (dh (yN hgc hmc hb rfl hn hd) jy he2) (by rw[he,he2])
 have hq:jZ ta (jZ (tC (.ty T)) Bn) σ H (λvs H1=>∃x,vs=[x,.ty T]/\Jl X.K T x H1 Q):=by
  show ta σ H λx H1=>∃x',[x,V.ty T]=[x',V.ty T]/\Jl X.K T x' H1 Q
  have e:(λx H1=>∃x',[x,V.ty T]=[x',V.ty T]/\Jl X.K T x' H1 Q)=λx H1=>Jl X.K T x H1 Q:=by
   funext x H1;apply propext;constructor
   ·rintro ⟨x',e,q⟩;cases e;exact q
   ·intro q;exact #[x,rfl,q]
  rw[e];exact h
 refine PyProof.Rows.callWith_builtin1 (iI (hA pos pins s σ H _ I hq) λus s1 #[vs,H1,I1,r1,x,e,q1]=>?_) (by rw[he,he2]) hpl;subst e;obtain u|w'|rfl|ru|rt:=vals2 r1;cases rt;obtain t|bb|ty|ek|q:=q1;exact C1 I1 ru ty ek λtk=>#[.bl bb,H1,I1.tok tk,rfl,q]
end
structure Kind (α:Type) [DecidableEq α] where
 R:FG9->Hp->V->α->Prop
 d:Nat
 inj:∀{X:Cx} {pins:List (Addr×Obj)} {σ:St} {H:Hp} {s:Shared} {x:V} {a b:α},Inv X pins σ H s->R X.K H x a->R X.K H x b->a=b
 rc:∀{X:Cx} {pins:List (Addr×Obj)} {σ:St} {H:Hp} {s:Shared} {x y:V} {v u:Value} {a b:α} {A:Around},Inv X pins σ H s->RelV x v->RelV y u->R X.K H x a->R X.K H y b->A.units+d < cLine->SeqAt.RcAt A s v u (decide (a=b))
 ne:∀{X:Cx} {pins:List (Addr×Obj)} {σ:St} {H:Hp} {s:Shared} {x y:V} {v u:Value} {a b:α} {A:Around},Inv X pins σ H s->RelV x v->RelV y u->R X.K H x a->R X.K H y b->A.units+d < cLine->SeqAt.RcNeAt A s v u (!decide (a=b))
 eq:∀{X:Cx} {pins:List (Addr×Obj)} {σ:St} {H:Hp} {s:Shared} {x y:V} {v u:Value} {a b:α} {A:Around},Inv X pins σ H s->RelV x v->RelV y u->R X.K H x a->R X.K H y b->A.units+d < cLine->SeqAt.EqAt A s v u (decide (a=b))
def QL:Kind Int where
 R:=λ_ _ x i=>x=.int i
 d:=0
 inj:=λ_ h1 h2=>by rw[h1] at h2;cases h2;rfl
 rc:=λ{X pins σ H s x y v u a b A} I rx ry h1 h2 _=>by
  subst h1 h2;obtain t|rfl:=rx;obtain t'|rfl:=ry;have q:=SeqAt.RcAt.int_int (A:=A) (s:=s) a t b t';rwa [iP] at q
 ne:=λ{X pins σ H s x y v u a b A} I rx ry h1 h2 _=>by
  subst h1 h2;obtain t|rfl:=rx;obtain t'|rfl:=ry;have q:=SeqAt.RcNeAt.int_int (A:=A) (s:=s) a t b t';rwa [iP] at q
 eq:=λ{X pins σ H s x y v u a b A} I rx ry h1 h2 _=>by
  subst h1 h2;obtain t|rfl:=rx;obtain t'|rfl:=ry;have q:=SeqAt.EqAt.int_int (A:=A) (s:=s) a t b t';rwa [iP] at q
theorem lQ {α β:Type} {F:α->β->Prop}:∀{l1:List α} {l2:List β} {i:Nat} (_:Paired F l1 l2) (h1:i < l1.9) (h2:i < l2.9),F l1[i] l2[i]
 | _,_,_,.nil,h1,_=>absurd h1 (dw _)
 | _,_,0,.cons r _,_,_=>r
 | _,_,i+1,.cons _ t,h1,h2=>lQ (i:=i) t (Nat.lt_of_succ_lt_succ h1) (Nat.lt_of_succ_lt_succ h2)
theorem ox {α β:Type} {F:α->β->Prop} (hF:∀a b x,F a x->F b x->a=b):∀{l1 l2:List α} {l:List β},Paired F l1 l->Paired F l2 l->l1=l2
 | _,_,_,.nil,.nil=>rfl
 | _,_,_,.cons r t,.cons r' t'=>by rw[hF _ _ _ r r',ox hF t t']
theorem wQ {α:Type} [DecidableEq α] (as bs:List α) (h:as.9=bs.9):(List.range as.9).all (λj=>decide (as[j]?=bs[j]?))=decide (as=bs):=by
 rw[nX,qB,decide_eq_true_iff];constructor
 ·intro q;apply jk;intro i;by_cases hi:i < as.9
  ·exact of_decide_eq_true (q i (o8.mpr hi))
  ·rw[aP (),aP ()]
 ·rintro rfl i _;simp
section
variable {α:Type} [DecidableEq α] (k:Kind α)
theorem Kind.items {X:Cx} {pins:List (Addr×Obj)} {σ:St} {H:Hp} {s:Shared} {A:Around} (I:Inv X pins σ H s) (hA:A.units+k.d < cLine) {xs ys:List V} {us ws:List Value} {as bs:List α}
  (rx:cS xs us) (ry:cS ys ws) (ha:Paired (λa x=>k.R X.K H x a) as xs) (hb:Paired (λa x=>k.R X.K H x a) bs ys) :
  ∀j (h1:j < us.5.7) (h2:j < ws.5.7),SeqAt.EqAt A s us.5[j] ws.5[j] (decide (as[j]?=bs[j]?)):=λj h1 h2=>by
 have l1:j < us.9:=by simpa using h1
 have l2:j < ws.9:=by simpa using h2
 have e1:=rx.9;have e2:=ry.9;have e3:=ha.9;have e4:=hb.9;obtain u|hu|ru:=rx.get (i:=j) (x:=xs[j]'()) (by simp);obtain w|hw|rw':=ry.get (i:=j) (x:=ys[j]'()) (by simp);have q:=k.eq (A:=A) I ru rw' (lQ ha () ()) (lQ hb () ()) hA
 have eu:us.5[j]=u:=by
  have:=hu;rw[ae l1] at this;simpa using this
 have ew:ws.5[j]=w:=by
  have:=hw;rw[ae l2] at this;simpa using this
 rw[eu,ew,ae (show j < as.9 by lia),ae (show j < bs.9 by lia)];have e5:decide (some as[j]=some bs[j])=decide (as[j]=bs[j]):=by simp
 rw[e5];exact q
theorem Dz {α:Type} [DecidableEq α] (as bs:List α) {n m:Nat} (h1:as.9=n) (h2:bs.9=m):((List.range (min n m)).all (λj=>decide (as[j]?=bs[j]?)) && n == m)=decide (as=bs):=by
 subst h1 h2;by_cases e:as.9=bs.9
 ·rw[show min as.9 bs.9=as.9 by lia,wQ as bs e];simp [e]
 ·have h1:(as.9 == bs.9)=false:=by simpa using e
  rw[h1,Bool.and_false];exact (decide_eq_false λz=>e (by rw[z])).symm
def Wl:Kind (List α) where
 R:=λK H x as=>∃p xs,x=.ref p/\j8 K H p xs/\Paired (λa x=>k.R K H x a) as xs
 d:=k.d+1
 inj:=λ{X pins σ H s x a b} I h1 h2=>by
  obtain p|xs|rfl|hp|pa:=h1;obtain q|ys|e|hq|pb:=h2;cases e;have e:=I.tuple_inj hp hq;subst e;exact ox (F:=λa x=>k.R X.K H x a) (λa b x=>k.inj I) pa pb
 rc:=λ{X pins σ H s x y v u a b A} I rx ry h1 h2 hA=>by
  obtain p|xs|rfl|hp|pa:=h1;obtain q|ys|rfl|hq|pb:=h2;cases rx;cases ry;obtain us|r1|t1|_:=I.tuple hp;obtain ws|r2|t2|_:=I.tuple hq;have z:=SeqAt.RcAt.tuples (A:=A) (e:=λj=>decide (a[j]?=b[j]?)) (show s.heap.IsTuple p us.toArray from t1) (show s.heap.IsTuple q ws.toArray from t2) () (k.items (A:=A.in1) I (by show A.units+1+k.d < cLine;lia) r1 r2 pa pb);rwa [Dz a b (by rw[pa.9,r1.9];simp) (by rw[pb.9,r2.9];simp)] at z
 ne:=λ{X pins σ H s x y v u a b A} I rx ry h1 h2 hA=>by
  obtain p|xs|rfl|hp|pa:=h1;obtain q|ys|rfl|hq|pb:=h2;cases rx;cases ry;obtain us|r1|t1|_:=I.tuple hp;obtain ws|r2|t2|_:=I.tuple hq;have z:=SeqAt.RcNeAt.tuples (A:=A) (e:=λj=>decide (a[j]?=b[j]?)) (show s.heap.IsTuple p us.toArray from t1) (show s.heap.IsTuple q ws.toArray from t2) () (k.items (A:=A.in1) I (by show A.units+1+k.d < cLine;lia) r1 r2 pa pb);rwa [Dz a b (by rw[pa.9,r1.9];simp) (by rw[pb.9,r2.9];simp)] at z
 eq:=λ{X pins σ H s x y v u a b A} I rx ry h1 h2 hA=>by
  obtain p|xs|rfl|hp|pa:=h1;obtain q|ys|rfl|hq|pb:=h2;cases rx;cases ry;by_cases e:p=q
  ·subst e;have e:=I.tuple_inj hp hq;subst e;rw[ox (F:=λa x=>k.R X.K H x a) (λa b x=>k.inj I) pa pb,decide_eq_true rfl];exact SeqAt.EqAt.same _
  ·obtain us|r1|t1|_:=I.tuple hp;obtain ws|r2|t2|_:=I.tuple hq;have z:=SeqAt.RcAt.tuples (A:=A) (e:=λj=>decide (a[j]?=b[j]?)) (show s.heap.IsTuple p us.toArray from t1) (show s.heap.IsTuple q ws.toArray from t2) () (k.items (A:=A.in1) I (by show A.units+1+k.d < cLine;lia) r1 r2 pa pb);rw[Dz a b (by rw[pa.9,r1.9];simp) (by rw[pb.9,r2.9];simp)] at z;exact .of_refs e z
theorem Jy {X:Cx} {pins:List (Addr×Obj)} {σ:St} {H:Hp} {s:Shared} {p q:Addr} {xs ys:List V} {a b:List α} {A:Around} (I:Inv X pins σ H s) (hp:bC X.K H p xs) (hq:bC X.K H q ys)
  (pa:Paired (λa x=>k.R X.K H x a) a xs) (pb:Paired (λa x=>k.R X.K H x a) b ys) (hA:A.units+(k.d+1) < cLine) :
  SeqAt.RcAt A s (.ref p) (.ref q) (decide (a=b))/\SeqAt.RcNeAt A s (.ref p) (.ref q) (!decide (a=b)):=by
 obtain us|r1|t1|_:=I.list hp;obtain ws|r2|t2|_:=I.list hq;have l1:=r1.9;have l2:=r2.9;have l3:=pa.9;have l4:=pb.9;by_cases e:us.9=ws.9
 ·have it:=k.items (A:=A.in1) I (by show A.units+1+k.d < cLine;lia) r1 r2 pa pb;have z:=SeqAt.RcAt.lists (A:=A) (e:=λj=>decide (a[j]?=b[j]?)) t1.isList t2.isList (by simpa using e) () it;have z2:=SeqAt.RcNeAt.lists (A:=A) (e:=λj=>decide (a[j]?=b[j]?)) t1.isList t2.isList (by simpa using e) () it;have e1:us.5.7=a.9:=by rw[aG];lia
  rw[e1,wQ a b ()] at z z2;exact #[z,z2]
 ·have hne:¬a=b:=λz=>e (by have:=congrArg List.length z;lia)
  rw[decide_eq_false hne];exact #[SeqAt.RcAt.lists_lengths t1.isList t2.isList (by simpa using e) (),SeqAt.RcNeAt.lists_lengths t1.isList t2.isList (by simpa using e) ()]
def QK:Kind (List α) where
 R:=λK H x as=>∃p xs,x=.ref p/\bC K H p xs/\Paired (λa x=>k.R K H x a) as xs
 d:=k.d+1
 inj:=λ{X pins σ H s x a b} I h1 h2=>by
  obtain p|xs|rfl|hp|pa:=h1;obtain q|ys|e|hq|pb:=h2;cases e;have e:=I.list_inj hp hq;subst e;exact ox (F:=λa x=>k.R X.K H x a) (λa b x=>k.inj I) pa pb
 rc:=λ{X pins σ H s x y v u a b A} I rx ry h1 h2 hA=>by
  obtain p|xs|rfl|hp|pa:=h1;obtain q|ys|rfl|hq|pb:=h2;cases rx;cases ry;exact (Jy k I hp hq pa pb hA).1
 ne:=λ{X pins σ H s x y v u a b A} I rx ry h1 h2 hA=>by
  obtain p|xs|rfl|hp|pa:=h1;obtain q|ys|rfl|hq|pb:=h2;cases rx;cases ry;exact (Jy k I hp hq pa pb hA).2
 eq:=λ{X pins σ H s x y v u a b A} I rx ry h1 h2 hA=>by
  obtain p|xs|rfl|hp|pa:=h1;obtain q|ys|rfl|hq|pb:=h2;cases rx;cases ry;by_cases e:p=q
  ·subst e;have e:=I.list_inj hp hq;subst e;rw[ox (F:=λa x=>k.R X.K H x a) (λa b x=>k.inj I) pa pb,decide_eq_true rfl];exact SeqAt.EqAt.same _
  ·exact .of_refs e (Jy k I hp hq pa pb hA).1
def Kind.via {β:Type} [DecidableEq β] (f:β->α) (fi:∀a b,f a=f b->a=b) (R':FG9->Hp->V->β->Prop) (im:∀{K H x b},R' K H x b->k.R K H x (f b)):Kind β where
 R:=R'
 d:=k.d
 inj:=λI h1 h2=>fi _ _ (k.inj I (im h1) (im h2))
 rc:=λ{X pins σ H s x y v u a b A} I rx ry h1 h2 hA=>by
  have z:=k.rc (A:=A) I rx ry (im h1) (im h2) hA;rwa [decide_eq_decide.mpr (show f a=f b↔a=b from #[fi a b,λe=>by rw[e]])] at z
 ne:=λ{X pins σ H s x y v u a b A} I rx ry h1 h2 hA=>by
  have z:=k.ne (A:=A) I rx ry (im h1) (im h2) hA;rwa [decide_eq_decide.mpr (show f a=f b↔a=b from #[fi a b,λe=>by rw[e]])] at z
 eq:=λ{X pins σ H s x y v u a b A} I rx ry h1 h2 hA=>by
  have z:=k.eq (A:=A) I rx ry (im h1) (im h2) hA;rwa [decide_eq_decide.mpr (show f a=f b↔a=b from #[fi a b,λe=>by rw[e]])] at z
end
def xa (K:FG9) (H:Hp) (x:V) (n:Int×Int):Prop:=∃p,x=.ref p/\j8 K H p [.int n.1,.int n.2]
def Vy:Kind (Int×Int):=(Wl QL).via (λn=>[n.1,n.2]) (λa b e=>by cases a;cases b;simp at e;rw[e.1,e.2]) xa λ#[p,e,h]=>#[p,_,e,h,.cons rfl (.cons rfl .nil)]
def Vo (K:FG9):R2:=λx y H Q=>∃(α:Type) (_:DecidableEq α) (k:Kind α) (a b:α),k.d<=50/\k.R K H x a/\k.R K H y b/\Q (.bl (decide (a=b))) H
def Tx (K:FG9):R2:=λx y H Q=>∃(α:Type) (_:DecidableEq α) (k:Kind α) (a b:α),k.d<=50/\k.R K H x a/\k.R K H y b/\Q (.bl (!decide (a=b))) H
theorem D7 (hu:X.A.units+50 < cLine):yT X (compareOp .Eq) (Vo X.K):=by
 intro pins s σ H x y v u Q I rx ry h;obtain α|_|k|a|b|hd|ha|hb|q:=h;exact k.rc (A:=X.A) I rx ry ha hb () _ _ _ _ #[.bl (decide (a=b)),H,I,rfl,q]
theorem vE (hu:X.A.units+50 < cLine):yT X (compareOp .NotEq) (Tx X.K):=by
 intro pins s σ H x y v u Q I rx ry h;obtain α|_|k|a|b|hd|ha|hb|q:=h;exact k.ne (A:=X.A) I rx ry ha hb () _ _ _ _ #[.bl (!decide (a=b)),H,I,rfl,q]
theorem AN (hr:lV k A):A.units+50 < cLine:=by have:=hr.units;lia
def Inner (H:Hp) (p q:Addr):Prop:=∃a b c:Int,H p=some (.lst [.int a,.int b,.int c,.ref q])
def cY (p:Addr) (H H':Hp):Prop:=(∀b o,H b=some o->b≠p->H' b=some o)/\∀q,Inner H p q->Inner H' p q
theorem cY.refl (H:Hp):cY p H H:=#[λ_ _ h _=>h,λ_ h=>h]
theorem cY.trans (a:cY p H H1) (b:cY p H1 H2):cY p H H2:=#[λc o h n=>b.1 c o (a.1 c o h n) n,λq h=>b.2 q (a.2 q h)]
theorem Inner.inj (h:Inner H p q) (h':Inner H p q'):q=q':=by
 obtain a|b|c|e:=h;obtain a'|b'|c'|e':=h';rw[e] at e';have:=HO.lst.inj (cp e');simp at this;exact this.2.2.2
theorem cY.set (h:H p=some (.lst [.int a,.int b,.int c,.ref q])):cY p H (upd H p (.lst [.int a',.int b',.int c',.ref q])) :=
 #[λb u h n=>by rw[bG n];exact h,λq' h'=>by
  rw[(Inner.inj #[a,b,c,h] h').symm];exact #[a',b',c',aK]]
theorem aH.upto (h:aH H H'):cY p H H':=#[λb o e _=>h b o e,λq #[a,b,c,e]=>#[a,b,c,h _ _ e]]
theorem aH.new (h:H p=Option.none):aH H (upd H p o):=λb u e=>by rw[bG (gX e h)];exact e
theorem aH.sqt {K:FG9} (e:aH H H') (h:j8 K H a xs):j8 K H' a xs:=by
 rcases h with (h | ⟨o,h⟩) | h
 ·exact .inl (.inl (e _ _ h))
 ·exact .inl (.inr #[o,e _ _ h])
 ·exact .inr h
theorem aH.num {K:FG9} (e:aH H H') (h:xa K H x n):xa K H' x n:=by obtain p|q|r:=h;exact #[p,q,e.sqt r]
section
variable {σ:St} {H:Hp} {D:Ends}
theorem oq {t:TS} (e:σ0=σ) (h:t D σ H):t D σ0 H:=by rw[e];exact h
theorem PZ (h:D.nx σ H):RL D σ H:=h
theorem Tu {g:TG} (h:te σ H λx H1=>g x σ H1 D.nx):MW te g D σ H:=h
theorem Nw (h:Q (σ.set i (some v)) H):C2 i v σ H Q:=h
theorem S9 (h:te σ H D.rt):UT te D σ H:=h
theorem Tj (h:c σ H λb H1=>if b=true then t D σ H1 else u D σ H1):UZ c t u D σ H:=h
theorem Qc (h:te σ H λ_ H1=>D.nx σ H1):RO te D σ H:=h
theorem Ta (h:ta σ H λvs H1=>∃v w,vs=[v,w]/\D.nx ((σ.set i (some v)).set j (some w)) H1):UU i j ta D σ H:=h
theorem Qh 
  (h:to σ H λo H1=>ti σ H1 λi H2=>tget o i H2 λx H3=>te σ H3 λy H4=>tip x y H4 λz H5=>tset o i z H5 λH6=>D.nx σ H6):RP to ti te tget tip tset D σ H:=h
theorem Ti (h:Q (.int (f i j)) H):ipI f (.int i) (.int j) H Q:=#[i,j,rfl,rfl,h]
theorem Tq {g:TG} (h:wi σ H λJ H1=>∃W:Nat->Nat->St->Hp->Prop,(∃m,W 0 m σ H1)/\∀i m σ H,W i m σ H →
  (J.stop i H/\D.nx σ H)\/(J.go i H/\∃N:St->Hp->Prop,(∀σ' H',N σ' H'->∃m',m' < m/\W (i+1) m' σ' H')/\∀x H',J.yld i H x H'->g x σ H' λσ2 H2=>tb { D with nx:=N,ct:=N,bk:=D.nx } σ2 H2)):U0 wi g tb D σ H:=h
variable {Q:VK} {QA:List V->Hp->Prop} {QB:Bool->Hp->Prop}
theorem S6 (e:σ[i]?=some (some v)) (h:Q v H):SJ i σ H Q:=#[v,e,h]
theorem Wf (h:Q v H):tC v σ H Q:=h
theorem Vg (h:ta σ H λx H1=>tb σ H1 λy H2=>r x y H2 Q):UW r ta tb σ H Q:=h
theorem Vc (h:ta σ H λx H1=>r x H1 Q):V3 r ta σ H Q:=h
theorem Vl {g:Int->Int->V} (h:Q (g i j) H):Qn g (.int i) (.int j) H Q:=#[i,j,rfl,rfl,h]
theorem fU {g:Int->Int->V} (hc:C i j) (h:Q (g i j) H):rI C g (.int i) (.int j) H Q:=#[i,j,rfl,rfl,hc,h]
theorem Wg {g:Int->V} (h:Q (g i) H):rU g (.int i) H Q:=#[i,rfl,h]
theorem Tt (h:Q (.bl (decide (i=j))) H):Wi (.int i) (.int j) H Q:=#[rfl,by
 have e:decide (V.int i=V.int j)=decide (i=j):=by simp
 rw[e];exact h]
theorem Te (h:Q (.bl (!decide (i=j))) H):Wh (.int i) (.int j) H Q:=#[rfl,by
 have e:decide (V.int i=V.int j)=decide (i=j):=by simp
 rw[e];exact h]
theorem Ts (h:Q (.bl (decide (i=j))) H):Wi (.str i) (.str j) H Q:=#[rfl,by
 have e:decide (V.str i=V.str j)=decide (i=j):=by simp
 rw[e];exact h]
theorem Td (h:Q (.bl (!decide (i=j))) H):Wh (.str i) (.str j) H Q:=#[rfl,by
 have e:decide (V.str i=V.str j)=decide (i=j):=by simp
 rw[e];exact h]
theorem PR (h:t σ H λx H'=>∃k,x=.bl k/\QB k H'):RI t σ H QB:=h
theorem Vd (h:t σ H λx H'=>∃k,x=.bl k/\QB k H'):tB t σ H QB:=h
theorem Tv (h:t σ H λc H1=>if c=true then u σ H1 QB else QB false H1):U1 t u σ H QB:=h
theorem Vf (h:t σ H λc H1=>if c=true then QB true H1 else u σ H1 QB):tOr t u σ H QB:=h
theorem Tb (h:t σ H λc H1=>QB (!c) H1):UX t σ H QB:=h
theorem Qi (h:t σ H λx H1=>∃c,x=.bl c/\if c=true then u σ H1 Q else Q (.bl false) H1):RQ t u σ H Q:=h
theorem PY (h:t σ H λx H1=>∃c,x=.bl c/\Q (.bl (!c)) H1):RK t σ H Q:=h
theorem To (h:c σ H λb H1=>if b=true then ta σ H1 Q else tb σ H1 Q):tIf c ta tb σ H Q:=h
theorem S5 (h:QB true H):UP σ H QB:=h
theorem Tc (h:QA [] H):Bn σ H QA:=h
theorem Qd (h:ta σ H λx H1=>tr σ H1 λxs H2=>QA (x :: xs) H2):jZ ta tr σ H QA:=h
theorem Qg (h:t σ H λvs H1=>sp vs H1 Q E):MV sp [] E t σ H Q:=by
 have e:(λvs H1=>sp (vs++[]) H1 Q E)=λvs H1=>sp vs H1 Q E:=by funext vs H1;rw[rZ]
 show t σ H λvs H1=>sp (vs++[]) H1 Q E
 rw[e];exact h
theorem Vi (h:t σ H λvs H1=>r vs H1 Q):We r t σ H Q:=h
theorem Tg {K:FG9} (hx:j8 K H p xs) (e:JT xs i=some v) (h:Q v H):Tz K (.ref p) (.int i) H Q:=#[p,xs,i,v,rfl,rfl,hx,e,h]
theorem b7 {K:FG9} (hx:bC K H p xs) (e:JT xs i=some v) (h:Q v H):TB K (.ref p) (.int i) H Q:=#[p,xs,i,v,rfl,rfl,hx,e,h]
theorem Qb {K:FG9} (hx:bC K H p xs) (e:JT xs i=some v) (h:Q v H):RW K (.ref p) (.int i) H Q:=#[p,xs,i,v,rfl,rfl,hx,e,h]
theorem fW (hx:H p=some (.lst xs)) (e:MC xs.9 i=some j) (ey:xs.set j v=ys) (h:QH (upd H p (.lst ys))):RV (.ref p) (.int i) v H QH:=#[p,xs,i,j,rfl,rfl,hx,e,by rw[ey];exact h]
theorem P9 (h:to σ H λo H1=>ti σ H1 λi H2=>t o i v H2 λH3=>QS σ H3):VE to ti t v σ H QS:=h
theorem Ny (h:t v σ H λσ' H'=>u r σ' H' QS):Sg t u (v :: r) σ H QS:=#[v,r,rfl,h]
theorem Qa (h:QS σ H):VF [] σ H QS:=#[rfl,h]
theorem P8 {K:FG9} (hx:j8 K H a xs) (hl:xs.9=n) (h:t xs σ H QS):Uc K n t (.ref a) σ H QS:=#[a,xs,rfl,hx,hl,h]
theorem Ve (h:te σ H λx H1=>tl σ H1 λl H2=>th σ H2 λu H3=>r x l u H3 Q):tSl r te tl th σ H Q:=h
theorem Ly (h:QO none H):Kg σ H QO:=h
theorem PX (h:t σ H λx H1=>∃i,x=.int i/\QO (some i) H1):RJ t σ H QO:=h
variable {R:It->Hp->Prop} {K:FG9}
theorem Nu (h:tl σ H λx H1=>∃a,x=.ref a/\(∃xs,bC K H1 a xs)/\R (RD K a) H1):Oh K tl σ H R:=h
theorem P7 (h:tl σ H λx H1=>∃a,x=.ref a/\(∃xs,j8 K H1 a xs)/\R (RC K a) H1):VC K tl σ H R:=h
theorem Nt (h:ta σ H λvs H1=>∃j:Int,vs=[.int j]/\-(2^62)<=j/\j < 2^62/\R (IM 0 j.toNat) H1):Sd ta σ H R:=h
theorem Nr (h:ta σ H λvs H1=>∃i j:Int,vs=[.int i,.int j]/\(-(2^62)<=i/\i < 2^62/\-(2^62)<=j/\j < 2^62)/\R (IM i (j - i).toNat) H1):Sb ta σ H R:=h
theorem Qf {g:TG} (e:MB k cap σ=σ₀) (h:wi σ H λJ H1=>rO J σ₀ g tf te Q H1):FJ wi k cap g tf te σ H Q:=by
 unfold FJ;rw[e];exact h
theorem PN {g:TG} {NY:V->Hp->Prop} (h:g x σ H λσ2 H2=>tf σ2 H2 λb H3=>if b=true then te σ2 H3 NY else NN H3):rH σ g tf te x H NY NN:=h
theorem Vj (h:to σ H λx H1=>Wd K T x H1/\t σ H1 λxs H2=>r x xs H2 Q):tBM K T r to t σ H Q:=h
def VQ (Q:VK) (xs:List V) (H:Hp):Prop:=xs.9<=sizeLine/\∀p,H p=none->Q (.ref p) (upd H p (.tup xs))
def VR (Q:VK) (xs:List V) (H:Hp):Prop:=xs.9<=sizeLine/\∀p,H p=none->Q (.ref p) (upd H p (.lst xs))
theorem S7 (h:t σ H (VQ Q)):UQ t σ H Q:=h
theorem Tf (h:t σ H (VR Q)):UY t σ H Q:=h
theorem kE (h:Nat.ble n 1000=true):n<=sizeLine:=dn (dA (Nat.le_of_ble_eq_true h))
theorem bR {xs:List V} (h:∀p H',aH H H'->H' p=some (.tup xs)->Q (.ref p) H') (hl:Nat.ble xs.9 1000=true:=by rfl):VQ Q xs H :=
 #[kE hl,λp hp=>h p _ (aH.new hp) aK]
theorem c7 {xs:List V} (h:∀p H',aH H H'->H p=none->H' p=some (.lst xs)->Q (.ref p) H') (hl:Nat.ble xs.9 1000=true:=by rfl):VR Q xs H :=
 #[kE hl,λp hp=>h p _ (aH.new hp) hp aK]
theorem VA {A B:Prop} (h:B):if (!true)=true then A else B:=QM h
theorem VB {A B:Prop} (h:A):if (!false)=true then A else B:=Vz h
def WB (tb:TS) (D:Ends) (Pv:St->Hp->Prop) (μ:St->Hp->Nat) (n:Nat) (σ:St) (H:Hp):Prop:=∃N:St->Hp->Prop,(∀σ' H',N σ' H'->∃m',m' < n/\(m'=μ σ' H'/\Pv σ' H'))/\tb { D with nx:=N,ct:=N,bk:=D.nx } σ H
theorem RU (h:tb { D with nx:=λσ' H'=>Pv σ' H'/\μ σ' H' < n,ct:=λσ' H'=>Pv σ' H'/\μ σ' H' < n,bk:=D.nx } σ H):WB tb D Pv μ n σ H :=
 #[_,λσ' H' #[p,l]=>#[_,l,rfl,p],h]
theorem Dw (Pv:St->Hp->Prop) (μ:St->Hp->Nat) (h0:Pv σ H) (hs:∀σ H,Pv σ H->c σ H λb H1=>if b=true then WB tb D Pv μ (μ σ H) σ H1 else D.nx σ H1):MT c tb D σ H:=by
 refine #[λm σ H=>m=μ σ H/\Pv σ H,#[_,rfl,h0],?_];rintro m σ H ⟨rfl,p⟩;exact hs σ H p
end
def ji (H:Hp) (p:Addr):Prop:=∃(q:Addr) (a b c:Int) (cs:List Int),H p=some (.lst [.int a,.int b,.int c,.ref q])/\H q=some (.lst (cs.map V.int))/\0<=a/\0<=c/\c<=(cs.9:Int)/\∀x∈cs,(0:Int)<=x
theorem Mp {H:Hp} {cs:List Int} (hp:H p=some (.lst [.int a,.int b,.int c,.ref q])) (hq:H q=some (.lst (cs.map V.int))):q≠p:=λe=>by
 rw[e,hp] at hq;have h:=HO.lst.inj (cp hq);cases cs with
 | nil=>cases h
 | cons x1 cs=>cases cs with
  | nil=>cases h
  | cons x2 cs=>cases cs with
   | nil=>cases h
   | cons x3 cs=>cases cs with
    | nil=>cases h
    | cons x4 cs=>simp at h
theorem ji.same (h:ji H p) (e:aH H H'):ji H' p:=by obtain q|a|b|c|cs|h1|h2|r:=h;exact #[q,a,b,c,cs,e _ _ h1,e _ _ h2,r]
theorem cY.tup {H H':Hp} {p r:Addr} {xs:List V} (u:cY p H H') (B:ji H p) (h:H r=some (.tup xs)):H' r=some (.tup xs):=by
 obtain q|a|b|c|cs|h1|_:=B;exact u.1 r _ h λe=>by rw[e,h1] at h;cases h
theorem cY.other (u:cY p H H') (n:r≠p) (h:H r=some o):H' r=some o:=u.1 r _ h n
theorem ji.inner (h:ji H p):∃q,Inner H p q/\∃xs,H q=some (.lst xs):=by obtain q|a|b|c|cs|h1|h2|_:=h;exact #[q,#[a,b,c,h1],_,h2]
theorem ji.upd (h:ji H p) (hi:Inner H p q) (n1:r≠p) (n2:r≠q):ji (L2.upd H r o) p:=by
 obtain q'|a|b|c|cs|h1|h2|z:=h;have e:q'=q:=Inner.inj #[a,b,c,h1] hi;subst e;exact #[q',a,b,c,cs,by rw[bG n1.symm];exact h1,by rw[bG n2.symm];exact h2,z]
theorem Inner.upd (hi:Inner H p q) (n1:r≠p):Inner (L2.upd H r o) p q:=by obtain a|b|c|h:=hi;exact #[a,b,c,by rw[bG n1.symm];exact h]
def Pp:Sp:=λvs H Q _=>∃p n,vs=[.ref p,.int n]/\ji H p/\0 < n/\n < 2^64/\∀v H',0<=v->v < n->ji H' p->cY p H H'->Q (.int v) H'
inductive Na (K:FG9) (vs:List V) (H:Hp) (Q:VK) (E9:XK):Prop
 | mk (a:Addr) (ns:List Int):vs=[.ref a]->bC K H a (ns.map V.int)->ns.9<=63->(∀p H',H p=none->ji H' p->aH H H'->Q (.ref p) H')->Na K vs H Q E9
inductive zF (K:FG9) (vs:List V) (H:Hp) (Q:VK) (E9:XK):Prop
 | mk (a:Addr) (ns:List Int):vs=[.ref a]->bC K H a (ns.map V.int)->ns.9<=63->(∀H',Q (.bl true) H')->zF K vs H Q E9
def SU:Sp:=λvs H Q _=>∃t b,vs=[.int t,.int b]/\0 < b/\Sz 8999000 b/\∀r H',aH H H'->H' r=some (.tup [.int (lo t b),.int (hi t b)])->Q (.ref r) H'
def U4:Sp:=λvs H Q _=>∃a b,vs=[.int a,.int b]/\Q (.int (g a b)) H
def Lp:Sp:=λvs H Q _=>∃t b,vs=[.int t,.int b]/\b≠0/\Sz 8999000 b/\∀r H',aH H H'->H' r=some (.tup [.int (lo (if b < 0 then -t else t) (if b < 0 then -b else b)),.int (hi (if b < 0 then -t else t) (if b < 0 then -b else b))])->Q (.ref r) H'
def Sh (a b c d:Int):Int:=a*d+c*b
def Oy (a b c d:Int):Int:=a*d - c*b
def Ox (a _b c _d:Int):Int:=a*c
def Ku (K:FG9) (f:Int->Int->Int->Int->Int):Sp:=λvs H Q _=>∃p q a b c d,vs=[.ref p,.ref q]/\j8 K H p [.int a,.int b]/\j8 K H q [.int c,.int d]/\0 < b/\0 < d/\Sz 4000000 a/\Sz 4000000 b/\Sz 4000000 c/\Sz 4000000 d /\
 ∀r H',aH H H'->H' r=some (.tup [.int (lo (f a b c d) (b*d)),.int (hi (f a b c d) (b*d))])->Q (.ref r) H'
def Pt (K:FG9):Sp:=λvs H Q _=>∃p q a b c d,vs=[.ref p,.ref q]/\j8 K H p [.int a,.int b]/\j8 K H q [.int c,.int d]/\0 < b/\0 < d/\c≠0/\Sz 4000000 a/\Sz 4000000 b/\Sz 4000000 c/\Sz 4000000 d /\
 ∀r H',aH H H'->H' r=some (.tup [.int (lo (if c < 0 then 0 - a*d else a*d) (if c < 0 then 0 - b*c else b*c)),.int (hi (if c < 0 then 0 - a*d else a*d) (if c < 0 then 0 - b*c else b*c))])->Q (.ref r) H'
theorem bM {α β:Type} {F:α->β->Prop}:∀{l1 l1':List α} {l2 l2':List β},Paired F l1 l2->Paired F l1' l2'->Paired F (l1++l1') (l2++l2')
 | _,_,_,_,.nil,h=>h
 | _,_,_,_,.cons r t,h=>.cons r (bM t h)
theorem dH {h:Heap} (ha:h.get? a=some o) (hb:h.get? b=some u) (hc:o.cls≠u.cls):a≠b:=λe=>by
 subst e;rw[ha] at hb;cases hb;exact hc rfl
theorem n9 (h:a≠b):Value.type a≠Value.type b:=λe=>h (by injection e)
theorem Cp {z TI TO i1 i2 l1 l2:Addr} (hz:IsZip h z TI TO f0) (hTI:IsPair h TI (.ref i1) (.ref i2)) (hTO:IsPair h TO a b)
  (h1:h.IsListIter i1 l1 k1) (h2:h.IsListIter i2 l2 k2) (hl1:h.IsList l1 xs) (hl2:h.IsList l2 ys) (hT:TI≠TO) (hi:i1≠i2):ZipApart z TI TO i1 i2 l1 l2:=by
 obtain o1|g1|c1|_:=h1;obtain o2|g2|c2|_:=h2;obtain p1|q1|d1|_:=hl1;obtain p2|q2|d2|_:=hl2;refine #[dH hTI hz ?_,dH hTO hz ?_,dH g1 hz ?_,dH g2 hz ?_,hT,dH hTI g1 ?_,dH hTI g2 ?_,dH hTO g1 ?_,dH hTO g2 ?_,hi,dH q1 hz ?_,dH q1 hTO ?_,dH q1 g1 ?_,dH q1 g2 ?_,dH q2 hz ?_,dH q2 hTO ?_,dH q2 g1 ?_,dH q2 g2 ?_]
 all_goals first
  | (rw[d1];first | (rw[c1];exact n9 ()) | (rw[c2];exact n9 ()) | exact n9 ())
  | (rw[d2];first | (rw[c1];exact n9 ()) | (rw[c2];exact n9 ()) | exact n9 ())
  | (rw[c1];exact n9 ())
  | (rw[c2];exact n9 ())
  | exact n9 ()
def Uw (K : FG9) (l1 l2 : Addr) : It :=
  #[λi H => ∃ xs ys x y, bC K H l1 xs /\ bC K H l2 ys /\ xs[i]? = some x /\ ys[i]? = some y,
   λi H v H' => ∃ p x y, v = .ref p /\ H p = none /\ H' = upd H p (.tup [x, y]) /\ (∀ xs, bC K H l1 xs → xs[i]? = some x) /\ ∀ ys, bC K H l2 ys → ys[i]? = some y,
   λi H => ∃ xs ys, bC K H l1 xs /\ bC K H l2 ys /\ (xs.9 ≤ i \/ ys.9 ≤ i)]
def tnZ (z TI TO i1 i2 l1 l2:Addr) (i:Nat) (h:Heap):Prop:=IsZip h z TI TO .none/\IsPair h TI (.ref i1) (.ref i2)/\(∃a b,IsPair h TO a b)/\h.IsListIter i1 l1 i/\h.IsListIter i2 l2 i
theorem MR {P:Program} {w:World} {K:FG9} {elts:List Expr} {kk:Nat} {tpos:Pos} (z TI TO i1 i2 l1 l2:Addr) (hT:TI≠TO) (hi:i1≠i2):Turn P w K (.Tuple elts kk tpos) (Uw K l1 l2) [z,TI,TO,i1,i2] z (tnZ z TI TO i1 i2 l1 l2) where
 mem:=by simp
 obj:=λi h st b hb=>by
  obtain hz|hTI|⟨a,c,hTO⟩|⟨o1,g1,c1,d1⟩|⟨o2,g2,c2,d2⟩:=st;simp only[aD,aO,or_false] at hb;rcases hb with rfl | rfl | rfl | rfl | rfl
  ·exact #[_,hz,λv q=>nomatch q]
  ·exact #[_,hTI,λv q=>nomatch q]
  ·exact #[_,hTO,λv q=>nomatch q]
  ·exact #[o1,g1,λv q=>by rw[d1] at q;cases q]
  ·exact #[o2,g2,λv q=>by rw[d2] at q;cases q]
 keep:=λi h h' st k=>by
  obtain hz|hTI|⟨a,c,hTO⟩|h1|h2:=st;exact #[k z (by simp) _ hz,k TI (by simp) _ hTI,#[a,c,k TO (by simp) _ hTO],h1.at λo e=>k i1 (by simp) o e,h2.at λo e=>k i2 (by simp) o e]
 item:=by
  intro X hP hw hK hc i pins s σ H E I hf st hg;subst hP hw hK;obtain hz|hTI|⟨a,c,hTO⟩|h1|h2:=st;obtain xs|ys|x|y|qx|qy|ex|ey:=hg;obtain us|rx|px|_:=I.list qx;obtain ws|ry|py|_:=I.list qy;obtain u|eu|ru:=rx.get ex;obtain v|ev|rv:=ry.get ey;have D:=Cp hz hTI hTO h1 h2 px.isList py.isList hT hi;refine wpAny_pyNext_zip_item D hz hTI hTO h1 h2 px.isList py.isList (x:=u) (y:=v) (by simpa using eu) (by simpa using ev) λh' a1 a2 a3 a4 a5 a6 hk=>?_
  refine #[_,rfl,wpAny_letOwnedTupleGo_zip a1 λh'' hz'' hs=>?_];have hT0:H s.6=none:=I.hok.fresh (ah _);have zne:s.6≠z:=Lh (Heap.lt_size hz)
  have up:∀b o,b∉[z,TO,i1,i2]->s.heap.get? b=some o->h''.get? b=some o:=λb o hb e=>by
   simp only[aD,aO,or_false,not_or] at hb;exact (hs.2 b hb.1).trans (hk b o hb.1 hb.2.1 hb.2.2.1 hb.2.2.2 e)
  have fx:∀b∈[z,TO,i1,i2],lY X pins H b:=λb hb=>hf b (by
   simp only[aD,aO,or_false] at hb ⊢;rcases hb with rfl | rfl | rfl | rfl <;> simp)
  have nx:∀b o,H b=some o->b∉[z,TO,i1,i2]:=λb o e hb=>by
   have:=(fx b hb).1;rw[this] at e;cases e
  have nT:∀{b:Addr} {o:HO},H b=some o->b≠s.6:=λe q=>by rw[q,hT0] at e;cases e
  have tup:h''.get? s.6=some { cls:=.type "tuple",data:=.seq [u,v].toArray }:=(hs.2 _ zne).trans a5
  have I2:Inv X pins σ (upd H s.heap.objs.size (.tup [x,y])) { s with heap:=h'' }:=by
   refine I.step (g':=s.gens) (d':=s.drawn) (t':=s.toks) (ch:=[z,TO,i1,i2]) (λb hb=>?_) (λb o _ _ hb e _=>up b o hb e) (λb o _ _ hb e _=>#[o.slots,up b o hb e]) (λb o hb e n=>?_)
    (λb o hb e=>#[o,up b o hb e]) (λb q e=>by rw[bG (nT e)];exact e) (λb o q e=>by rw[bG (nT e)];exact e) (λb q e=>#[[].toArray,by rw[bG (nT e),e];simp]) (λm hm=>?_) (λb o e=>?_) I.bare
   ·obtain _|f1|_|f3|f4|f5:=fx b hb;exact #[f3,f1,f4,f5]
   ·rw[bG (cg (Heap.lt_size e))];exact n
   ·obtain o|es|ep|ho|r:=hm;exact #[o,es,ep,up _ o (λz=>(fx _ z).2.1 rfl) ho,r]
   ·by_cases hb:b=s.6
    ·subst hb;rw[aK] at e;cases e;exact #[kE rfl,[u,v],.cons ru (.cons rv .nil),#[_,tup,rfl,_,rfl]]
    ·rw[bG hb] at e;refine (I.hok b o e).stay (λc v' hc q=>up c v' ?_ q) (λc q=>by rw[bG (nT q)];exact q) λc xs q=>by rw[bG (nT q)];exact q
     rcases hc with rfl | hc
     ·exact nx _ _ e
     ·exact nx _ _ hc
  refine #[.ref s.6,_,I2,rfl,#[_,x,y,rfl,hT0,rfl,λxs' q=>by rw[I.list_inj q qx];exact ex,λys' q=>by rw[I.list_inj q qy];exact ey],?_,λb hb=>?_]
  ·refine #[hz'',(hs.2 _ D.TIz).trans (hk _ _ D.TIz D.TITO D.TIi1 D.TIi2 hTI),#[_,_,(hs.2 _ D.TOz).trans a2],a3.at λo e=>(hs.2 _ D.i1z).trans e,a4.at λo e=>(hs.2 _ D.i2z).trans e]
  ·obtain ⟨o,e,_⟩:∃o,s.heap.get? b=some o/\True:=by
    obtain o1|g1|_:=h1;obtain o2|g2|_:=h2;simp only[aD,aO,or_false] at hb;rcases hb with rfl | rfl | rfl | rfl | rfl
    ·exact #[_,hz,trivial]
    ·exact #[_,hTI,trivial]
    ·exact #[_,hTO,trivial]
    ·exact #[_,g1,trivial]
    ·exact #[_,g2,trivial]
   rw[bG (cg (Heap.lt_size e))];exact (hf b hb).1
 done:=by
  intro X hP hw hK hc i pins s σ H E I hf st hg;subst hP hw hK;obtain hz|hTI|⟨a,c,hTO⟩|h1|h2:=st;obtain xs|ys|qx|qy|hend:=hg;obtain us|rx|px|_:=I.list qx;obtain ws|ry|py|_:=I.list qy;have lx:=rx.9;have ly:=ry.9;have D:=Cp hz hTI hTO h1 h2 px.isList py.isList hT hi
  refine wpAny_pyNext_zip_end (I.ok.hd hc) D hz hTI hTO h1 h2 px.isList py.isList (by
   rcases hend with q | q
   ·exact .inl (by simp;lia)
   ·exact .inr (by simp;lia)) λh' hk=>#[rfl,?_]
  have up:∀b o,b∉[z,TO,i1,i2]->s.heap.get? b=some o->h'.get? b=some o:=λb o hb e=>by
   simp only[aD,aO,or_false,not_or] at hb;exact hk b o hb.1 hb.2.1 hb.2.2.1 hb.2.2.2 e
  have fx:∀b∈[z,TO,i1,i2],lY X pins H b:=λb hb=>hf b (by
   simp only[aD,aO,or_false] at hb ⊢;rcases hb with rfl | rfl | rfl | rfl <;> simp)
  have nx:∀b o,H b=some o->b∉[z,TO,i1,i2]:=λb o e hb=>by
   have:=(fx b hb).1;rw[this] at e;cases e
  refine I.step (g':=s.gens) (d':=s.drawn) (t':=s.toks) (ch:=[z,TO,i1,i2]) (λb hb=>?_) (λb o _ _ hb e _=>up b o hb e) (λb o _ _ hb e _=>#[o.slots,up b o hb e]) (λb o hb e n=>n)
   (λb o hb e=>#[o,up b o hb e]) (λb q e=>e) (λb o q e=>e) (λb q e=>#[[].toArray,by rw[e];simp]) (λm hm=>?_) (λb o e=>?_) I.bare
  ·obtain _|f1|_|f3|f4|f5:=fx b hb;exact #[f3,f1,f4,f5]
  ·obtain o|es|ep|ho|r:=hm;exact #[o,es,ep,up _ o (λz=>(fx _ z).2.1 rfl) ho,r]
  ·refine (I.hok b o e).stay (λc v' hc q=>up c v' ?_ q) (λc q=>q) λc xs q=>q
   rcases hc with rfl | hc
   ·exact nx _ _ e
   ·exact nx _ _ hc
 self:=λ_ _ _ _ _ st h=>wpAny_pyIter_zip st.1 h
section
variable {X:Cx}
def T8 (K:FG9) (ta:TA):TI:=λσ H R=>ta σ H λvs H1=>∃l1 l2,vs=[.ref l1,.ref l2]/\(∃xs,bC K H1 l1 xs)/\(∃ys,bC K H1 l2 ys)/\R (Uw K l1 l2) H1
theorem qV {a b:Expr} {ta:TA} {p pos tpos:Pos} {elts:List Expr} {kk:Nat} (hg:Gl X "zip") (hm:X.mg "zip"=none) (ha:PA X [a,b] ta) (hs:starEach [a,b] X.env=[(false,eval a X.env),(false,eval b X.env)]:=by rfl) (hs2:starEach [b] X.env=[(false,eval b X.env)]:=by rfl) :
  PI X (.Tuple elts kk tpos) (.Call (.Name "zip" p) [a,b] [] pos) (T8 X.K ta):=by
 intro pins s σ H R I h;refine Call_ (k9 I hg hm boot_zip (PyProof.Rows.callWith_type1 (iI (ha pos pins s σ H _ I h) λus s1 #[vs,H1,I1,r1,q1]=>?_) (by rw[hs,hs2]) (by rw[hs2];rfl)));obtain l1|l2|e|⟨xs,qx⟩|⟨ys,qy⟩|q:=q1;subst e;obtain u|v|rfl|ru|rv:=vals2 r1;cases ru;cases rv;obtain us|rx|px|_:=I1.list qx;obtain ws|ry|py|_:=I1.list qy;refine call_zip_2 px.isList py.isList λh' a1 a2 a3 a4 a5 a6 hk=>wpAny_pyIter_zip a1 ?_
 have I2:Inv X pins σ H1 { s1 with heap:=h' }:=I1.kept (t':=s1.toks) hk;refine #[_,[s1.6+4,s1.6+2,s1.6+3,s1.6,s1.6+1],_,_,H1,rfl,I2,MR (s1.6+4) (s1.6+2) (s1.6+3) s1.heap.objs.size (s1.6+1) l1 l2 (cg (jU _)) (cg (jU _)),#[a1,a2,#[_,_,a3],a4,a5],λb hb=>?_,q]
 have hb':s1.6<=b:=by
  simp only[aD,aO,or_false] at hb;rcases hb with rfl | rfl | rfl | rfl | rfl <;> first | exact Nat.le_add_right _ _ | exact ah _
 exact I1.fpOk hb' (I1.hok.fresh hb')
theorem AZ (hc:X.calm=true):o5 X (.builtin "all") (λxs H Q=>∃(p:Addr) (bs:List Bool),xs=[.ref p]/\bC X.K H p (bs.map V.bl)/\Q (.bl (bs.all id)) H):=by
 intro pins s σ H xs us Q I r h;obtain p|bs|rfl|hp|q:=h;obtain u|rfl|ru:=vals1 r;cases ru;obtain vs|rv|pl|hz:=I.list hp
 have hb:PyProof.Rows.LSm.BoolsAre vs bs:=by
  clear q hp pl hz
  induction bs generalizing vs with
  | nil=>cases rv;exact .nil
  | cons b bs ih =>
   rw[jm] at rv;cases rv with
   | cons r1 r2=>cases r1;exact .cons b (ih _ r2)
 have hlt:p < s.6:=by obtain _|e|_:=pl.isList;exact Heap.lt_size e
 refine call_all_walk (wpAny_pyIter_list pl.isList ?_)
 refine #[s.6,[s.6,p],[s.6],vs.5.7,_,_,λi=>(bs[i]?).getD true,rfl,Walks.list (A:=X.A.in1) (I.ok.hd hc) _ p (cg hlt) vs.5,
  #[#[_,Heap.get?_push_size _ rfl,rfl,rfl],pl.isList.push _],λi v s' Q' E' hP hQ=>?_,λh' tk hk=>?_]
 ·obtain b|e|rfl:=hb.get i v (by simpa using hP);simp only[e,yz] at hQ;exact wpAny_truthy_bool hQ
 ·have e:((List.range vs.5.7).all λi=>(bs[i]?).getD true)=bs.all id:=by
   rw[aG,hb.9];exact PyProof.Rows.LSm.range_all bs
  rw[e];exact #[.bl _,H,I.kept (t':=tk) (PyProof.Rows.LSm.kept_iter hk),rfl,q]
theorem Ih (hc:X.calm=true):o5 X (.builtin "sum") (λxs H Q=>∃(p:Addr) (ns:List Int),xs=[.ref p]/\bC X.K H p (ns.map V.int)/\Q (.int ns.sum) H):=by
 intro pins s σ H xs us Q I r h;obtain p|ns|rfl|hp|q:=h;obtain u|rfl|ru:=vals1 r;cases ru;obtain vs|rv|pl|_:=I.list hp;have hi:IntsAre vs ns:=intsAre_of rv;obtain xs|hx:=hi.allInts.items;have hl':s.heap.IsList p (intItems xs):=hx ▸ pl.isList;refine sum_intListG (I.ok.hd hc) hl' λh' tk t' hk=>?_
 have e1:ns=xs.toList.map (·.1):=by
  rw[<- nums_intItems,<- hx];exact (show numsOf vs.toArray.toList=ns from hi.numsOf).symm
 have e2:preSum (numAt xs) xs.7=ns.sum:=by
  rw[preSum_eq,aE (by simp),e1]
 rw[e2];exact #[.int _,H,I.kept (t':=tk) hk,#[_,rfl],q]
end
section
variable {K:FG9} {g:TG}
theorem pZ (Pv:Nat->List V->Hp->Prop) (hz:xs.9<=sizeLine) (hw:ws.9=xs.9) (h0:Pv 0 [] H) (hl:∀i ys H,i<=xs.9->Pv i ys H->bC K H l1 xs/\bC K H l2 ws)
  (hs:∀i x y ys H p,xs[i]?=some x->ws[i]?=some y->ys.9<=i->Pv i ys H->H p=none->rH σ₀ g tf te (.ref p) (upd H p (.tup [x,y])) (λy H'=>Pv (i+1) (ys++[y]) H') (λH'=>Pv (i+1) ys H'))
  (hd:∀ys H,ys.9<=xs.9->Pv xs.9 ys H->∀p,H p=none->Q (.ref p) (upd H p (.lst ys))):rO (Uw K l1 l2) σ₀ g tf te Q H:=by
 refine #[λi m ys H=>m=xs.9 - i/\i<=xs.9/\ys.9<=i/\Pv i ys H,#[xs.9,by simp,aW _,aW _,h0],?_];rintro i m ys H ⟨rfl,hi,hy,p⟩;obtain q1|q2:=hl i ys H hi p;by_cases hlt:i < xs.9
 ·refine .inr #[#[xs,ws,xs[i],ws[i]'(),q1,q2,by simp [hlt],by simp],(),λy H'=>Pv (i+1) (ys++[y]) H',λH'=>Pv (i+1) ys H',λy H' p'=>#[xs.9 - (i+1),(),rfl,hlt,by rw[aj,bg];lia,p'],λH' p'=>#[xs.9 - (i+1),(),rfl,hlt,(),p'],λx H' y=>?_];obtain r|x'|y'|rfl|hr|rfl|e1|e2:=y;exact hs i x' y' ys _ r (e1 xs q1) (e2 ws q2) hy p hr
 ·have e:i=xs.9:=()
  subst e;exact .inl #[#[xs,ws,q1,q2,.inl (ah _)],(),hd ys H hy p]
theorem QQ {tb:TS} {D:Ends} (Pv:Nat->St->Hp->Prop) (hw:ws.9=xs.9) (h0:Pv 0 σ H) (hl:∀i σ H,i<=xs.9->Pv i σ H->bC K H l1 xs/\bC K H l2 ws)
  (hs:∀i x y σ H p,xs[i]?=some x->ws[i]?=some y->Pv i σ H->H p=none->g (.ref p) σ (upd H p (.tup [x,y])) λσ2 H2=>tb { D with nx:=Pv (i+1),ct:=Pv (i+1),bk:=D.nx } σ2 H2) (hd:∀σ H,Pv xs.9 σ H->D.nx σ H) :
  ∃W:Nat->Nat->St->Hp->Prop,(∃m,W 0 m σ H)/\∀i m σ H,W i m σ H →
   ((Uw K l1 l2).stop i H/\D.nx σ H)\/((Uw K l1 l2).go i H/\∃N:St->Hp->Prop,(∀σ' H',N σ' H'->∃m',m' < m/\W (i+1) m' σ' H')/\∀x H',(Uw K l1 l2).yld i H x H'->g x σ H' λσ2 H2=>tb { D with nx:=N,ct:=N,bk:=D.nx } σ2 H2):=by
 refine #[λi m σ H=>m=xs.9 - i/\i<=xs.9/\Pv i σ H,#[xs.9,by simp,aW _,h0],?_];rintro i m σ H ⟨rfl,hi,p⟩;obtain q1|q2:=hl i σ H hi p;by_cases hlt:i < xs.9
 ·refine .inr #[#[xs,ws,xs[i],ws[i]'(),q1,q2,by simp [hlt],by simp],Pv (i+1),λσ' H' p'=>#[xs.9 - (i+1),(),rfl,hlt,p'],λx H' y=>?_];obtain r|x'|y'|rfl|hr|rfl|e1|e2:=y;exact hs i x' y' σ _ r (e1 xs q1) (e2 ws q2) p hr
 ·have e:i=xs.9:=()
  subst e;exact .inl #[#[xs,ws,q1,q2,.inl (ah _)],hd σ H p]
end
section
variable {X:Cx}
theorem oR (K:FG9) (n:Nat) {es:List Expr} {k:Nat} {pos:Pos} {t:O8} (h:VN X es t) (hK:X.K=K:=by rfl) (hc:X.calm=true:=by rfl)
  (hn:(assignEach es X.env).9=n:=by rfl) (hst:(assignEach es X.env).findIdx? (·.1)=none:=by rfl):PG X (.Tuple es k pos) (Uc K n t):=by subst hK;exact vB hc h hn hst
theorem rn (K:FG9) (hK:X.K=K):VS X (Tz K):=by subst hK;exact br
theorem jH (K:FG9) (hK:X.K=K):VS X (TB K):=by subst hK;exact bE
theorem Qx (K:FG9) (hK:X.K=K) (hu:X.A.units+50 < cLine):yT X (compareOp .NotEq) (Tx K):=by subst hK;exact vE hu
theorem Gx (K:FG9) {tg l:Expr} {tl:TE} (hl:PE X l tl) (hK:X.K=K:=by rfl):PI X tg l (Oh K tl):=by subst hK;exact cC hl
end
theorem fD {X:Cx} {e e':Expr} {es:List Expr} {te:TE} {t:TA} (h:e=e') (ha:PE X e' te) (hr:PA X es t) (hs:∀l,starEach (e' :: l) X.env=(false,eval e' X.env) :: starEach l X.env:=by intro _;rfl):PA X (e :: es) (jZ te t):=by subst h;exact dh ha hr (hs _)
theorem iX (hl:H l=some (.lst xs)) (hz:xs.9 < sizeLine) (h:Q .non (upd H l (.lst (xs++[y])))):Kz (.ref l) [y] H Q:=#[l,xs,y,rfl,rfl,hl,hz,h]
theorem P6 {K:FG9} (h:ta σ H λvs H1=>∃l1 l2,vs=[.ref l1,.ref l2]/\(∃xs,bC K H1 l1 xs)/\(∃ys,bC K H1 l2 ys)/\R (Uw K l1 l2) H1):T8 K ta σ H R:=h
theorem ou (h1:H l=some (.lst xs)) (h2:H b=some (.lst zs)) (hz:xs.9+zs.9<=sizeLine) (h:∀p H',aH H H'->H p=none->H' p=some (.lst (xs++zs))->Q (.ref p) H'):Vp (.ref l) (.ref b) H Q :=
 #[l,b,xs,zs,rfl,rfl,h1,h2,hz,λp hp=>h p _ (aH.new hp) hp aK]
theorem S8 {K:FG9} {lo hi:Option Int} (h1:bC K H a xs) (h:∀p H',aH H H'->H p=none->H' p=some (.lst (wW xs lo hi))->Q (.ref p) H'):Vm K (.ref a) lo hi H Q :=
 #[a,xs,rfl,h1,λp hp=>h p _ (aH.new hp) hp aK]
theorem lA {xs:List α} {i:Int} (h0:0<=i) (h1:i < xs.9):∃v,JT xs i=some v/\v∈xs/\xs[i.toNat]?=some v:=by
 have hj:i.toNat < xs.9:=()
 refine #[xs[i.toNat],?_,aF hj,by simp [hj]];have:=fJ (xs:=xs) (j:=i.toNat) (v:=xs[i.toNat]) (by simp [hj]);rwa [Int.toNat_of_nonneg h0] at this
inductive Kn (H:Hp):V->Prop where
 | non:Kn H .non
 | bl (b:Bool):Kn H (.bl b)
 | int (i:Int):Kn H (.int i)
 | str (x:Str):Kn H (.str x)
 | lst {a:Addr} {xs:List V} (e:H a=some (.lst xs)):Kn H (.ref a)
 | tup {a:Addr} {xs:List V} (e:H a=some (.tup xs)):Kn H (.ref a)
 | dic {a:Addr} {kvs:List (Key×V)} (e:H a=some (.dK kvs)):Kn H (.ref a)
def tyB (T:String) (x:V) (H:Hp):Bool:=match x with
 | .int _=>T == "int"
 | .bl _=>T == "int" || T == "bool"
 | .ref a=>(match H a with
  | some (.lst _)=>T == "list"
  | some (.tup _)=>T == "tuple"
  | _=>false)
 | _=>false
def OkT (T:String):Prop:=T="int"\/T="bool"\/T="list"\/T="tuple"
theorem Th {K:FG9} (h:Kn H x) (hT:OkT T) (q:Q (.bl (tyB T x H)) H):Jl K T x H Q:=by
 cases h with
 | non=>rcases hT with rfl | rfl | rfl | rfl <;> exact #[_,_,.non,rfl,q]
 | bl b=>rcases hT with rfl | rfl | rfl | rfl <;> exact #[_,_,.bl b,rfl,q]
 | int i=>rcases hT with rfl | rfl | rfl | rfl <;> exact #[_,_,.int i,rfl,q]
 | str x=>rcases hT with rfl | rfl | rfl | rfl <;> exact #[_,_,.str x,rfl,q]
 | lst e =>
  simp only[tyB,e] at q;rcases hT with rfl | rfl | rfl | rfl <;> exact #[_,_,.lst e,rfl,q]
 | tup e =>
  simp only[tyB,e] at q;rcases hT with rfl | rfl | rfl | rfl <;> exact #[_,_,.tup e,rfl,q]
 | dic e =>
  simp only[tyB,e] at q;rcases hT with rfl | rfl | rfl | rfl <;> exact #[_,_,.dK e,rfl,q]
theorem dN {α β:Type} {F:α->β->Prop}:∀{l1:List α} {l2:List β} {y:β},Paired F l1 l2->y∈l2->∃x∈l1,F x y
 | _,_,_,.nil,h=>nomatch h
 | _,_,_,.cons r t,h=>by
  rcases aD.mp h with rfl | h
  ·exact #[_,dJ,r]
  ·obtain x|hx|q:=dN t h;exact #[x,bX _ hx,q]
theorem bW {F:α->β->Prop} {l1:List α} {l2:List β} {i:Nat} {y:β} (h:Paired F l1 l2) (e:l2[i]?=some y):∃x,l1[i]?=some x/\F x y:=by
 have hl:=h.9;have hi:i < l2.9:=(aJ.mp e).1;refine #[l1[i]'(),by simp,?_];have:=lQ h (i:=i) () hi;have e2:l2[i]=y:=(aJ.mp e).2;rwa [e2] at this
def yv (n:Int×Int):Prop:=0 < n.2/\Int.gcd n.1 n.2=1/\Sz 8000000 n.1/\Sz 8000000 n.2
theorem take_snoc {α:Type} {l:List α} {v:α} (h:l[i]?=some v):l.take (i+1)=l.take i++[v]:=by rw[List.take_add_one,h];rfl
theorem aH.after (s:aH H H') (h:H r=Option.none):aH H (upd H' r o):=λb u e=>by rw[bG (gX e h)];exact s b u e
theorem cY.after (s:cY b H H') (h:H r=Option.none):cY b H (upd H' r o):=#[λc u e n=>by rw[bG (gX e h)];exact s.1 c u e n,λq hi=>(s.2 q hi).upd λz=>by obtain _|_|_|e:=hi;rw[<- z,h] at e;cases e]
theorem cY.same (s:cY b H H') (e:aH H' H''):cY b H H'':=s.trans e.upto
theorem E7 {α:Type} {Pr:α->Prop} {l:List α} {a:α} (h:∀n∈l,Pr n) (ha:Pr a):∀n∈l++[a],Pr n:=λn hn=>by
 rcases av.mp hn with hn | hn
 ·exact h n hn
 ·have e:n=a:=by simpa using hn
  rw[e];exact ha
abbrev A4 (h:Heap) (z TI TO:Addr) (f0 f1:Value):Prop:=h.get? z=some { cls:=.type "zip",dict:=none,data:=.fields [f0,f1,.bool false,.ref TI,.ref TO].toArray,slots:=[].toArray }
theorem JU (e:s.heap.get? a=some o) (h:Q (some o) s):wpAny (model prog w) A (loadIfAlive a) Q E s:=by
 intro Γ p hp;show Sem.wp _ _ (.loadIfAlive a .pure) _ _ _ _
 simp only[Sem.wp_loadIfAlive,e];exact wpAny_pure h Γ p hp
theorem Ak {z TI TO T:Addr} (zr:A4 s.heap z TI TO (rawInt T) (.bool b1)) (al:s.heap.get? T=some o)
  (h:∀h',A4 h' z TI TO (rawInt T) (.bool true)->Heap.SameBut z s.heap h'->Q false { s with heap:=h' }):wpAny (model prog w) A (Builtin.SmallTypes.ownedTupleIsFree (.ref z)) Q E s:=by
 unfold Builtin.SmallTypes.ownedTupleIsFree;refine wpAny_bind (wpAny_field zr rfl (x:=rawInt T) rfl ?_);refine wpAny_bind (JU (a:=T) al ?_);refine wpAny_bind (wpAny_field zr rfl (x:=.bool b1) rfl ?_);cases b1 with
 | true=>exact wpAny_pure (h _ zr (.refl ..))
 | false=>exact wpAny_bind (wpAny_setField_rec zr (by simp) λh' zr' sb=>wpAny_pure (h h' zr' sb))
theorem LY {z TI TO T i1 i2 l1 l2:Addr} {Q:Value->Shared->Prop} (D:ZipApart z TI TO i1 i2 l1 l2) (zr:A4 s.heap z TI TO (rawInt T) (.bool b1)) (al:s.heap.get? T=some o)
  (pt:IsPair s.heap TI (.ref i1) (.ref i2)) (j1:s.heap.IsListIter i1 l1 k1) (j2:s.heap.IsListIter i2 l2 k2) (m1:s.heap.IsList l1 us) (m2:s.heap.IsList l2 ws) (eu:us[k1]?=some u) (ev:ws[k2]?=some v)
  (hQ:∀h',A4 h' z TI TO (rawInt T) (.bool true)->h'.IsListIter i1 l1 (k1+1)->h'.IsListIter i2 l2 (k2+1)->IsPair h' s.heap.objs.size u v->(∀c o,c≠z->c≠i1->c≠i2->s.heap.get? c=some o->h'.get? c=some o)->Q (.ref s.6) { s with heap:=h' }) :
  wpAny (model prog w) A (Builtin.«zip.__next__» #[[.ref z],[]]) (λfin s'=>∃v,fin=.done (.ret v)/\Q v s') E s:=by
 change wpAny _ _ (field (Value.ref z) 2 >>= _) _ _ s
 refine wpAny_bind (wpAny_field zr rfl (x:=.bool false) rfl ?_)
 change wpAny _ _ (field (Value.ref z) 3 >>= _) _ _ s
 refine wpAny_bind (wpAny_field zr rfl (x:=.ref TI) rfl (wpAny_bind (wpAny_seqItems pt rfl ?_)))
 change wpAny _ _ (Builtin.SmallTypes.ownedTupleIsFree (Value.ref z) >>= _) _ _ s
 refine wpAny_bind (Ak zr al λg1 zr1 sb1=>?_);simp only[ki,if_false];refine wpAny_bind ?_;rw[<- Array.forIn_toList];simp only[Pd,Dp];have j1':=j1.extBut sb1.extBut D.i1z;have m1':=m1.extBut sb1.extBut D.l1z;refine wpAny_bind (wpAny_bind (wpAny_holding ?_))
 change wpAny _ _ (Builtin.SmallTypes.nextOf (Value.ref i1) >>= _) _ _ _
 refine wpAny_bind (wpAny_nextOf_list_item j1' m1' eu λg2 j1a sb2=>wpAny_pure ?_);refine wpAny_pure ?_;have j2':=(j2.extBut sb1.extBut D.i2z).extBut sb2.extBut D.i12.symm;have m2':=(m2.extBut sb1.extBut D.l2z).extBut sb2.extBut D.l2i1;refine wpAny_bind (wpAny_bind (wpAny_holding ?_))
 change wpAny _ _ (Builtin.SmallTypes.nextOf (Value.ref i2) >>= _) _ _ _
 refine wpAny_bind (wpAny_nextOf_list_item j2' m2' ev λg3 j2a sb3=>wpAny_pure ?_);refine wpAny_pure (wpAny_pure ?_);refine wpAny_bind (wpAny_newTuple (hsz:=kE rfl) ?_);have sz:g3.objs.7=s.6:=by rw[sb3.1,sb2.1,sb1.1]
 have up:∀c o,c≠z->c≠i1->c≠i2->s.heap.get? c=some o->g3.get? c=some o:=λc o c1 c2 c3 e=>sb3.extBut _ _ c3 (sb2.extBut _ _ c2 (sb1.extBut _ _ c1 e))
 have zr3:A4 g3 z TI TO (rawInt T) (.bool true):=sb3.extBut _ _ D.i2z.symm (sb2.extBut _ _ D.i1z.symm zr1);refine wpAny_pure #[_,rfl,?_]
 change Q (.ref g3.objs.7) { s with heap:=g3.push { cls:=.type "tuple",data:=.seq [u,v].toArray } }
 have last:=hQ (g3.push { cls:=.type "tuple",data:=.seq [u,v].toArray }) (Heap.get?_push_of_some _ zr3) ((j1a.extBut sb3.extBut D.i12).at λo e=>Heap.get?_push_of_some _ e) (j2a.at λo e=>Heap.get?_push_of_some _ e)
  (by rw[<- sz];exact Heap.get?_push_size _ rfl) λc o c1 c2 c3 e=>Heap.get?_push_of_some _ (up c o c1 c2 c3 e)
 rw[sz];exact last
theorem NS {z TI TO T i1 i2 l1 l2:Addr} (hh:A.handled=none) (D:ZipApart z TI TO i1 i2 l1 l2) (zr:A4 s.heap z TI TO (rawInt T) (.bool b1)) (al:s.heap.get? T=some o)
  (pt:IsPair s.heap TI (.ref i1) (.ref i2)) (j1:s.heap.IsListIter i1 l1 k1) (m1:s.heap.IsList l1 us) (eu:us[k1]?=none)
  (hE:∀h' e,(∀c o,c≠z->c≠i1->c≠i2->s.heap.get? c=some o->h'.get? c=some o)->(∃o,h'.get? e=some o/\o.cls=.type "StopIteration")->E (.ref e) { s with heap:=h' }) :
  wpAny (model prog w) A (Builtin.«zip.__next__» #[[.ref z],[]]) Q E s:=by
 change wpAny _ _ (field (Value.ref z) 2 >>= _) _ _ s
 refine wpAny_bind (wpAny_field zr rfl (x:=.bool false) rfl ?_)
 change wpAny _ _ (field (Value.ref z) 3 >>= _) _ _ s
 refine wpAny_bind (wpAny_field zr rfl (x:=.ref TI) rfl (wpAny_bind (wpAny_seqItems pt rfl ?_)))
 change wpAny _ _ (Builtin.SmallTypes.ownedTupleIsFree (Value.ref z) >>= _) _ _ s
 refine wpAny_bind (Ak zr al λg1 zr1 sb1=>?_);simp only[ki,if_false];refine wpAny_bind ?_;rw[<- Array.forIn_toList];simp only[Pd,Dp];refine wpAny_bind (wpAny_bind (wpAny_holding ?_))
 change wpAny _ _ (Builtin.SmallTypes.nextOf (Value.ref i1) >>= _) _ _ _
 exact wpAny_bind (wpAny_nextOf_list_end hh (j1.extBut sb1.extBut D.i1z) (m1.extBut sb1.extBut D.l1z) eu λg2 e xb he=>hE g2 e (λc o c1 c2 _ q=>xb _ _ c2 (sb1.extBut _ _ c1 q)) he)
theorem LR {z TI TO T i1 i2 l1 l2:Addr} (D:ZipApart z TI TO i1 i2 l1 l2) (zr:A4 s.heap z TI TO (rawInt T) (.bool b1)) (al:s.heap.get? T=some o)
  (pt:IsPair s.heap TI (.ref i1) (.ref i2)) (j1:s.heap.IsListIter i1 l1 k1) (j2:s.heap.IsListIter i2 l2 k2) (m1:s.heap.IsList l1 us) (m2:s.heap.IsList l2 ws) (eu:us[k1]?=some u) (ev:ws[k2]?=some v)
  (hQ:∀h',A4 h' z TI TO (rawInt T) (.bool true)->h'.IsListIter i1 l1 (k1+1)->h'.IsListIter i2 l2 (k2+1)->IsPair h' s.heap.objs.size u v->(∀c o,c≠z->c≠i1->c≠i2->s.heap.get? c=some o->h'.get? c=some o)->Q (some (.ref s.6)) { s with heap:=h' }) :
  wpAny (model prog w) A (pyNext (.ref z)) Q E s:=by
 have ty:s.TypeIs (.ref z) "zip":=#[_,zr,rfl];unfold pyNext;refine wpAny_bind (wpAny_attempt (wpAny_callSpecial?_slot (name:=Str.ofString "__next__") ty qg (wpAny_call_entry qg ty PySem.F.entry_zip_next ?_ (VV _))));exact LY D zr al pt j1 j2 m1 m2 eu ev λh' a1 a2 a3 a4 a5=>wpAny_pure (hQ h' a1 a2 a3 a4 a5)
theorem LQ {z TI TO T i1 i2 l1 l2:Addr} (hh:A.handled=none) (D:ZipApart z TI TO i1 i2 l1 l2) (zr:A4 s.heap z TI TO (rawInt T) (.bool b1)) (al:s.heap.get? T=some o)
  (pt:IsPair s.heap TI (.ref i1) (.ref i2)) (j1:s.heap.IsListIter i1 l1 k1) (m1:s.heap.IsList l1 us) (eu:us[k1]?=none)
  (hQ:∀h',(∀c o,c≠z->c≠i1->c≠i2->s.heap.get? c=some o->h'.get? c=some o)->Q none { s with heap:=h' }):wpAny (model prog w) A (pyNext (.ref z)) Q E s:=by
 have ty:s.TypeIs (.ref z) "zip":=#[_,zr,rfl];unfold pyNext;refine wpAny_bind (wpAny_attempt (wpAny_callSpecial?_slot (name:=Str.ofString "__next__") ty qg (wpAny_call_entry qg ty PySem.F.entry_zip_next ?_ (VV _))));refine NS hh D zr al pt j1 m1 eu λh' e kk #[oe,he,hc]=>?_
 exact wpAny_bind (wpAny_isInstance (T:="StopIteration") (b:=true) #[oe,he,hc] isSubtype_stop (wpAny_pure (hQ _ kk)))
section
variable {σ:St}
theorem Inv.moved {ch:List Addr} (I:Inv X pins σ H s) (fx:∀b∈ch,lY X pins H b) (up:∀b o,b∉ch->s.heap.get? b=some o->h'.get? b=some o) (hg:AllBare g') :
  Inv X pins σ H { s with heap:=h',gens:=g',drawn:=d',toks:=t' }:=by
 have nx:∀b o,H b=some o->b∉ch:=λb o e hb=>by have:=(fx b hb).1;rw[this] at e;cases e
 refine I.step (ch:=ch) (λb hb=>?_) (λb o _ _ hb e _=>up b o hb e) (λb o _ _ hb e _=>#[o.slots,up b o hb e]) (λb o hb e n=>n) (λb o hb e=>#[o,up b o hb e]) (λb q e=>e) (λb o q e=>e) (λb q e=>#[[].toArray,by rw[e];simp]) (λm hm=>?_) (λb o e=>?_) hg
 ·obtain _|f1|_|f3|f4|f5:=fx b hb;exact #[f3,f1,f4,f5]
 ·obtain o|es|ep|ho|r:=hm;exact #[o,es,ep,up _ o (λz=>(fx _ z).2.1 rfl) ho,r]
 ·refine (I.hok b o e).stay (λc v' hc q=>up c v' ?_ q) (λc q=>q) λc xs q=>q
  rcases hc with rfl | hc
  ·exact nx _ _ e
  ·exact nx _ _ hc
theorem Inv.track (I:Inv X pins σ H s) (fp:lY X pins H p) (new:iw X.prog X.w (upd H p o) s.heap p o):Inv X pins σ (upd H p o) s:=by
 have nt:∀{b:Addr} {u:HO},H b=some u->b≠p:=λe z=>by rw[z,fp.1] at e;cases e
 refine I.step (h':=s.8) (g':=s.gens) (d':=s.drawn) (t':=s.toks) (ch:=[p]) (λb hb=>?_) (λb o _ _ _ e _=>e) (λb o _ _ _ e _=>#[o.slots,e]) (λb o hb e n=>?_) (λb o _ e=>#[o,e]) (λb q e=>by rw[bG (nt e)];exact e) (λb o q e=>by rw[bG (nt e)];exact e)
  (λb q e=>#[[].toArray,by rw[bG (nt e),e];simp]) (λm hm=>hm) (λb u e=>?_) I.bare
 ·have e:b=p:=by simpa using hb
  subst e;obtain _|f1|_|f3|f4|f5:=fp;exact #[f3,f1,f4,f5]
 ·rw[bG λz=>hb (by simp [z])];exact n
 ·by_cases hb:b=p
  ·subst hb;rw[aK] at e;cases e;exact new
  ·rw[bG hb] at e;exact (I.hok b u e).stay (λc v _ q=>q) (λc q=>by rw[bG (nt q)];exact q) λc xs q=>by rw[bG (nt q)];exact q
end
def Sq (H:Hp) (p:V×V) (x:V):Prop:=∃T,x=.ref T/\H T=some (.tup [p.1,p.2])
theorem Sq.same (h:Sq H p x) (e:aH H H'):Sq H' p x:=by obtain T|q|g:=h;exact #[T,q,e _ _ g]
def Zst (h:Heap) (z TI TO:Addr) (base:Nat):Prop:=(∃a b,IsPair h TO a b)/\(IsZip h z TI TO .none\/∃(T:Addr) (b1:Bool) (o:Obj),A4 h z TI TO (rawInt T) (.bool b1)/\h.get? T=some o/\@LE.le Nat instLENat base T)
theorem Dv {z TI TO i1 i2 l1 l2:Addr} (hz:A4 h z TI TO f0 f1) (hTI:IsPair h TI (.ref i1) (.ref i2)) (hTO:IsPair h TO a b) (h1:h.IsListIter i1 l1 k1) (h2:h.IsListIter i2 l2 k2) (hl1:h.IsList l1 xs) (hl2:h.IsList l2 ys) (hT:TI≠TO) (hi:i1≠i2):ZipApart z TI TO i1 i2 l1 l2:=by
 obtain o1|g1|c1|_:=h1;obtain o2|g2|c2|_:=h2;obtain p1|q1|d1|_:=hl1;obtain p2|q2|d2|_:=hl2;have zt:Value.type "zip"≠.type "tuple":=n9 ();have it:Value.type "list_iterator"≠.type "tuple":=n9 ();have iz:Value.type "list_iterator"≠.type "zip":=n9 ();have lz:Value.type "list"≠.type "zip":=n9 ();have lt:Value.type "list"≠.type "tuple":=n9 ();have li:Value.type "list"≠.type "list_iterator":=n9 ()
 exact #[dH hTI hz zt.symm,dH hTO hz zt.symm,dH g1 hz (by rw[c1];exact iz),dH g2 hz (by rw[c2];exact iz),hT,dH hTI g1 (by rw[c1];exact it.symm),dH hTI g2 (by rw[c2];exact it.symm),dH hTO g1 (by rw[c1];exact it.symm),dH hTO g2 (by rw[c2];exact it.symm),hi,
  dH q1 hz (by rw[d1];exact lz),dH q1 hTO (by rw[d1];exact lt),dH q1 g1 (by rw[d1,c1];exact li),dH q1 g2 (by rw[d1,c2];exact li),dH q2 hz (by rw[d2];exact lz),dH q2 hTO (by rw[d2];exact lt),dH q2 g1 (by rw[d2,c1];exact li),dH q2 g2 (by rw[d2,c2];exact li)]
section
variable {X:Cx} {pins:List (Addr×Obj)} {σ:St}
theorem lY.heap (f:lY X pins H b) (e:H' b=none):lY X pins H' b:=#[e,f.2]
structure Fs where
 z:Addr
 TI:Addr
 TO:Addr
 i1:Addr
 i2:Addr
 S:Addr
 base:Nat
def Fs.all (a:Fs):List Addr:=[a.z,a.TI,a.TO,a.i1,a.i2,a.S]
structure Fs.Ok (a:Fs):Prop where
 tt:a.TI≠a.TO
 ii:a.i1≠a.i2
 Sz:a.S≠a.z
 STI:a.S≠a.TI
 STO:a.S≠a.TO
 Si1:a.S≠a.i1
 Si2:a.S≠a.i2
 lt:∀b∈a.all,@LT.lt Nat instLTNat b a.base
structure Rm (X:Cx) (pins:List (Addr×Obj)) (σ:St) (H1:Hp) (a:Fs) (l1 l2:Addr) (i:Nat) (H:Hp) (s:Shared):Prop where
 inv:Inv X pins σ H s
 same:aH H1 H
 fps:∀b∈a.all,lY X pins H b
 sz:a.base<=s.heap.objs.size
 zst:Zst s.heap a.z a.TI a.TO a.base
 pt:IsPair s.heap a.TI (.ref a.i1) (.ref a.i2)
 j1:s.heap.IsListIter a.i1 l1 i
 j2:s.heap.IsListIter a.i2 l2 i
variable {a:Fs} {l1 l2:Addr} {H1 H:Hp} {s:Shared} {i:Nat} {xs ys:List V}
theorem Rm.push (L:Rm X pins σ H1 a l1 l2 i H s) (O:a.Ok) (k:∀b o,b≠a.S->s.heap.get? b=some o->h'.get? b=some o) (hz:h'.objs.7=s.6):Rm X pins σ H1 a l1 l2 i H { s with heap:=h' }:=by
 refine #[L.inv.moved (g':=s.gens) (d':=s.drawn) (t':=s.toks) (ch:=[a.S]) (λb hb=>?_) (λb o hb e=>k b o (λz=>hb (by simp [z])) e) L.inv.bare,L.same,L.fps,by show a.base<=h'.objs.7;rw[hz];exact L.sz,?_,k _ _ O.STI.symm L.pt,L.j1.at λo e=>k _ o O.Si1.symm e,L.j2.at λo e=>k _ o O.Si2.symm e]
 ·have e:b=a.S:=by simpa using hb
  rw[e];exact L.fps _ (by simp [Fs.all])
 ·obtain ⟨c,d,z0⟩|z4:=L.zst;refine #[#[c,d,k _ _ O.STO.symm z0],?_];rcases z4 with z1 | ⟨T,b1,o,z1,z2,z3⟩
  ·exact .inl (k _ _ O.Sz.symm z1)
  ·refine .inr #[T,b1,o,k _ _ O.Sz.symm z1,k _ _ (λe=>?_) z2,z3];have:=O.lt a.S (by simp [Fs.all]);rw[<- e] at this;exact absurd this (Nat.not_lt.mpr z3)
theorem MK (O:a.Ok) (q1:bC X.K H1 l1 xs) (q2:bC X.K H1 l2 ys) (ex:xs[i]?=some x) (ey:ys[i]?=some y) (L:Rm X pins σ H1 a l1 l2 i H s)
  (hQ:∀s',Rm X pins σ H1 a l1 l2 (i+1) (upd H s.heap.objs.size (.tup [x,y])) s'->(∀c o,c∉[a.z,a.TO,a.i1,a.i2]->s.heap.get? c=some o->s'.heap.get? c=some o)->H s.6=none->Q (some (.ref s.6)) s'):wpAny (model X.prog X.w) A' (pyNext (.ref a.z)) Q E s:=by
 obtain I|sm|fps|sz|zst|pt|j1|j2:=id L;obtain us|ru|pu|_:=I.list (sm.seq q1);obtain ws|rw'|pw|_:=I.list (sm.seq q2);obtain u|eu|r1:=ru.get ex;obtain v|ev|r2:=rw'.get ey;have fx:∀b∈[a.z,a.TO,a.i1,a.i2],lY X pins H b:=λb hb=>fps b (by simp only[Fs.all,aD,aO,or_false] at hb ⊢;rcases hb with e | e | e | e <;> simp [e])
 have hT0:H s.6=none:=I.hok.fresh (ah _);have fT:lY X pins H s.6:=I.fpOk (ah _) hT0;have lt:∀b∈a.all,b≠s.6:=λb hb e=>by have:=O.lt b hb;rw[e] at this;exact absurd this (Nat.not_lt.mpr sz)
 have fin:∀h',(∀c o,c∉[a.z,a.TO,a.i1,a.i2]->s.heap.get? c=some o->h'.get? c=some o)->IsPair h' s.heap.objs.size u v->IsPair h' a.TI (.ref a.i1) (.ref a.i2)->h'.IsListIter a.i1 l1 (i+1)->h'.IsListIter a.i2 l2 (i+1)->Zst h' a.z a.TI a.TO a.base →
   Q (some (.ref s.6)) { s with heap:=h' }:=λh' up pr pt' j1' j2' zst'=>by
  have I2:Inv X pins σ H { s with heap:=h' }:=I.moved (g':=s.gens) (d':=s.drawn) (t':=s.toks) fx up I.bare;have I3:Inv X pins σ (upd H s.heap.objs.size (.tup [x,y])) { s with heap:=h' }:=I2.track fT ⟨kE rfl,[u,v],.cons r1 (.cons r2 .nil),⟨_,pr,rfl,_,rfl⟩⟩;refine hQ _ #[I3,sm.trans (aH.new hT0),λb hb=>(fps b hb).heap (by rw[bG (lt b hb)];exact (fps b hb).1),?_,zst',pt',j1',j2'] up hT0;exact af sz (dn (Heap.lt_size pr))
 obtain ⟨c,d,z0⟩|z4:=zst;rcases z4 with z1 | ⟨T,b1,o,z1,z2,z3⟩
 ·have D:=Dv z1 pt z0 j1 j2 pu.isList pw.isList O.tt O.ii;refine wpAny_pyNext_zip_item D z1 pt z0 j1 j2 pu.isList pw.isList (x:=u) (y:=v) (by simpa using eu) (by simpa using ev) λh' a1 a2 a3 a4 a5 a6 hk=>?_
  have up:∀c o,c∉[a.z,a.TO,a.i1,a.i2]->s.heap.get? c=some o->h'.get? c=some o:=λc o hc e=>by
   simp only[aD,aO,or_false,not_or] at hc;exact hk c o hc.1 hc.2.1 hc.2.2.1 hc.2.2.2 e
  exact fin h' up a5 (hk _ _ D.TIz D.TITO D.TIi1 D.TIi2 pt) a3 a4 #[#[_,_,a2],.inr #[s.6,false,_,a1,a5,sz]]
 ·have D:=Dv z1 pt z0 j1 j2 pu.isList pw.isList O.tt O.ii;refine LR D z1 z2 pt j1 j2 pu.isList pw.isList (u:=u) (v:=v) (by simpa using eu) (by simpa using ev) λh' a1 a3 a4 a5 hk=>?_
  have up:∀c o,c∉[a.z,a.TO,a.i1,a.i2]->s.heap.get? c=some o->h'.get? c=some o:=λc o hc e=>by
   simp only[aD,aO,or_false,not_or] at hc;exact hk c o hc.1 hc.2.2.1 hc.2.2.2 e
  have Tn:∀b∈a.all,T≠b:=λb hb e=>by have:=O.lt b hb;rw[<- e] at this;exact absurd this (Nat.not_lt.mpr z3)
  exact fin h' up a5 (hk _ _ D.TIz D.TIi1 D.TIi2 pt) a3 a4 #[#[_,_,hk _ _ D.TOz D.TOi1 D.TOi2 z0],.inr #[T,true,o,a1,hk _ _ (Tn _ (by simp [Fs.all])) (Tn _ (by simp [Fs.all])) (Tn _ (by simp [Fs.all])) z2,z3]]
theorem MJ (hh:A'.handled=none) (O:a.Ok) (q1:bC X.K H1 l1 xs) (q2:bC X.K H1 l2 ys) (hi:xs.9<=i) (L:Rm X pins σ H1 a l1 l2 i H s)
  (hQ:∀s',Inv X pins σ H s'->(∀c o,c∉[a.z,a.TO,a.i1,a.i2]->s.heap.get? c=some o->s'.heap.get? c=some o)->Q none s'):wpAny (model X.prog X.w) A' (pyNext (.ref a.z)) Q E s:=by
 obtain I|sm|fps|sz|zst|pt|j1|j2:=id L;obtain us|ru|pu|_:=I.list (sm.seq q1);obtain ws|rw'|pw|_:=I.list (sm.seq q2);have lx:=ru.9;have none1:us.5[i]?=none:=by simp;lia
 have fx:∀b∈[a.z,a.TO,a.i1,a.i2],lY X pins H b:=λb hb=>fps b (by simp only[Fs.all,aD,aO,or_false] at hb ⊢;rcases hb with e | e | e | e <;> simp [e])
 have fin:∀h',(∀c o,c∉[a.z,a.TO,a.i1,a.i2]->s.heap.get? c=some o->h'.get? c=some o)->Q none { s with heap:=h' }:=λh' up=>hQ _ (I.moved (g':=s.gens) (d':=s.drawn) (t':=s.toks) fx up I.bare) up
 obtain ⟨c,d,z0⟩|z4:=zst;rcases z4 with z1 | ⟨T,b1,o,z1,z2,z3⟩
 ·have D:=Dv z1 pt z0 j1 j2 pu.isList pw.isList O.tt O.ii;refine wpAny_pyNext_zip_end hh D z1 pt z0 j1 j2 pu.isList pw.isList (.inl none1) λh' hk=>fin h' λc o hc e=>?_
  simp only[aD,aO,or_false,not_or] at hc;exact hk c o hc.1 hc.2.1 hc.2.2.1 hc.2.2.2 e
 ·have D:=Dv z1 pt z0 j1 j2 pu.isList pw.isList O.tt O.ii;refine LQ hh D z1 z2 pt j1 pu.isList none1 λh' hk=>fin h' λc o hc e=>?_
  simp only[aD,aO,or_false,not_or] at hc;exact hk c o hc.1 hc.2.2.1 hc.2.2.2 e
theorem MM (hh:A'.handled=none) (O:a.Ok) (hz:xs.9<=sizeLine) (hl:ys.9=xs.9) (q1:bC X.K H1 l1 xs) (q2:bC X.K H1 l2 ys)
  (fin:∀s' H' ts acc c,Inv X pins σ H' s'->aH H1 H'->lY X pins H' a.S->s'.heap.get? a.S=some (lobj acc c)->cS ts acc->Paired (Sq H') (xs.zip ys) ts->R (.ok (.ret .none)) s') :
  ∀(k i:Nat) (s:Shared) (H:Hp) (ts:List V) (acc:List Value) (c:Nat),xs.9 - i=k->i<=xs.9->Rm X pins σ H1 a l1 l2 i H s->s.heap.get? a.S=some (lobj acc c)->cS ts acc->Paired (Sq H) ((xs.zip ys).take i) ts →
   codeAny (model X.prog X.w) A' (.builtin "list.extend.loop" #[[.ref a.S,.ref a.z,.none],[]]) R s:=by
 have Sn:a.S∉[a.z,a.TO,a.i1,a.i2]:=λh=>by
  simp only[aD,aO,or_false] at h;rcases h with e | e | e | e
  ·exact O.Sz e
  ·exact O.STO e
  ·exact O.Si1 e
  ·exact O.Si2 e
 intro k
 induction k with
 | zero =>
  intro i s H ts acc c hk hi L gS rv prs;have e:i=xs.9:=()
  refine codeAny_builtin Uz ?_;rw[Around.under_plainId mT _]
  change wpAny _ A'.in1 (pyNext (Value.ref a.z) >>= _) _ _ s
  refine wpAny_bind (MJ hh O q1 q2 () L λs' I' up=>wpAny_pure (fin s' H ts acc c I' L.same (L.fps _ (by simp [Fs.all])) (up _ _ Sn gS) rv ?_));rwa [aE (by rw[rY];lia)] at prs
 | succ k ih =>
  intro i s H ts acc c hk hi L gS rv prs;have hlt:i < xs.9:=()
  have lt:=prs.9;have la:=rv.9;refine codeAny_builtin Uz ?_;rw[Around.under_plainId mT _]
  change wpAny _ A'.in1 (pyNext (Value.ref a.z) >>= _) _ _ s
  refine wpAny_bind (MK O q1 q2 (x:=xs[i]) (y:=ys[i]'()) (by simp [hlt]) (by simp) L λs' L' up hT=>?_);have gS':=up _ _ Sn gS
  change wpAny _ A'.in1 (updateSeq a.S (·.push (Value.ref s.6)) >>= _) _ _ s'
  have small:acc.9<=sizeLine:=by
   rw[bY,rY] at lt
   lia
  refine wpAny_bind (wpAny_updateSeq gS' rfl (wpAny_pure #[plainId_quiet mT _,?_]) (by rw[aG];exact small) (by
   show (acc.toArray.push (Value.ref s.6)).7<=sizeLine+1
   rw[Array.size_push,aG]
   lia))
  have gS2:=mI gS' (λb=>b.push (Value.ref s.6));have e2:(acc.toArray.push (Value.ref s.6))=(acc++[Value.ref s.6]).5:=by simp
  rw[e2] at gS2;refine ih (i+1) _ (upd H s.heap.objs.size (.tup [xs[i],ys[i]'()])) (ts++[.ref s.6]) (acc++[.ref s.6]) _ () hlt (L'.push O (λb o hb e=>(Heap.get?_update_other _ _ (Ne.symm hb)).trans e) (Heap.size_update ..)) gS2 (rv.append (show cS [V.ref s.6] [Value.ref s.6] from .cons rfl .nil)) ?_;have zp:(xs.zip ys)[i]?=some (xs[i],ys[i]'()):=by simp [UA,hlt]
  rw[take_snoc zp];exact (Paired.imp' (λ_ _ z=>z.same (aH.new hT)) prs).snoc #[_,rfl,aK]
theorem IU:typeLookup (.type "zip") "__len__"=pure Option.none:=by rw[typeLookup_type,builtinLookup_eq_fast];kernel_rfl
theorem FF:typeLookup (.type "zip") "__length_hint__"=pure Option.none:=by rw[typeLookup_type,builtinLookup_eq_fast];kernel_rfl
theorem ML (hh:A'.handled=none) (O:a.Ok) (hz:xs.9<=sizeLine) (hl:ys.9=xs.9) (q1:bC X.K H1 l1 xs) (q2:bC X.K H1 l2 ys) (L:Rm X pins σ H1 a l1 l2 0 H s) (gS:s.heap.get? a.S=some (lobj [] 0)) (z0:IsZip s.heap a.z a.TI a.TO .none)
  (fin:∀s' H' ts acc c,Inv X pins σ H' s'->aH H1 H'->lY X pins H' a.S->s'.heap.get? a.S=some (lobj acc c)->cS ts acc->Paired (Sq H') (xs.zip ys) ts->R (.ok (.ret .none)) s') :
  wpAny (model X.prog X.w) A'.in1 (Builtin.«list.__init__» #[[.ref a.S,.ref a.z],[]]) (λfl s'=>match fl with | .done f=>R (.ok f) s' | .again c'=>c'.quiet=true/\codeAny (model X.prog X.w) A' c' R s') (λe s'=>R (.error e) s') s:=by
 change wpAny _ A'.in1 (do let old <- Builtin.List.listItems (Value.ref a.S);Builtin.List.listUpdate (Value.ref a.S) (λ_=>[].toArray);letGo old.toList.reverse;Builtin.List.listExtendWith (Value.ref a.S) (Value.ref a.z) Value.none) _ _ s
 refine wpAny_bind ?_;unfold Builtin.List.listItems;refine wpAny_bind (wpAny_seqItems gS rfl (wpAny_pure ?_))
 change wpAny _ A'.in1 (updateSeq a.S (λ_=>[].toArray) >>= λ_=>letGo ([].toArray:Array Value).toList.reverse >>= λ_=>Builtin.List.listExtendWith (Value.ref a.S) (Value.ref a.z) Value.none) _ _ s
 refine wpAny_bind (wpAny_updateSeq gS rfl ?_);have g1:=mI gS (λ_=>([].toArray:Array Value));obtain ⟨n1,g1⟩:∃n1,(s.heap.update a.S (Obj.mapSeq λ_=>([].toArray:Array Value))).get? a.S=some (lobj [] n1):=#[_,g1];have L1:=L.push (h':=s.heap.update a.S (Obj.mapSeq λ_=>([].toArray:Array Value))) O (λb o hb e=>(Heap.get?_update_other _ _ (Ne.symm hb)).trans e) (Heap.size_update ..);have z1:IsZip (s.heap.update a.S (Obj.mapSeq λ_=>([].toArray:Array Value))) a.z a.TI a.TO .none:=(Heap.get?_update_other _ _ O.Sz).trans z0;refine wpAny_bind (wpAny_letGo ?_);unfold Builtin.List.listExtendWith;have ty:Shared.TypeIs { s with heap:=s.heap.update a.S (Obj.mapSeq λ_=>([].toArray:Array Value)) } (.ref a.z) "zip":=#[_,z1,rfl];refine wpAny_bind (wpAny_typeOf ty ?_);have h1:Builtin.List.listSameRef (.ref a.S) (.ref a.z)=false:=by simp [Builtin.List.listSameRef,O.Sz]
 have h2:(Value.type "zip" == Value.type "list")=false:=()
 have h3:(Value.type "zip" == Value.type "tuple")=false:=()
 simp only[h1,h2,h3,Bool.or_false,ki,if_false];refine wpAny_bind (wpAny_pyIter_zip z1 (wpAny_bind (wpAny_holding ?_)));unfold Builtin.List.listLengthHint;refine wpAny_bind (wpAny_specialOf ty IU ?_)
 change wpAny _ A'.in1 (specialOf (Value.ref a.z) (Str.ofString "__length_hint__") >>= _) _ _ _
 refine wpAny_bind (wpAny_specialOf ty FF (wpAny_pure ?_))
 change wpAny _ A'.in1 (rule "list.extend.makes-room" >>= λ_=>Builtin.List.listTouch (Value.ref a.S) >>= λ_=>again (.builtin "list.extend.loop" #[[Value.ref a.S,Value.ref a.z,Value.none],[]])) _ _ _
 refine wpAny_bind (wpAny_rule (wpAny_bind ?_))
 change wpAny _ A'.in1 (updateSeq a.S (·.push Value.none) >>= λ_=>updateSeq a.S (·.pop)) _ _ _
 refine wpAny_bind (wpAny_updateSeq g1 rfl ?_);have g2:=mI g1 (λb=>b.push Value.none);obtain ⟨n2,g2⟩:∃n2,((s.heap.update a.S (Obj.mapSeq λ_=>([].toArray:Array Value))).update a.S (Obj.mapSeq λb=>b.push Value.none)).get? a.S=some (lobj [Value.none] n2):=#[_,g2];have L2:=L1.push (h':=(s.heap.update a.S (Obj.mapSeq λ_=>([].toArray:Array Value))).update a.S (Obj.mapSeq λb=>b.push Value.none)) O (λb o hb e=>(Heap.get?_update_other _ _ (Ne.symm hb)).trans e) (Heap.size_update ..);refine wpAny_updateSeq g2 rfl ?_ (kE rfl);have g3:=mI g2 (λb=>b.pop);have L3:=L2.push (h':=((s.heap.update a.S (Obj.mapSeq λ_=>([].toArray:Array Value))).update a.S (Obj.mapSeq λb=>b.push Value.none)).update a.S (Obj.mapSeq λb=>b.pop)) O (λb o hb e=>(Heap.get?_update_other _ _ (Ne.symm hb)).trans e) (Heap.size_update ..);exact wpAny_pure #[plainId_quiet mT _,MM hh O hz hl q1 q2 fin _ 0 _ H [] [] _ rfl (aW _) L3 g3 .nil .nil]
end
section
variable {X:Cx}
theorem Sx (n:Nat):Fs.Ok #[n+4,n+2,n+3,n,n+1,n+5,n+5+1]:=by
 have ne:∀p q:Nat,p≠q->@Ne Addr p q:=λ_ _ h=>h
 refine #[ne (n+2) (n+3) (),ne n (n+1) (),ne (n+5) (n+4) (),ne (n+5) (n+2) (),ne (n+5) (n+3) (),ne (n+5) n (),ne (n+5) (n+1) (),λb hb=>?_];have hb':b∈[n+4,n+2,n+3,n,n+1,n+5]:=hb;show @LT.lt Nat instLTNat b (n+5+1)
 simp only[aD,aO,or_false] at hb';rcases hb' with e | e | e | e | e | e <;> (rw[e];exact bw (jU _) ())
def FI (K:FG9) (ta:TA):TE:=λσ H Q=>ta σ H λvs H1=>∃(l1 l2:Addr) (xs ys:List V),vs=[.ref l1,.ref l2]/\bC K H1 l1 xs/\bC K H1 l2 ys/\ys.9=xs.9 /\
 ∀L ts H',aH H1 H'->H1 L=none->H' L=some (.lst ts)->Paired (Sq H') (xs.zip ys) ts->Q (.ref L) H'
theorem Aj {e1 e2:Expr} {ta:TA} {p p2 pos pos2:Pos} (hg:Gl X "list") (hm:X.mg "list"=none) (hg2:Gl X "zip") (hm2:X.mg "zip"=none) (ha:PA X [e1,e2] ta) (hc:X.calm=true:=by rfl)
  (hs:starEach [e1,e2] X.env=[(false,eval e1 X.env),(false,eval e2 X.env)]:=by rfl) (hs2:starEach [e2] X.env=[(false,eval e2 X.env)]:=by rfl)
  (hs3:starEach [Expr.Call (.Name "zip" p2) [e1,e2] [] pos2] X.env=[(false,eval (.Call (.Name "zip" p2) [e1,e2] [] pos2) X.env)]:=by rfl) :
  PE X (.Call (.Name "list" p) [.Call (.Name "zip" p2) [e1,e2] [] pos2] [] pos) (FI X.K ta):=by
 intro pins s σ H Q I h;refine wpAny_Call_Name_kw (k9 I hg hm boot_list ?_);refine PyProof.Rows.callWith_type1 ?_ (by rw[hs3];rfl) rfl;rw[hs3];show wpAny _ _ (spliced ((false,eval (.Call (.Name "zip" p2) [e1,e2] [] pos2) X.env) :: [])) _ _ s
 refine Calls.spliced_cons ?_;refine Call_ (k9 I hg2 hm2 boot_zip (PyProof.Rows.callWith_type1 (iI (ha pos2 pins s σ H _ I h) λus s1 #[vs,H1,I1,r1,q1]=>?_) (by rw[hs,hs2]) (by rw[hs2];rfl)));obtain l1|l2|xs|ys|e|qx|qy|hl|q:=q1;subst e;obtain u|v|rfl|ru|rv:=vals2 r1;cases ru;cases rv;obtain us|rx|px|hz:=I1.list qx;obtain ws|ry|py|_:=I1.list qy;refine call_zip_2 px.isList py.isList λh' a1 a2 a3 a4 a5 a6 hk=>?_
 refine Calls.spliced_nil ?_;have I2:Inv X pins σ H1 { s1 with heap:=h' }:=I1.kept (t':=s1.toks) hk;have up:∀b o,h'.get? b=some o->(h'.push { cls:=.type "list",data:=.seq [].toArray }).get? b=some o:=λb o e=>Heap.get?_push_of_some _ e
 have O:Fs.Ok #[s1.6+4,s1.6+2,s1.6+3,s1.6,s1.6+1,h'.objs.7,h'.objs.7+1]:=by
  rw[a6];exact Sx s1.heap.objs.size
 have old:∀b∈(Fs.mk (s1.6+4) (s1.6+2) (s1.6+3) s1.heap.objs.size (s1.6+1) h'.objs.size (h'.objs.7+1)).all,s1.6<=b:=λb hb=>by
  rw[a6] at hb;simp only[Fs.all,aD,aO,or_false] at hb;rcases hb with rfl | rfl | rfl | rfl | rfl | rfl <;> first | exact Nat.le_add_right _ _ | exact ah _
 have gS:(h'.push { cls:=.type "list",data:=.seq [].toArray }).get? h'.objs.7=some (lobj [] 0):=Heap.get?_push_size _ rfl;refine callType_codes (Q₁:=λob t=>ob=.ref h'.objs.7/\t={ s1 with heap:=h'.push { cls:=.type "list",data:=.seq [].toArray } }) PySem.F.called_list (PySem.F.typeCall_list_1 _) PySem.F.entry_list_init (code_list_new _ ⟨rfl,rfl⟩) λob t ht=>?_
 obtain rfl|rfl:=ht;refine #[#[_,gS,rfl],PySem.F.args_list_init_2 _ _,?_]
 have L:Rm X pins σ H1 #[s1.6+4,s1.6+2,s1.6+3,s1.6,s1.6+1,h'.objs.7,h'.objs.7+1] l1 l2 0 H1 { s1 with heap:=h'.push { cls:=.type "list",data:=.seq [].toArray } } :=
  #[I2.kept (t':=s1.toks) up,aH.refl _,λb hb=>I1.fpOk (old b hb) (I1.hok.fresh (old b hb)),by rw[Heap.size_push];exact ah _,#[#[_,_,up _ _ a3],.inl (up _ _ a1)],up _ _ a2,a4.at λo e=>up _ o e,a5.at λo e=>up _ o e]
 refine ML (A':=X.A.in1) (I.ok.hd hc) O hz hl qx qy L gS (up _ _ a1) λs' H' ts acc c I' sm fS gS' vs' prs=>#[rfl,?_]
 have nS:H1 h'.objs.7=none:=I1.hok.fresh (old _ (by simp [Fs.all]));have lt:=prs.9;rw[rY] at lt;exact #[.ref h'.objs.7,_,I'.track (o:=.lst ts) fS #[(),acc,c,vs',gS'],rfl,q _ ts _ (sm.trans (aH.new fS.1)) nS aK (Paired.imp' (λ_ _ z=>z.same (aH.new fS.1)) prs)]
end
end L2
namespace Nm
def xM:List Int->Int->Int
 | [],m=>m
 | b :: r,m=>xM r (m*(b / g m b))
theorem wK (hm:0 < m) (hb:0 < b):0 < m*(b / g m b):=iF hm (Ex (t:=m) hb)
theorem Er:b∣m*(b / g m b):=by
 have h1:=AB m b;refine #[lo m b,?_];have h2:b / g m b*g m b=b:=xP m b
 calc m*(b / g m b)=lo m b*g m b*(b / g m b):=by rw[h1]
  _=lo m b*(b / g m b*g m b):=by rw[eh,ic (g m b)]
  _=b*lo m b:=by rw[h2,ic]
theorem AH:∀{bs:List Int} {m:Int},0 < m->(∀b∈bs,0 < b)->0 < xM bs m
 | [],_,hm,_=>hm
 | b :: r,m,hm,h=>AH (bs:=r) (wK hm (h b dJ)) λc hc=>h c (bX _ hc)
theorem GR:∀{bs:List Int} {m:Int},m∣xM bs m
 | [],_=>y7 _
 | b :: r,m=>Int.dvd_trans (Int.dvd_mul_right m _) (GR (bs:=r))
theorem GQ:∀{bs:List Int} {m b:Int},b∈bs->b∣xM bs m
 | c :: r,m,b,h=>by
  rcases aD.mp h with rfl | h
  ·exact Int.dvd_trans Er (GR (bs:=r))
  ·exact GQ (bs:=r) h
end Nm
namespace L2
open PySem PySem.Spec PyProof.Rows Nm
def Fu (K:FG9) (H:Hp) (p:Addr) (ns:List (Int×Int)):Prop:=∃xs,H p=some (.lst xs)/\Paired (λn x=>xa K H x n) ns xs
theorem Fu.same {K:FG9} (h:Fu K H p ns) (e:aH H H'):Fu K H' p ns:=by obtain xs|g|q:=h;exact #[xs,e _ _ g,Paired.imp' (λ_ _ z=>e.num z) q]
def Gn (K:FG9) (T:String):V->Hp->VK->Prop:=λx H Q=>Jl K T x H Q\/∃a xs b,x=.ref a/\j8 K H a xs/\PySem.W.kitOne K (.type "tuple") (.type T)=some b/\Q (.bl b) H
theorem CZ:∀{bs:List Int} {m b:Int},xM (bs++[b]) m=xM bs m*(b / g (xM bs m) b)
 | [],_,_=>rfl
 | c :: r,m,b=>CZ (bs:=r)
def d5 (ns:List (Int×Int)) (B:Int):List Int:=ns.map λn=>n.1*(B / n.2)
def fF (ns:List (Int×Int)):Int:=xM (ns.map (·.2)) 1
def JK (ns ms:List (Int×Int)):Int:=(List.zipWith (λx y=>x*y) (d5 ns (fF ns)) (d5 ms (fF ms))).sum
theorem p9 (h:n∈ns):n.2∣fF ns:=GQ (aA.mpr #[n,h,rfl])
theorem Jk {K:FG9} (h:ta σ H λvs H1=>∃(l1 l2:Addr) (xs ys:List V),vs=[.ref l1,.ref l2]/\bC K H1 l1 xs/\bC K H1 l2 ys/\ys.9=xs.9 /\
 ∀L ts H',aH H1 H'->H1 L=none->H' L=some (.lst ts)->Paired (Sq H') (xs.zip ys) ts->Q (.ref L) H'):FI K ta σ H Q:=h
theorem Wm (hb:0 < b) (h:Sz k b):Sz k (g m b):=h.le (by
 have h1:(g m b).natAbs=Int.gcd m b:=by unfold g;simp
 rw[h1];exact iD () (by have:=gU (a:=m) (b:=b);exact fM.mpr this |> λz=>by simpa using z))
theorem Kb {ts us:List Int} {i:Nat} (h:((ts.map V.int).zip (us.map V.int))[i]?=some pq):∃t u,ts[i]?=some t/\us[i]?=some u/\pq=(.int t,.int u):=by
 rw[UA,aB,aB] at h;obtain h1|h2:=h;cases e1:ts[i]? with
 | none=>rw[e1] at h1;cases h1
 | some t =>
  cases e2:us[i]? with
  | none=>rw[e2] at h2;cases h2
  | some u =>
   rw[e1] at h1;rw[e2] at h2;refine #[t,u,rfl,rfl,?_];cases pq;simp at h1 h2;rw[h1,h2]
def Lr (K:FG9):Sp:=λvs H Q _=>∃x n,vs=[x]/\xa K H x n/\yv n/\∀H',aH H H'->Q (.bl true) H'
inductive xp (K:FG9) (vs:List V) (H:Hp) (Q:VK) (E9:XK):Prop
 | mk (p:Addr) (ns:List (Int×Int)):vs=[.ref p,.int ns.9]->Fu K H p ns->ns.9<=1000->(∀n∈ns,yv n)->(∀H',aH H H'->Q (.bl true) H')->xp K vs H Q E9
theorem qW {X:Cx} {a:Expr} {ta:TE} {pos:Pos} {c:Str} {T:String} {p p2:Pos} (hg:Gl X "isinstance") (hm:X.mg "isinstance"=none) (hb:bootBuiltins c=some (.type T)) (hmc:X.mg c=none) (ha:PE X a ta) (hgc:Gl X c:=by rfl) (hn:c≠"__name__":=by decide)
  (hd:(c == ("__debug__":Str))=false:=by decide) (he:starEach [a,.Name c p2] X.env=[(false,eval a X.env),(false,eval (.Name c p2) X.env)]:=by rfl)
  (hpl:(backTo pos (starEach [.Name c p2] X.env)).any (·.1)=false:=by rfl) (he2:starEach [.Name c p2] X.env=[(false,eval (.Name c p2) X.env)]:=by rfl):PE X (.Call (.Name "isinstance" p) [a,.Name c p2] [] pos) (V3 (Gn X.K T) ta):=by
 intro pins s σ H Q I h;refine wpAny_Call_Name_kw (k9 I hg hm PyProof.Rows.boot_isinstance ?_);have hA:PA X [a,.Name c p2] (jZ ta (jZ (tC (.ty T)) Bn)):=dh ha (dh (yN hgc hmc hb rfl hn hd) jy he2) (by rw[he,he2])
 have hq:jZ ta (jZ (tC (.ty T)) Bn) σ H (λvs H1=>∃x,vs=[x,.ty T]/\Gn X.K T x H1 Q):=by
  show ta σ H λx H1=>∃x',[x,V.ty T]=[x',V.ty T]/\Gn X.K T x' H1 Q
  have e:(λx H1=>∃x',[x,V.ty T]=[x',V.ty T]/\Gn X.K T x' H1 Q)=λx H1=>Gn X.K T x H1 Q:=by
   funext x H1;apply propext;constructor
   ·rintro ⟨x',e,q⟩;cases e;exact q
   ·intro q;exact #[x,rfl,q]
  rw[e];exact h
 refine PyProof.Rows.callWith_builtin1 (iI (hA pos pins s σ H _ I hq) λus s1 #[vs,H1,I1,r1,x,e,q1]=>?_) (by rw[he,he2]) hpl;subst e;obtain u|w'|rfl|ru|rt:=vals2 r1;cases rt;rcases q1 with ⟨t,bb,ty,ek,q⟩ | ⟨ad,xs,bb,rfl,hs,ek,q⟩
 ·exact C1 I1 ru ty ek λtk=>#[.bl bb,H1,I1.tok tk,rfl,q]
 ·cases ru;obtain its|_|⟨o,g1,g2,_⟩|_:=I1.tuple hs;exact dR uZ I1.kIn #[o,g1,g2] ek (λz=>nomatch z) λtk=>#[.bl bb,H1,I1.tok tk,rfl,q]
theorem Ul {k:Nat} (h:k<=xs.9):wW xs none (some (k:Int))=xs.take k:=by
 unfold wW;rw[HT.Ge,HT.Kx,O9 h];simp
theorem gO (h:a < n):MC n (a:Int)=some a:=by
 unfold MC;rw[if_pos (),if_pos (),Int.toNat_natCast]
theorem OP {k:Nat}:wW xs none (some (k:Int))=xs.take k:=by
 by_cases h:k<=xs.9
 ·exact Ul h
 ·unfold wW;rw[HT.Ge,HT.Kx,Nat.min_eq_right (),aE (by simp),aE ()];rfl
theorem yk {α β:Type} {F:α->β->Prop}:∀{l1:List α} {l2:List β} (_:Paired F l1 l2) (k:Nat),Paired F (l1.take k) (l2.take k)
 | _,_,.nil,k=>by simp;exact .nil
 | _,_,.cons h r,0=>.nil
 | _,_,.cons h r,k+1=>.cons h (yk r k)
def Ql (K:FG9):List V->Hp->VK->Prop:=λxs H Q=>∃p ys,xs=[.ref p]/\(bC K H p ys\/j8 K H p ys)/\∀l,H l=none->Q (.ref l) (upd H l (.lst ys))
theorem dI (K:FG9) (hK:X.K=K):o5 X (.type "list") (Ql K):=by subst hK;exact rF
theorem aH.none (s:aH H H') (h:H' l=Option.none):H l=Option.none:=by
 cases e:H l with
 | none=>rfl
 | some o=>have:=s _ _ e;rw[h] at this;cases this
def Sr (K:FG9) (H:Hp) (p:Addr) (rows:List (List (Int×Int))):Prop:=∃xs,H p=some (.lst xs)/\Paired (λns x=>∃q,x=V.ref q/\Fu K H q ns) rows xs
theorem IY (h:b.natAbs<=1000000):Sz 20 b:=bc h ()
theorem cY.none (u:cY b H H') (B:ji H' b) (h:H' l=Option.none):H l=Option.none:=by
 cases e:H l with
 | none=>rfl
 | some o =>
  by_cases z:l=b
  ·obtain _|_|_|_|_|e2|_:=B;rw[<- z,h] at e2;cases e2
  ·have:=u.1 l o e z;rw[h] at this;cases this
inductive zG (K:FG9) (vs:List V) (H:Hp) (Q:VK) (E9:XK):Prop
 | mk (p:Addr) (rows:List (List (Int×Int))) (m:Nat):vs=[.ref p,.int rows.9,.int m]->Sr K H p rows->rows.9<=1000->m<=1000->((∀ns∈rows,ns.9=m/\∀n∈ns,yv n))->(∀H',aH H H'->Q (.bl true) H')->zG K vs H Q E9
end L2
namespace Nm
def nm (q:Rat):Int×Int:=(q.num,(q.den:Int))
theorem ik (q:Rat):0 < (nm q).2:=by have:=q.den_pos;show 0 < (q.den:Int);lia
theorem Av (q:Rat):Int.gcd (nm q).1 (nm q).2=1:=q.reduced
theorem TV (h:nm p=nm q):p=q:=by
 have h1:p.num=q.num:=congrArg Prod.fst h;have h2:(p.den:Int)=q.den:=congrArg Prod.snd h;exact Rat.ext h1 ()
theorem jM (q:Rat):(q.num:Rat)=q*(q.den:Rat):=by
 have h:=Rat.num_divInt_den q;rw[Rat.divInt_eq_div] at h
 have hd:((q.den:Int):Rat)≠0:=by
  intro z;have z:=yy.mp z;have:=q.den_pos
  lia
 have e:((q.den:Int):Rat)=(q.den:Rat):=aI _
 calc (q.num:Rat)=(q.num:Rat) / ((q.den:Int):Rat)*((q.den:Int):Rat):=(kd hd).symm
  _=q*(q.den:Rat):=by rw[h,e]
theorem RY (hb:0 < b) (hg:Int.gcd a b=1) (e:q*(b:Rat)=(a:Rat)):(a,b)=nm q:=by
 have h1:a*(q.den:Int)=q.num*b:=by
  apply du.mp;rw[aQ,aQ,<- e,jM,aI];grind
 obtain e1|e2:=uniq hb (ik q) hg (Av q) h1;exact Prod.ext e1 e2
theorem mG {t b:Int} (hb:0 < b) (e:q*(b:Rat)=(t:Rat)):(lo t b,hi t b)=nm q:=by
 refine RY (Ex hb) (Az ()) ?_;have h:=AA t b;have hb':(b:Rat)≠0:=λz=>by have:=yy.mp z;lia
 have h2:((lo t b:Int):Rat)*(b:Rat)=(t:Rat)*((hi t b:Int):Rat):=by rw[<- aQ,h,aQ]
 rw[<- e] at h2;have h3:(q*((hi t b:Int):Rat) - ((lo t b:Int):Rat))*(b:Rat)=0:=by grind
 rcases jc.mp h3 with h4 | h4
 ·grind
 ·exact absurd h4 hb'
def Fr (M V:Nat) (q:Rat):Prop:=∃z:Int,q*(M:Rat)=(z:Rat)/\z.natAbs<=V*M
theorem Fr.mono (h:Fr M V q) (l:V<=V'):Fr M V' q:=by obtain z|e|b:=h;exact #[z,e,af b (ay _ l)]
theorem Fr.scale (h:Fr M V q) (k:Nat):Fr (M*k) V q:=by
 obtain z|e|b:=h;refine #[z*k,?_,?_]
 ·rw[jb,aQ,<- e,aI,Rat.mul_assoc]
 ·rw[cX,bx,<- cD];exact ay _ b
theorem Fr.scaleL (h:Fr M V q) (k:Nat):Fr (k*M) V q:=by rw[bQ];exact h.scale k
theorem Fr.dvd (h:Fr M V q) (d:M∣N):Fr N V q:=by obtain k|rfl:=d;exact h.scale k
theorem Fr.add (h:Fr M V p) (h':Fr M W q):Fr M (V+W) (p+q):=by
 obtain z|e|b:=h;obtain z'|e'|b':=h';refine #[z+z',by rw[Be,<- e,<- e',Rat.add_mul],?_];rw[O5];have:=Int.natAbs_add_le z z'
 lia
theorem Fr.neg (h:Fr M V q):Fr M V (-q):=by
 obtain z|e|b:=h;exact #[-z,by rw[cU,<- e,Rat.neg_mul],by rw[pe];exact b]
theorem Fr.sub (h:Fr M V p) (h':Fr M W q):Fr M (V+W) (p - q):=by rw[Rat.sub_eq_add_neg];exact h.add h'.neg
theorem Fr.mul (h:Fr M V p) (h':Fr N W q):Fr (M*N) (V*W) (p*q):=by
 obtain z|e|b:=h;obtain z'|e'|b':=h';refine #[z*z',?_,?_]
 ·rw[jb,aQ,<- e,<- e'];grind
 ·rw[cX]
  calc z.natAbs*z'.natAbs<=(V*M)*(W*N):=aw b b'
   _=V*W*(M*N):=by rw[cD,Nat.mul_left_comm M,<- cD]
theorem Fr.zero:Fr M V 0:=#[0,by simp,by simp]
theorem Fr.int {i:Int} (h:i.natAbs<=V):Fr M V (i:Rat):=#[i*M,by rw[aQ,aI],by rw[cX,bx];exact ay _ h]
theorem Fr.one (h:1<=V):Fr M V 1:=Fr.int (i:=1) h
theorem Fr.den (h:Fr M V q):(q.den:Int)∣(M:Int):=by
 obtain z|e|b:=h
 have h1:q.num*(M:Int)=z*(q.den:Int):=by
  apply du.mp;rw[aQ,aQ,<- e,jM,aI,aI];grind
 have h2:(q.den:Int)∣q.num*(M:Int):=#[z,by rw[h1,ic]];exact rA (by rw[kg];exact Av q) h2
theorem Fr.den_le (h:Fr M V q) (hM:0 < M):q.den<=M:=iD hM (oJ.mp h.den)
theorem Fr.num_le (h:Fr M V q) (hM:0 < M):q.num.natAbs<=V*M:=by
 have hd:=h.den;obtain z|e|b:=h;obtain k|hk:=oJ.mp hd;have hk0:k≠0:=λz=>by rw[z,yW] at hk;lia
 have h1:z=q.num*(k:Int):=by
  apply du.mp;rw[aQ,<- e,jM,aI,hk,jb];grind
 rw[h1] at b;exact af (pQ ()) b
theorem Fr.own (q:Rat) (h:q.num.natAbs<=V):Fr q.den V q:=#[q.num,(jM q).symm,af h (cJ _ q.den_pos)]
theorem Fr.sz (h:Fr M V q) (hM:0 < M) (h1:M<=2^k) (h2:V<=2^j):Sz (j+k+1) (nm q).1/\Sz (k+1) (nm q).2:=by
 constructor
 ·show q.num.natAbs < 2^(j+k+1)
  have h3:=h.num_le hM;have h4:V*M<=2^j*2^k:=aw h2 h1;rw[ft,ax];have:=Nat.two_pow_pos (j+k);rw[ax] at this
  lia
 ·show (q.den:Int).natAbs < 2^(k+1)
  have h3:=h.den_le hM;rw[bx,ft];have:=Nat.two_pow_pos k
  lia
theorem Fr.sum {M V:Nat}:∀{l:List Rat},(∀x∈l,Fr M V x)->Fr M (l.9*V) l.sum
 | [],_=>by simp;exact Fr.zero
 | x :: r,h=>by
  rw[List.sum_cons,a8,dm,yY];exact (h x (.head _)).add (Fr.sum λy hy=>h y (.tail _ hy))
def bJ (xs ys:List Rat):Rat:=(List.zipWith (λx y=>x*y) xs ys).sum
theorem Fr.dot (h:∀x∈xs,Fr M V x) (h':∀y∈ys,Fr N W y):Fr (M*N) (xs.9*(V*W)) (bJ xs ys):=by
 have q:=Fr.sum (M:=M*N) (V:=V*W) (l:=List.zipWith (λx y=>x*y) xs ys) λz hz=>by
  obtain i|hi|e:=aX hz;rw[cW] at e;rw[<- e];exact (h _ (aF _)).mul (h' _ (aF _))
 exact q.mono (ay _ (by rw[aZ];lia))
theorem C4 (xs ys:List Rat):bJ xs ys=bJ ys xs:=by
 unfold bJ;rw[List.zipWith_comm];congr 2;funext a b;exact di ..
theorem yP:∀{bs:List Int} {m M:Int},0 < m->m∣M->(∀b∈bs,0 < b/\b∣M)->xM bs m∣M
 | [],_,_,_,h,_=>h
 | b :: r,m,M,hm,h,hb=>by
  have b1:=hb b dJ;refine yP (bs:=r) (wK hm b1.1) ?_ λc hc=>hb c (bX _ hc)
  have gp:0 < g m b:=AQ ();have e1:=AB m b;have e2:=xP m b;obtain u|hu:=h;obtain v|hv:=b1.2
  have h3:lo m b*u=hi m b*v:=by
   apply vd (show g m b≠0 by lia)
   calc lo m b*u*g m b=lo m b*g m b*u:=by rw[eh,ic u,<- eh]
    _=m*u:=by rw[e1]
    _=M:=hu.symm
    _=b*v:=hv
    _=hi m b*g m b*v:=by rw[e2]
    _=hi m b*v*g m b:=by rw[eh,ic (g m b),<- eh]
  have h4:hi m b∣lo m b*u:=#[v,h3];have h5:hi m b∣u:=rA (by rw[kg];exact Az ()) h4;obtain w|hw:=h5;refine #[w,?_];show M=m*hi m b*w
  rw[hu,hw,eh]
theorem EB (hb:0 < b) (d:a∣b) (h:Sz k b):Sz k a:=h.le (iD () (fM.mpr d))
end Nm
namespace Nm
def Dr (W:Nat) (x:Rat):Prop:=x.num.natAbs<=W/\x.den<=W
def v8:List Nat->Nat
 | []=>1
 | a :: r=>a*v8 r
theorem xG:∀{l:List Nat},(∀a∈l,0 < a)->0 < v8 l
 | [],_=>Nat.one_pos
 | a :: r,h=>aM (h a (.head _)) (xG λb hb=>h b (.tail _ hb))
theorem xH:∀{l:List Nat} {a:Nat},a∈l->a∣v8 l
 | b :: r,a,h=>by
  rcases aD.mp h with rfl | h
  ·exact lE ..
  ·exact d9 (xH h) (bP ..)
theorem Ag {k:Nat}:∀{l:List Nat},(∀a∈l,a<=2^k)->v8 l<=2^(k*l.9)
 | [],_=>by simp [v8]
 | a :: r,h=>by
  rw[a8,Nat.mul_succ,ax,bQ (2^(k*r.9))];exact aw (h a (.head _)) (Ag λb hb=>h b (.tail _ hb))
def GF (M V:Nat) (rows:LR9):Prop:=∀xs∈rows,∀x∈xs,Fr M V x
def Ux (c n i:Nat) (rows:LR9):Prop:=∃M,0 < M/\M<=2^(i*(c*n+2))/\GF M (2^(20+2*i)) rows
theorem T9:Ux c n 0 []:=#[1,(),by simp,λ_ h=>nomatch h]
theorem Ua (c n i:Nat):(i+1)*(c*n+2)=i*(c*n+2)+(c*n+2):=dm ..
theorem QN (h:Ux c n i rows) (hl:xs.9=n) (hd:∀x∈xs,Dr (2^c) x) (hc:c<=20):Ux c n (i+1) (rows++[xs]):=by
 obtain M|h0|h1|h2:=h
 have dp:0 < v8 (xs.map (·.den)):=xG λa ha=>by
  obtain x|_|rfl:=aA.mp ha;exact x.den_pos
 have dl:v8 (xs.map (·.den))<=2^(c*n):=by
  have:=Ag (k:=c) (l:=xs.map (·.den)) λa ha=>by
   obtain x|hx|rfl:=aA.mp ha;exact (hd x hx).2
  rwa [ag,hl] at this
 refine #[M*v8 (xs.map (·.den)),aM h0 dp,?_,λys hy x hx=>?_]
 ·rw[Ua,ax];exact aw h1 (af dl (ak () ()))
 ·rcases av.mp hy with hy | hy
  ·exact ((h2 ys hy x hx).scale _).mono (ak () ())
  ·have e:ys=xs:=by simpa using hy
   subst e;have f:Fr x.den (2^c) x:=Fr.own x (hd x hx).1;have g:=(f.dvd (xH (aA.mpr #[x,hx,rfl]))).scaleL M;exact g.mono (ak () ())
def cv (rows:LR9) (w:Nat):LR9:=(List.range w).map λj=>rows.map λxs=>xs.getD j 0
def xj (one other:LR9) (w:Nat):LR9:=one.map λxs=>(cv other w).map λys=>bJ ys xs
theorem cy:(cv rows w).9=w:=by simp [cv]
theorem ie:∀ys∈cv rows w,ys.9=rows.9:=λys hy=>by
 obtain j|_|rfl:=aA.mp hy;exact ag ..
theorem getD_map {α:Type} {l:List α} {f:α->Rat} (h:i < l.9):(l.map f).getD i 0=f l[i]:=by
 rw[aa,aB,ae h];rfl
theorem Cr (h:∀xs∈rows,xs.9=w):cv (cv rows w) rows.9=rows:=by
 apply fO
 ·exact cy
 ·intro i h1 h2;have e:(cv (cv rows w) rows.9)[i]=(cv rows w).map λxs=>xs.getD i 0:=by simp [cv]
  rw[e];have hw:=h rows[i] (aF h2);apply fO
  ·rw[ag,cy,hw]
  ·intro j h3 h4;rw[qv];have e2:(cv rows w)[j]'(by rw[cy];lia)=rows.map λxs=>xs.getD j 0:=by simp [cv]
   rw[e2,getD_map h2,aa,ae h4];rfl
end Nm
namespace L2
open PySem PySem.Spec PyProof.Rows Nm
theorem cY.sqt {K:FG9} (u:cY b H H') (B:ji H b) (h:j8 K H a xs):j8 K H' a xs:=by
 rcases h with (h | ⟨o,h⟩) | h
 ·exact .inl (.inl (u.tup B h))
 ·exact .inl (.inr #[o,u.other (λz=>by obtain _|_|_|_|_|e|_:=B;rw[z,e] at h;cases h) h])
 ·exact .inr h
theorem MY {K:FG9} (h:j8 K H a xs) (hl:H l=some (.lst ys)):j8 K (upd H l o) a xs:=by
 rcases h with (h | ⟨o,h⟩) | h
 ·exact .inl (.inl (by rw[bG λz=>by rw[z,hl] at h;cases h];exact h))
 ·exact .inl (.inr #[o,by rw[bG λz=>by rw[z,hl] at h;cases h];exact h])
 ·exact .inr h
def bO (K:FG9) (H:Hp) (q:Rat) (x:V):Prop:=xa K H x (nm q)
section
variable {K:FG9} {H H':Hp} {q:Rat} {x:V} {b l p:Addr} {qs:List Rat}
theorem bO.same (h:bO K H q x) (e:aH H H'):bO K H' q x:=e.num h
theorem bO.upto (h:bO K H q x) (u:cY b H H') (B:ji H b):bO K H' q x:=by obtain p|e|s:=h;exact #[p,e,u.sqt B s]
theorem bO.updL (h:bO K H q x) (hl:H l=some (.lst ys)):bO K (upd H l o) q x:=by obtain p|e|s:=h;exact #[p,e,MY s hl]
theorem bO.mk (h:H r=some (.tup [.int a,.int c])) (e:(a,c)=nm q):bO K H q (.ref r):=#[r,rfl,by rw[<- e];exact j8.of h]
def bK (K:FG9) (H:Hp) (p:Addr) (qs:List Rat):Prop:=∃xs,H p=some (.lst xs)/\Paired (bO K H) qs xs
theorem bK.same (h:bK K H p qs) (e:aH H H'):bK K H' p qs:=by obtain xs|g|r:=h;exact #[xs,e _ _ g,Paired.imp' (λ_ _ z=>z.same e) r]
theorem bK.upto (h:bK K H p qs) (u:cY b H H') (B:ji H b) (n:p≠b):bK K H' p qs:=by obtain xs|g|r:=h;exact #[xs,u.other n g,Paired.imp' (λ_ _ z=>z.upto u B) r]
theorem bK.updL (h:bK K H p qs) (hl:H l=some (.lst ys)) (n:p≠l):bK K (upd H l o) p qs:=by obtain xs|g|r:=h;exact #[xs,by rw[bG n];exact g,Paired.imp' (λ_ _ z=>z.updL hl) r]
theorem tU {α β γ:Type} {F:α->β->Prop} {f:γ->α}:∀{l:List γ} {l2:List β},Paired (λc x=>F (f c) x) l l2->Paired F (l.map f) l2
 | _,_,.nil=>.nil
 | _,_,.cons r t=>.cons r (tU t)
theorem bK.rowK (h:bK K H p qs):Fu K H p (qs.map nm):=by obtain xs|g|r:=h;exact #[xs,g,tU (F:=λn x=>xa K H x n) r]
def dq (K:FG9) (H0 H:Hp) (qs:List Rat) (x:V):Prop:=∃q,x=V.ref q/\H0 q=none/\bK K H q qs
def bu (K:FG9) (H0 H:Hp) (p:Addr) (rows:LR9):Prop:=∃xs,H p=some (.lst xs)/\Paired (dq K H0 H) rows xs/\V.ref p∉xs
theorem jC {rows:LR9} (h:∃H2,H2 p=none/\Paired (dq K H0 H2) rows ys):V.ref p∉ys:=λhm=>by
 obtain H2|e|pr:=h;obtain qs|_|q|z|_|xs|g|_:=dN pr hm;cases z;rw[e] at g;cases g
variable {H0:Hp} {rows:LR9}
theorem dq.same (h:dq K H0 H qs x) (e:aH H H'):dq K H0 H' qs x:=by obtain q|a|b|c:=h;exact #[q,a,b,c.same e]
theorem dq.upto (h:dq K H0 H qs x) (u:cY b H H') (B:ji H b) (nb:H0 b≠none):dq K H0 H' qs x:=by obtain q|a|c|d:=h;exact #[q,a,c,d.upto u B λz=>nb (by rw[<- z];exact c)]
theorem dq.weak (h:dq K H0 H qs x) (e:aH H1 H0):dq K H1 H qs x:=by obtain q|a|b|c:=h;exact #[q,a,e.none b,c]
theorem bu.same (h:bu K H0 H p rows) (e:aH H H'):bu K H0 H' p rows:=by obtain xs|g|r|n:=h;exact #[xs,e _ _ g,Paired.imp' (λ_ _ z=>z.same e) r,n]
theorem bu.upto (h:bu K H0 H p rows) (u:cY b H H') (B:ji H b) (n:p≠b) (nb:H0 b≠none):bu K H0 H' p rows:=by obtain xs|g|r|nn:=h;exact #[xs,u.other n g,Paired.imp' (λ_ _ z=>z.upto u B nb) r,nn]
theorem bu.weak (h:bu K H0 H p rows) (e:aH H1 H0):bu K H1 H p rows:=by obtain xs|g|r|n:=h;exact #[xs,g,Paired.imp' (λ_ _ z=>z.weak e) r,n]
theorem bu.gridK (h:bu K H0 H p rows):Sr K H p (rows.map (List.map nm)):=by obtain xs|g|r|_:=h;exact #[xs,g,tU (F:=λns x=>∃q,x=V.ref q/\Fu K H q ns) (Paired.imp' (λ_ _ #[q,a,_,c]=>#[q,a,c.rowK]) r)]
end
def AL:Kind Rat:=Vy.via nm (λ_ _ e=>TV e) (λK H x q=>bO K H q x) id
def GU:Kind (List Rat):=QK AL
def JA:Kind (LR9):=QK GU
theorem bK.kind {K:FG9} (h:bK K H p qs):GU.R K H (.ref p) qs:=by obtain xs|g|q:=h;exact #[p,xs,rfl,bC.of g,q]
theorem bu.kind {K:FG9} (h:bu K H0 H p rows):JA.R K H (.ref p) rows:=by obtain xs|g|q|_:=h;exact #[p,xs,rfl,bC.of g,Paired.imp' (λ_ _ #[q,a,_,c]=>by rw[a];exact c.kind) q]
def i5 (x:Rat):Prop:=Sz 4000000 (nm x).1/\Sz 4000000 (nm x).2
def Fits (l:List Rat):Prop:=∃M V:Nat,0 < M/\M<=2^900/\V<=2^900/\∀x∈l,Fr M V x
theorem Fits.szn (h:Fits l) (hx:x∈l):i5 x:=by
 obtain M|V|h0|h1|h2|h3:=h;obtain a|b:=(h3 x hx).sz h0 h1 h2;exact #[a.mono (),b.mono ()]
theorem Fits.ok (h:Fits l) (hx:x∈l):yv (nm x):=#[ik x,Av x,(h.szn hx).1.mono (),(h.szn hx).2.mono ()]
theorem JG {M V:Nat} (h0:0 < M) (h1:M<=2^1800) (h2:V<=2^1810) (h:Fr M V x):i5 x:=by
 obtain a|b:=h.sz h0 h1 h2;exact #[a.mono (),b.mono ()]
theorem DB (h:i5 x):yv (nm x):=#[ik x,Av x,h.1.mono (),h.2.mono ()]
inductive qF (K:FG9) (f:Rat->Rat->Rat) (vs:List V) (H:Hp) (Q:VK) (E9:XK):Prop
 | mk (u v:V) (x y:Rat):vs=[u,v]->bO K H x u->bO K H y v->i5 x->i5 y->(∀r H',aH H H'->bO K H' (f x y) (.ref r)->Q (.ref r) H')->qF K f vs H Q E9
section
variable {K:FG9}
theorem Jn (hf:∀x y:Rat,(f x y)*(((nm x).2*(nm y).2:Int):Rat)=((F (nm x).1 (nm x).2 (nm y).1 (nm y).2:Int):Rat)) (h:qF K f vs H Q E):Ku K F vs H Q E:=by
 obtain u|v|x|y|rfl|⟨p,rfl,hp⟩|⟨q,rfl,hq⟩|⟨s1,s2⟩|⟨s3,s4⟩|k:=h;refine #[p,q,_,_,_,_,rfl,hp,hq,ik x,ik y,s1,s2,s3,s4,λr H' s g=>k r H' s (bO.mk g ?_)];exact mG (iF (ik x) (ik y)) (hf x y)
theorem qY (x:Rat):(((nm x).1:Int):Rat)=x*(((nm x).2:Int):Rat):=by
 show (x.num:Rat)=x*(((x.den:Nat):Int):Rat)
 rw[jM,aI]
theorem Lc (h:qF K (λx y=>x+y) vs H Q E):Ku K Sh vs H Q E:=Jn (λx y=>by
 unfold Sh;rw[Be,aQ,aQ,aQ,qY,qY];grind) h
theorem yK (h:qF K (λx y=>x - y) vs H Q E):Ku K Oy vs H Q E:=Jn (λx y=>by
 unfold Oy;rw[A9,aQ,aQ,aQ,qY,qY];grind) h
theorem KJ (h:qF K (λx y=>x*y) vs H Q E):Ku K Ox vs H Q E:=Jn (λx y=>by
 unfold Ox;rw[aQ,aQ,qY,qY];grind) h
end
def IG (M:Int) (ns:List (Int×Int)):Prop:=0 < M/\Sz 4400000 M/\∀n∈ns,0 < n.2/\n.2∣M/\Sz 4400000 n.1
theorem IG.bot (h:IG M ns):0 < fF ns/\Sz 4400000 (fF ns):=by
 have hb:∀b∈ns.map (·.2),0 < b/\b∣M:=λb hb=>by
  obtain n|hn|rfl:=aA.mp hb;exact #[(h.2.2 n hn).1,(h.2.2 n hn).2.1]
 exact #[AH () λb q=>(hb b q).1,EB h.1 (yP () (Int.one_dvd _) hb) h.2.1]
inductive M6 (K:FG9) (vs:List V) (H:Hp) (Q:VK) (E9:XK):Prop
 | mk (p:Addr) (bs:List Int) (M:Int):vs=[.ref p]->bC K H p (bs.map V.int)->0 < M->Sz 4400000 M->((∀b∈bs,0 < b/\b∣M))->Q (.int (xM bs 1)) H->M6 K vs H Q E9
inductive M7 (K:FG9) (vs:List V) (H:Hp) (Q:VK) (E9:XK):Prop
 | mk (p:Addr) (ns:List (Int×Int)) (M:Int):vs=[.ref p]->Fu K H p ns->ns.9<=1000->IG M ns->(∀H',aH H H'->Q (.int (fF ns)) H')->M7 K vs H Q E9
inductive FN (K:FG9) (vs:List V) (H:Hp) (Q:VK) (E9:XK):Prop
 | mk (p:Addr) (ns:List (Int×Int)) (M:Int) (B:Int):vs=[.ref p,.int B]->Fu K H p ns->ns.9<=1000->IG M ns->0 < B->Sz 4400000 B->(∀r H',H r=none->aH H H'->H' r=some (.lst ((d5 ns B).map V.int))->Q (.ref r) H')->FN K vs H Q E9
theorem vP (h:IG M ns) (hB:0 < B) (sB:Sz 4400000 B) (ht:t∈d5 ns B):Sz 8800000 t:=by
 obtain n|hn|rfl:=aA.mp ht;have hp:=h.2.2 n hn
 have sq:Sz 4400000 (B / n.2):=sB.le (by
  rw[UB ()];exact Nat.div_le_self ..)
 exact (hp.2.2.mul sq).mono ()
theorem sN (h:(nm x).2∣B):(((nm x).1*(B / (nm x).2):Int):Rat)=x*(B:Rat):=by
 obtain k|rfl:=h;have hp:=ik x;rw[Int.mul_ediv_cancel_left _ (),aQ,aQ,qY];grind
theorem GY {B C:Int}:∀{xs ys:List Rat},(∀x∈xs,(nm x).2∣B)->(∀y∈ys,(nm y).2∣C)->(((List.zipWith (λx y=>x*y) (d5 (xs.map nm) B) (d5 (ys.map nm) C)).sum:Int):Rat)=bJ xs ys*((B:Rat)*(C:Rat))
 | [],ys,_,_=>by simp [d5,bJ]
 | x :: xs,[],_,_=>by simp [d5,bJ]
 | x :: xs,y :: ys,h1,h2=>by
  have ih:=GY (B:=B) (C:=C) (xs:=xs) (ys:=ys) (λz hz=>h1 z (.tail _ hz)) (λz hz=>h2 z (.tail _ hz));have e1:=sN (h1 x (.head _));have e2:=sN (h2 y (.head _));have e3:(List.zipWith (λx y=>x*y) (d5 ((x :: xs).map nm) B) (d5 ((y :: ys).map nm) C)).sum=((nm x).1*(B / (nm x).2))*((nm y).1*(C / (nm y).2))+(List.zipWith (λx y=>x*y) (d5 (xs.map nm) B) (d5 (ys.map nm) C)).sum:=rfl;have e4:bJ (x :: xs) (y :: ys)=x*y+bJ xs ys:=rfl;rw[e3,e4,Be,aQ,ih,e1,e2];grind
theorem K5 (h1:0 < fF (xs.map nm)) (h2:0 < fF (ys.map nm)):(lo (JK (xs.map nm) (ys.map nm)) (fF (xs.map nm)*fF (ys.map nm)),hi (JK (xs.map nm) (ys.map nm)) (fF (xs.map nm)*fF (ys.map nm)))=nm (bJ xs ys):=by
 refine mG (iF h1 h2) ?_;unfold JK;rw[GY (λx hx=>p9 (aA.mpr #[x,hx,rfl])) (λx hx=>p9 (aA.mpr #[x,hx,rfl])),aQ]
inductive FL (K:FG9) (vs:List V) (H:Hp) (Q:VK) (E9:XK):Prop
 | mk (p:Addr) (w:Nat) (H0:Hp) (rows:LR9):vs=[.ref p,.int w]->bu K H0 H p rows->rows.9<=1000->w<=1000->(∀xs∈rows,xs.9=w)->(∀r H',H r=none->aH H H'->bu K H H' r (cv rows w)->Q (.ref r) H')->FL K vs H Q E9
inductive zC (K:FG9) (vs:List V) (H:Hp) (Q:VK) (E9:XK):Prop
 | mk (b:Addr) (w:Nat):vs=[.ref b,.int w]->ji H b->1<=w->w<=1000000->(∀r x H',Dr (max w 6) x->bO K H' x (.ref r)->ji H' b->cY b H H'->Q (.ref r) H')->zC K vs H Q E9
inductive FZ (K:FG9) (vs:List V) (H:Hp) (Q:VK) (E9:XK):Prop
 | mk (b:Addr) (m w:Nat):vs=[.ref b,.int m,.int w]->ji H b->m<=1000->1<=w->w<=1000000->(∀r xs H',H r=none->bK K H' r xs->xs.9=m->(∀x∈xs,Dr (max w 6) x)->ji H' b->cY b H H'->Q (.ref r) H')->FZ K vs H Q E9
inductive FQ (K:FG9) (vs:List V) (H:Hp) (Q:VK) (E9:XK):Prop
 | mk (p q:Addr) (xs ys:List Rat):vs=[.ref p,.ref q]->bK K H p xs->bK K H q ys->ys.9=xs.9->xs.9<=1000->(∀x∈xs,i5 x)->(∀y∈ys,i5 y)->(∀r H',H r=none->aH H H'->bK K H' r (List.zipWith (λx y=>x+y) xs ys)->Q (.ref r) H')->FQ K vs H Q E9
inductive M8 (K:FG9) (vs:List V) (H:Hp) (Q:VK) (E9:XK):Prop
 | mk (u:V) (q:Addr) (c:Rat) (ys:List Rat):vs=[u,.ref q]->bO K H c u->i5 c->bK K H q ys->ys.9<=1000->(∀y∈ys,i5 y)->(∀r H',H r=none->aH H H'->bK K H' r (ys.map λy=>c*y)->Q (.ref r) H')->M8 K vs H Q E9
inductive zJ (K:FG9) (vs:List V) (H:Hp) (Q:VK) (E9:XK):Prop
 | mk (p:Addr) (H0:Hp) (rows:LR9):vs=[.ref p]->bu K H0 H p rows->rows.9<=1000->(∀xs∈rows,xs.9<=1000)->(∀r H',H r=none->aH H H'->bu K H H' r rows->Q (.ref r) H')->zJ K vs H Q E9
section
variable {K:FG9} {g:TG}
theorem dc {F:Hp->α->V->Prop} (G:Hp->β->V->Prop) (f:α->β) (hx:H a=some (.lst xs)) (pf:Paired (F H) as xs) (hl:as.9<=1000)
  (hF:∀{H H' c x},F H c x->aH H H'->F H' c x) (hG:∀{H H' c x},G H c x->aH H H'->G H' c x)
  (hs:∀(i:Nat) c x H' NY NN,as[i]?=some c->aH H H'->F H' c x->(∀y H2,aH H' H2->G H2 (f c) y->NY y H2)->rH σ₀ g tf te x H' NY NN)
  (hd:∀ys H' p,H p=none->aH H H'->H' p=some (.lst ys)->Paired (G H') (as.map f) ys->(∃H2,H2 p=none/\Paired (G H2) (as.map f) ys)->Q (.ref p) H'):rO (RD K a) σ₀ g tf te Q H:=by
 have lx:=pf.9;refine iu (K:=K) (xs:=xs) (λi ys H'=>aH H H'/\Paired (G H') ((as.take i).map f) ys) mR #[aH.refl _,.nil] (λi ys H' _ #[s,_]=>bC.of (s _ _ hx)) ?_ ?_
 ·rintro i x ys H' hx' hlen ⟨s,pr⟩;obtain c|ec|hc:=bW pf hx';refine hs i c x H' _ _ ec s (hF hc s) λy H2 s2 gy=>#[s.trans s2,?_]
  rw[take_snoc ec,cO];exact bM (Paired.imp' (λ_ _ z=>hG z s2) pr) (.cons gy .nil)
 ·rintro ys H' hy ⟨s,pr⟩ p hp;rw[aE ()] at pr;exact hd ys _ p (s.none hp) (s.trans (aH.new hp)) aK (Paired.imp' (λ_ _ z=>hG z (aH.new hp)) pr) #[H',hp,pr]
theorem jQ (G:Hp->β->V->Prop) (f:Nat->β) (hl:n<=1000) (hG:∀{H H' c x},G H c x->aH H H'->G H' c x)
  (hs:∀(i:Nat) H' NY NN,i < n->aH H H'->(∀y H2,aH H' H2->G H2 (f i) y->NY y H2)->rH σ₀ g tf te (.int i) H' NY NN)
  (hd:∀ys H' p,H p=none->aH H H'->H' p=some (.lst ys)->Paired (G H') ((List.range n).map f) ys->(∃H2,H2 p=none/\Paired (G H2) ((List.range n).map f) ys)->Q (.ref p) H'):rO (IM 0 n) σ₀ g tf te Q H:=by
 refine rC (λi ys H'=>aH H H'/\Paired (G H') ((List.range i).map f) ys) mR #[aH.refl _,.nil] ?_ ?_
 ·rintro i ys H' hi hlen ⟨s,pr⟩;rw[yZ];refine hs i H' _ _ hi s λy H2 s2 gy=>#[s.trans s2,?_]
  rw[Bg,cO];exact bM (Paired.imp' (λ_ _ z=>hG z s2) pr) (.cons gy .nil)
 ·rintro ys H' hy ⟨s,pr⟩ p hp;exact hd ys _ p (s.none hp) (s.trans (aH.new hp)) aK (Paired.imp' (λ_ _ z=>hG z (aH.new hp)) pr) #[H',hp,pr]
theorem xX (G:Hp->β->V->Prop) (C:β->Prop) (hB:ji H b) (hl:n<=1000) (hG:∀{H' H'' c x},G H' c x->cY b H' H''->ji H' b->G H'' c x)
  (hs:∀(i:Nat) H' NY NN,i < n->cY b H H'->ji H' b->(∀y c H2,cY b H' H2->ji H2 b->C c->G H2 c y->NY y H2)->rH σ₀ g tf te (.int i) H' NY NN)
  (hd:∀ys cs H' p,H p=none->cY b H H'->ji H' b->H' p=some (.lst ys)->cs.9=n->(∀c∈cs,C c)->Paired (G H') cs ys->(∃H2,H2 p=none/\Paired (G H2) cs ys)->Q (.ref p) H'):rO (IM 0 n) σ₀ g tf te Q H:=by
 refine rC (λi ys H'=>cY b H H'/\ji H' b/\∃cs,cs.9=i/\(∀c∈cs,C c)/\Paired (G H') cs ys) mR #[(aH.refl _).upto,hB,[],rfl,(λ_ z=>nomatch z),.nil] ?_ ?_
 ·rintro i ys H' hi hlen ⟨u,B,cs,lc,hc,pr⟩;rw[yZ];refine hs i H' _ _ hi u B λy c H2 u2 B2 cc gy=>#[u.trans u2,B2,cs++[c],by simp [lc],E7 hc cc,bM (Paired.imp' (λ_ _ z=>hG z u2 B) pr) (.cons gy .nil)]
 ·rintro ys H' hy ⟨u,B,cs,lc,hc,pr⟩ p hp;have s:aH H' (upd H' p (.lst ys)):=aH.new hp;exact hd ys cs _ p (u.none B hp) (u.same s) (B.same s) aK lc hc (Paired.imp' (λ_ _ z=>hG z s.upto B) pr) #[H',hp,pr]
end
theorem dO {g:TG} {tb:TS} {D:Ends} (Pv:Nat->St->Hp->Prop) (h0:Pv 0 σ H)
  (hs:∀(i:Nat) σ H,i < n->Pv i σ H->g (.int i) σ H λσ2 H2=>tb { D with nx:=Pv (i+1),ct:=Pv (i+1),bk:=D.nx } σ2 H2) (hd:∀σ H,Pv n σ H->D.nx σ H) :
  ∃W:Nat->Nat->St->Hp->Prop,(∃m,W 0 m σ H)/\∀i m σ H,W i m σ H →
   ((IM 0 n).stop i H/\D.nx σ H)\/((IM 0 n).go i H/\∃N:St->Hp->Prop,(∀σ' H',N σ' H'->∃m',m' < m/\W (i+1) m' σ' H')/\∀x H',(IM 0 n).yld i H x H'->g x σ H' λσ2 H2=>tb { D with nx:=N,ct:=N,bk:=D.nx } σ2 H2) :=
 C3 (lo:=0) Pv h0 (λi σ H hi p=>by rw[yZ];exact hs i σ H hi p) hd
theorem p5:o5 X (.type "int") (λxs H Q=>∃b:Bool,xs=[.bl b]/\Q (.int (if b=true then 1 else 0)) H):=by
 intro pins s σ H xs us Q I r h;obtain b|rfl|q:=h;obtain u|rfl|ru:=vals1 r;cases ru;exact call_int_bool #[.int _,H,I.tok _,#[_,rfl],q]
theorem BW (K:FG9) (hK:X.K=K):o5 X (.builtin "len") (λxs H Q=>∃p ys,xs=[.ref p]/\(bC K H p ys\/j8 K H p ys)/\Q (.int ys.9) H):=by subst hK;exact aR
theorem KA {st:Stmt}:PS X st (λ_ _ _=>False):=λ_ _ _ _ _ _ h=>h.elim
theorem Jz {t b:Int} (hb:0 < b) (h1:t.natAbs<=W) (h2:b.natAbs<=W):∃q:Rat,(lo t b,hi t b)=nm q/\Dr W q/\q*(b:Rat)=(t:Rat):=by
 have hb':(b:Rat)≠0:=λz=>by have:=yy.mp z;lia
 have e:(t:Rat) / (b:Rat)*(b:Rat)=t:=kd hb';have h:=mG hb e;refine #[_,h,#[?_,?_],e]
 ·have:=congrArg Prod.fst h;have z:=lo_le (t:=t) (b:=b) ();show ((nm ((t:Rat) / (b:Rat))).1).natAbs<=W
  rw[<- this];exact af z h1
 ·have:=congrArg Prod.snd h;have z:=Sf (t:=t) (b:=b) ();have hd:(((t:Rat) / (b:Rat)).den:Int)=hi t b:=this.symm;have hp:=Ex (t:=t) hb
  lia
theorem Eu {K:FG9} (h:Paired (bO K H) qs xs) (hj:j < qs.9):∃v,JT xs (j:Int)=some v/\bO K H (qs.getD j 0) v:=by
 have hl:=h.9;refine #[xs[j]'(),fJ (by simp),?_];have:=lQ h (i:=j) hj ();rwa [aa,ae hj]
theorem xU {xs ys:List Rat} (h1:i < xs.9) (h2:i < ys.9):bJ (xs.take (i+1)) (ys.take (i+1))=bJ (xs.take i) (ys.take i)+xs.getD i 0*ys.getD i 0:=by
 have e1:xs[i]?=some (xs.getD i 0):=by rw[aa,ae h1];rfl
 have e2:ys[i]?=some (ys.getD i 0):=by rw[aa,ae h2];rfl
 unfold bJ;rw[take_snoc e1,take_snoc e2,mX (by simp;lia),rX];simp [ke]
theorem getD_mem {xs:List Rat} (h:i < xs.9):xs.getD i 0∈xs:=by
 rw[aa,ae h];exact aF h
theorem Co {xs ys:List Rat} (h:ys.9=xs.9):List.zipWith (λx y=>x+y) xs ys=(List.range xs.9).map λi=>xs.getD i 0+ys.getD i 0:=by
 apply jk;intro i;rw[bp,aB];by_cases hi:i < xs.9
 ·rw[cB hi,ae hi,ae (show i < ys.9 by lia)];simp [aa,ae hi,ae (show i < ys.9 by lia)]
 ·rw[aP (show (List.range xs.9).9<=i by simp;lia),aP (show xs.9<=i by lia)];rfl
theorem dq.updL {K:FG9} (h:dq K H0 H qs x) (hl:H l=some (.lst ys)) (nl:H0 l≠none):dq K H0 (upd H l o) qs x:=by obtain q|a|b|c:=h;exact #[q,a,b,c.updL hl λz=>nl (by rw[<- z];exact b)]
theorem ji.at (B:ji H b):H b≠none:=by obtain _|_|_|_|_|e|_:=B;rw[e];simp
theorem Inner.at (B:ji H b) (i:Inner H b q):H q≠none:=by
 obtain q'|i'|xs|e:=B.inner;rw[<- Inner.inj i' i,e];simp
theorem fu {F:α->β->Prop} {l1:List α} {l2:List β} (h:Paired F l1 l2) (hi:i < l1.9):∃x y,l1[i]?=some x/\l2[i]?=some y/\x∈l1/\F x y:=by
 have hl:=h.9;exact #[l1[i],l2[i]'(),by simp,by simp,aF _,lQ h hi ()]
section
variable {α β:Type} [DecidableEq α] [DecidableEq β] (k1:Kind α) (k2:Kind β)
theorem xi {X:Cx} {pins:List (Addr×Obj)} {σ:St} {H:Hp} {s:Shared} {A:Around} (I:Inv X pins σ H s) (h1:A.units+k1.d < cLine) (h2:A.units+k2.d < cLine) {x y z w:V} {us ws:List Value} {a b:α×β}
  (rx:cS [x,y] us) (ry:cS [z,w] ws) (a1:k1.R X.K H x a.1) (a2:k2.R X.K H y a.2) (b1:k1.R X.K H z b.1) (b2:k2.R X.K H w b.2) :
  ∀j (h1:j < us.5.7) (h2:j < ws.5.7),SeqAt.EqAt A s us.5[j] ws.5[j] (if j=0 then decide (a.1=b.1) else decide (a.2=b.2)):=λj l1 l2=>by
 obtain u1|u2|rfl|r1|r2:=vals2 rx;obtain w1|w2|rfl|q1|q2:=vals2 ry;have hj:j < 2:=by simpa using l1
 rcases bZ j 1 with h | h
 ·have e:j=0:=()
  subst e;exact k1.eq (A:=A) I r1 q1 a1 b1 h1
 ·have e:j=1:=()
  subst e;exact k2.eq (A:=A) I r2 q2 a2 b2 h2
theorem Dy {a b:α×β}:(List.range 2).all (λj=>if j=0 then decide (a.1=b.1) else decide (a.2=b.2))=decide (a=b):=by
 have e:List.range 2=[0,1]:=rfl;rw[e];simp only[IJ,List.all_nil,Bool.and_true,if_true,Nat.one_ne_zero,if_false];rw[<- Bh];exact decide_eq_decide.mpr #[λ#[h1,h2]=>Prod.ext h1 h2,λh=>by rw[h];exact #[rfl,rfl]]
def Vw:Kind (α×β) where
 R:=λK H x a=>∃p u v,x=.ref p/\j8 K H p [u,v]/\k1.R K H u a.1/\k2.R K H v a.2
 d:=max k1.d k2.d+1
 inj:=λ{X pins σ H s x a b} I h1 h2=>by
  obtain p|u|v|rfl|hp|a1|a2:=h1;obtain q|u'|v'|e|hq|b1|b2:=h2;cases e;have e:=I.tuple_inj hp hq;cases e;exact Prod.ext (k1.inj I a1 b1) (k2.inj I a2 b2)
 rc:=λ{X pins σ H s x y v u a b A} I rx ry h1 h2 hA=>by
  obtain p|x1|x2|rfl|hp|a1|a2:=h1;obtain q|y1|y2|rfl|hq|b1|b2:=h2;cases rx;cases ry;obtain us|r1|t1|_:=I.tuple hp;obtain ws|r2|t2|_:=I.tuple hq;have l1:=r1.9;have l2:=r2.9;have z:=SeqAt.RcAt.tuples (A:=A) (e:=λj=>if j=0 then decide (a.1=b.1) else decide (a.2=b.2)) (show s.heap.IsTuple p us.toArray from t1) (show s.heap.IsTuple q ws.toArray from t2) () (xi k1 k2 (A:=A.in1) I (by show A.units+1+k1.d < cLine;lia) (by show A.units+1+k2.d < cLine;lia) r1 r2 a1 a2 b1 b2);have e1:us.5.7=2:=by rw[aG,<- l1];rfl
  have e2:ws.5.7=2:=by rw[aG,<- l2];rfl
  rw[e1,e2,eF,Dy] at z;simpa using z
 ne:=λ{X pins σ H s x y v u a b A} I rx ry h1 h2 hA=>by
  obtain p|x1|x2|rfl|hp|a1|a2:=h1;obtain q|y1|y2|rfl|hq|b1|b2:=h2;cases rx;cases ry;obtain us|r1|t1|_:=I.tuple hp;obtain ws|r2|t2|_:=I.tuple hq;have l1:=r1.9;have l2:=r2.9;have z:=SeqAt.RcNeAt.tuples (A:=A) (e:=λj=>if j=0 then decide (a.1=b.1) else decide (a.2=b.2)) (show s.heap.IsTuple p us.toArray from t1) (show s.heap.IsTuple q ws.toArray from t2) () (xi k1 k2 (A:=A.in1) I (by show A.units+1+k1.d < cLine;lia) (by show A.units+1+k2.d < cLine;lia) r1 r2 a1 a2 b1 b2);have e1:us.5.7=2:=by rw[aG,<- l1];rfl
  have e2:ws.5.7=2:=by rw[aG,<- l2];rfl
  rw[e1,e2,eF,Dy] at z;simpa using z
 eq:=λ{X pins σ H s x y v u a b A} I rx ry h1 h2 hA=>by
  obtain p|x1|x2|rfl|hp|a1|a2:=h1;obtain q|y1|y2|rfl|hq|b1|b2:=h2;cases rx;cases ry;by_cases e:p=q
  ·subst e;have e:=I.tuple_inj hp hq;cases e;have e2:a=b:=Prod.ext (k1.inj I a1 b1) (k2.inj I a2 b2);rw[decide_eq_true e2];exact SeqAt.EqAt.same _
  ·obtain us|r1|t1|_:=I.tuple hp;obtain ws|r2|t2|_:=I.tuple hq;have l1:=r1.9;have l2:=r2.9;have z:=SeqAt.RcAt.tuples (A:=A) (e:=λj=>if j=0 then decide (a.1=b.1) else decide (a.2=b.2)) (show s.heap.IsTuple p us.toArray from t1) (show s.heap.IsTuple q ws.toArray from t2) () (xi k1 k2 (A:=A.in1) I (by show A.units+1+k1.d < cLine;lia) (by show A.units+1+k2.d < cLine;lia) r1 r2 a1 a2 b1 b2);have e1:us.5.7=2:=by rw[aG,<- l1];rfl
   have e2:ws.5.7=2:=by rw[aG,<- l2];rfl
   rw[e1,e2,eF,Dy] at z;exact .of_refs e (by simpa using z)
end
theorem E4 (h1:-(2^64) < i) (h2:i < 2^64):fZ i j:=.inl (.inl #[h1,h2])
theorem Q3 (h1:-(2^64) < j) (h2:j < 2^64):fZ i j:=.inl (.inr #[h1,h2])
def UH (K : FG9) (l : Addr) : It :=
  #[λi H => ∃ xs x, bC K H l xs /\ xs[i]? = some x,
   λi H v H' => ∃ p x, v = .ref p /\ H p = none /\ H' = upd H p (.tup [.int i, x]) /\ ∀ xs, bC K H l xs → xs[i]? = some x,
   λi H => ∃ xs, bC K H l xs /\ xs.9 ≤ i]
def tnE (e it l:Addr) (i:Nat) (h:Heap):Prop:=(∃old,IsEnum h e it i old)/\h.IsListIter it l i
theorem Ll {P:Program} {w:World} {K:FG9} {elts:List Expr} {kk:Nat} {tpos:Pos} (e it l:Addr) (hei:e≠it):Turn P w K (.Tuple elts kk tpos) (UH K l) [e,it] e (tnE e it l) where
 mem:=by simp
 obj:=λi h st b hb=>by
  obtain ⟨old,he⟩|⟨o1,g1,c1,d1⟩:=st;simp only[aD,aO,or_false] at hb;rcases hb with rfl | rfl
  ·exact #[_,he,λv q=>nomatch q]
  ·exact #[o1,g1,λv q=>by rw[d1] at q;cases q]
 keep:=λi h h' st k=>by
  obtain ⟨old,he⟩|h1:=st;exact #[#[old,k e (by simp) _ he],h1.at λo q=>k it (by simp) o q]
 item:=by
  intro X hP hw hK hc i pins s σ H E I hf st hg;subst hP hw hK;obtain ⟨old,he⟩|h1:=st;obtain xs|x|qx|ex:=hg;obtain us|rx|px|_:=I.list qx;obtain u|eu|ru:=rx.get ex;refine wpAny_pyNext_enum_item he h1 px.isList (x:=u) (by simpa using eu) hei λh' a1 a2 a3 a4 hk=>?_
  refine #[_,rfl,wpAny_letOwnedTupleGo_enum a1 λh'' he'' hs=>?_];have hT0:H s.6=none:=I.hok.fresh (ah _);have ene:s.6≠e:=Lh (Heap.lt_size he)
  have up:∀b o,b∉[e,it]->s.heap.get? b=some o->h''.get? b=some o:=λb o hb q=>by
   simp only[aD,aO,or_false,not_or] at hb;exact (hs.2 b hb.1).trans (hk b o hb.1 hb.2 q)
  have tup:h''.get? s.6=some { cls:=.type "tuple",data:=.seq [.int i s.toks,u].toArray }:=(hs.2 _ ene).trans a3;have I1:Inv X pins σ H { s with heap:=h'',toks:=s.toks+1 }:=I.moved (g':=s.gens) (d':=s.drawn) (t':=s.toks+1) (ch:=[e,it]) hf up I.bare;have fT:lY X pins H s.6:=I.fpOk (ah _) hT0;have I2:=I1.track (o:=.tup [.int i,x]) fT #[kE rfl,[.int i s.toks,u],.cons #[_,rfl] (.cons ru .nil),#[_,tup,rfl,_,rfl]];refine #[.ref s.6,_,I2,rfl,#[_,x,rfl,hT0,rfl,λxs' q=>by rw[I.list_inj q qx];exact ex],?_,λb hb=>?_]
  ·exact #[#[_,by simpa using he''],a2.at λo q=>(hs.2 _ hei.symm).trans q]
  ·rw[bG]
   ·exact (hf b hb).1
   ·obtain o1|g1|_:=h1;simp only[aD,aO,or_false] at hb;rcases hb with rfl | rfl
    ·exact ene.symm
    ·exact cg (Heap.lt_size g1)
 done:=by
  intro X hP hw hK hc i pins s σ H E I hf st hg;subst hP hw hK;obtain ⟨old,he⟩|h1:=st;obtain xs|qx|hend:=hg;obtain us|rx|px|_:=I.list qx;have lx:=rx.9;refine wpAny_pyNext_enum_end (I.ok.hd hc) he h1 px.isList (by simp;lia) λh' hk=>#[rfl,?_]
  exact I.moved (g':=s.gens) (d':=s.drawn) (t':=s.toks) (ch:=[e,it]) hf (λb o hb q=>hk b o (λz=>hb (by simp [z])) q) I.bare
 self:=λ_ _ _ _ _ st h=>let ⟨⟨_,he⟩,_⟩:=st;wpAny_pyIter_enum he h
section
variable {X:Cx}
def Se (K:FG9) (ta:TA):TI:=λσ H R=>ta σ H λvs H1=>∃l,vs=[.ref l]/\(∃xs,bC K H1 l xs)/\R (UH K l) H1
theorem Qt {a:Expr} {ta:TA} {p pos tpos:Pos} {elts:List Expr} {kk:Nat} (hg:Gl X "enumerate") (hm:X.mg "enumerate"=none) (ha:PA X [a] ta) (hs:starEach [a] X.env=[(false,eval a X.env)]:=by rfl) :
  PI X (.Tuple elts kk tpos) (.Call (.Name "enumerate" p) [a] [] pos) (Se X.K ta):=by
 intro pins s σ H R I h;refine Call_ (k9 I hg hm boot_enumerate (PyProof.Rows.callWith_type1 (iI (ha pos pins s σ H _ I h) λus s1 #[vs,H1,I1,r1,q1]=>?_) (by rw[hs];rfl) rfl));obtain l|e|⟨xs,qx⟩|q:=q1;subst e;obtain u|rfl|ru:=vals1 r1;cases ru;obtain us|rx|px|_:=I1.list qx;refine call_enumerate_list px.isList λh' a1 a2 a3 hk=>wpAny_pyIter_enum a1 ?_
 have I2:Inv X pins σ H1 { s1 with heap:=h' }:=I1.kept (t':=s1.toks) hk;refine #[_,[s1.6+1,s1.6],_,_,H1,rfl,I2,Ll (s1.6+1) s1.heap.objs.size l (Nat.succ_ne_self _),#[#[_,a1],a2],λb hb=>?_,q]
 have hb':s1.6<=b:=by
  simp only[aD,aO,or_false] at hb;rcases hb with rfl | rfl <;> first | exact oI _ | exact ah _
 exact I1.fpOk hb' (I1.hok.fresh hb')
end
theorem Nv {K:FG9} (h:ta σ H λvs H1=>∃l,vs=[.ref l]/\(∃xs,bC K H1 l xs)/\R (UH K l) H1):Se K ta σ H R:=h
theorem Ov {K:FG9} {g:TG} {tb:TS} {D:Ends} (Pv:Nat->St->Hp->Prop) (h0:Pv 0 σ H) (hl:∀i σ H,i<=xs.9->Pv i σ H->bC K H l xs)
  (hs:∀i x σ H p,xs[i]?=some x->Pv i σ H->H p=none->g (.ref p) σ (upd H p (.tup [.int i,x])) λσ2 H2=>tb { D with nx:=Pv (i+1),ct:=Pv (i+1),bk:=D.nx } σ2 H2) (hd:∀σ H,Pv xs.9 σ H->D.nx σ H) :
  ∃W:Nat->Nat->St->Hp->Prop,(∃m,W 0 m σ H)/\∀i m σ H,W i m σ H →
   ((UH K l).stop i H/\D.nx σ H)\/((UH K l).go i H/\∃N:St->Hp->Prop,(∀σ' H',N σ' H'->∃m',m' < m/\W (i+1) m' σ' H')/\∀x H',(UH K l).yld i H x H'->g x σ H' λσ2 H2=>tb { D with nx:=N,ct:=N,bk:=D.nx } σ2 H2):=by
 refine #[λi m σ H=>m=xs.9 - i/\i<=xs.9/\Pv i σ H,#[xs.9,by simp,aW _,h0],?_];rintro i m σ H ⟨rfl,hi,p⟩;have q1:=hl i σ H hi p;by_cases hlt:i < xs.9
 ·refine .inr #[#[xs,xs[i],q1,by simp [hlt]],Pv (i+1),λσ' H' p'=>#[xs.9 - (i+1),(),rfl,hlt,p'],λx H' y=>?_];obtain r|x'|rfl|hr|rfl|e1:=y;exact hs i x' σ _ r (e1 xs q1) p hr
 ·have e:i=xs.9:=()
  subst e;exact .inl #[#[xs,q1,ah _],hd σ H p]
section
variable {X:Cx}
theorem KG (K:FG9) {e:Expr} {f:Str} {pos:Pos} {ta:TE} (he:PE X e ta) (hb:attributeBase e f X.env (eval e X.env)=eval e X.env) (hK:X.K=K:=by rfl):PE X (.Attribute e f pos) (SK K ta f):=by subst hK;exact jX he hb
end
theorem Tr {K:FG9} (h:ta σ H λx H1=>∃a C dx fs v,x=.ref a/\H1 a=some (.ins C dx fs)/\MG K C/\lC K C f/\fs.lookup f=some v/\Q v H1):SK K ta f σ H Q:=h
theorem PU {K:FG9} (h:tv σ H λy H1=>ta σ H1 λx H2=>∃a C dx fs,x=.ref a/\H2 a=some (.ins C dx fs)/\MG K C/\lC K C f/\fs.9 < 1000 /\
 D.nx σ (upd H2 a (.ins C dx (cE f y fs)))):U8 K ta tv f D σ H:=h
theorem P0 (h:ta σ H λx H1=>∃a dx fs,x=.ref a/\H1 a=some (.ins C dx fs)/\fs.lookup m=none /\
 t σ H1 λvs H2=>sp (x :: vs) H2 Q E):RM C m sp [] E ta t σ H Q:=by
 have e:(λ(x:V) H1=>∃a dx fs,x=.ref a/\H1 a=some (.ins C dx fs)/\fs.lookup m=none/\t σ H1 λvs H2=>sp (x :: (vs++[])) H2 Q E)=λx H1=>∃a dx fs,x=.ref a/\H1 a=some (.ins C dx fs)/\fs.lookup m=none/\t σ H1 λvs H2=>sp (x :: vs) H2 Q E:=by
  funext x H1;simp only[rZ]
 show ta σ H (λ(x:V) H1=>∃a dx fs,x=.ref a/\H1 a=some (.ins C dx fs)/\fs.lookup m=none/\t σ H1 λvs H2=>sp (x :: (vs++[])) H2 Q E)
 rw[e];exact h
theorem P2 (h:t σ H λvs H1=>∀x dx,H1 x=none->H1 dx=none->dx≠x →
 sp (.ref x :: vs) (upd (upd H1 dx (.own x)) x (.ins C dx [])) (λv H2=>v=.non/\Q (.ref x) H2) E):RN C sp [] E t σ H Q:=by
 have e:(λvs (H1:Hp)=>∀x dx,H1 x=none->H1 dx=none->dx≠x->sp (.ref x :: (vs++[])) (upd (upd H1 dx (.own x)) x (.ins C dx [])) (λv H2=>v=.non/\Q (.ref x) H2) E)=λvs H1=>∀x dx,H1 x=none->H1 dx=none->dx≠x->sp (.ref x :: vs) (upd (upd H1 dx (.own x)) x (.ins C dx [])) (λv H2=>v=.non/\Q (.ref x) H2) E:=by
  funext vs H1;simp only[rZ]
 show t σ H (λvs (H1:Hp)=>∀x dx,H1 x=none->H1 dx=none->dx≠x->sp (.ref x :: (vs++[])) (upd (upd H1 dx (.own x)) x (.ins C dx [])) (λv H2=>v=.non/\Q (.ref x) H2) E)
 rw[e];exact h
def Fx (x:Addr) (H H':Hp):Prop:=∀b o,H b=some o->b≠x->H' b=some o
theorem Fx.upd:Fx x H (L2.upd H x o):=λb u h n=>by rw[bG n];exact h
def uY (H:Hp) (x:Addr):Prop:=∃C dx fs,H x=some (.ins C dx fs)
section
variable {K:FG9}
theorem bO.exc (h:bO K H q v) (e:Fx x H H') (hx:uY H x):bO K H' q v:=by
 obtain C|dx|fs|hx:=hx;obtain r|er|s:=h;refine #[r,er,?_];rcases s with (h | ⟨o,h⟩) | h
 ·exact .inl (.inl (e _ _ h λz=>by rw[z,hx] at h;cases h))
 ·exact .inl (.inr #[o,e _ _ h λz=>by rw[z,hx] at h;cases h])
 ·exact .inr h
theorem bK.exc (h:bK K H p qs) (e:Fx x H H') (hx:uY H x):bK K H' p qs:=by
 obtain xs|g|r:=h;have hx':=hx;obtain C|dx|fs|hx:=hx;exact #[xs,e _ _ g (λz=>by rw[z,hx] at g;cases g),Paired.imp' (λ_ _ z=>z.exc e hx') r]
theorem dq.exc (h:dq K H0 H qs v) (e:Fx x H H') (hx:uY H x):dq K H0 H' qs v:=by obtain q|a|b|c:=h;exact #[q,a,b,c.exc e hx]
theorem bu.exc (h:bu K H0 H p rows) (e:Fx x H H') (hx:uY H x):bu K H0 H' p rows:=by
 obtain xs|g|r|n:=h;have hx':=hx;obtain C|dx|fs|hx:=hx;exact #[xs,e _ _ g (λz=>by rw[z,hx] at g;cases g),Paired.imp' (λ_ _ z=>z.exc e hx') r,n]
end
def rJ (a b c:Addr) (n i o:Nat):List (Str×V):=cE "outs" (.int o) (cE "look" (.ref c) (cE "ins" (.int i) (cE "put" (.ref b) (cE "states" (.int n) (cE "move" (.ref a) [])))))
theorem Pn:(rJ a b c n i o).lookup ("ins":Str)=some (.int i):=by
 unfold rJ;rw[bH,if_neg (by decide +kernel),bH,if_neg (by decide +kernel),bH,if_pos rfl]
theorem DD:(rJ a b c n i o).lookup ("put":Str)=some (.ref b):=by
 unfold rJ;rw[bH,if_neg (by decide +kernel),bH,if_neg (by decide +kernel),bH,if_neg (by decide +kernel),bH,if_pos rfl]
theorem oa:(rJ a b c n i o).lookup ("states":Str)=some (.int n):=by
 unfold rJ;rw[bH,if_neg (by decide +kernel),bH,if_neg (by decide +kernel),bH,if_neg (by decide +kernel),bH,if_neg (by decide +kernel),bH,if_pos rfl]
theorem FK:(rJ a b c n i o).lookup ("move":Str)=some (.ref a):=by
 unfold rJ;rw[bH,if_neg (by decide +kernel),bH,if_neg (by decide +kernel),bH,if_neg (by decide +kernel),bH,if_neg (by decide +kernel),bH,if_neg (by decide +kernel),bH,if_pos rfl]
theorem SM {m:Str} (h1:¬m="outs") (h2:¬m="look") (h3:¬m="ins") (h4:¬m="put") (h5:¬m="states") (h6:¬m="move"):(rJ a b c n i o).lookup m=none:=by
 unfold rJ;rw[bH,if_neg h1,bH,if_neg h2,bH,if_neg h3,bH,if_neg h4,bH,if_neg h5,bH,if_neg h6];rfl
theorem Lm:(rJ a b c n i o).lookup ("moved":Str)=none:=SM (by decide +kernel) (by decide +kernel) (by decide +kernel) (by decide +kernel) (by decide +kernel) (by decide +kernel)
theorem fB {k:Str} {v:V}:∀{l:List (Str×V)},(cE k v l).9<=l.9+1
 | []=>ah _
 | (x,y) :: r=>by
  unfold cE
  split
  ·simp
  ·have:=fB (k:=k) (v:=v) (l:=r);simp only[a8]
   lia
structure eU (mv pt lk:LR9):Prop where
 n8:mv.9<=8
 i4:pt.9<=4
 o4:lk.9<=4
 mw:∀xs∈mv,xs.9=mv.9
 pw:∀xs∈pt,xs.9=mv.9
 lw:∀xs∈lk,xs.9=mv.9
def Dn (mv pt lk:LR9):Prop:=∃M V:Nat,0 < M/\M<=2^800/\V<=2^400/\GF M V mv/\GF M V pt/\GF M V lk
def mS (K:FG9) (H0 H:Hp) (C p:Addr) (mv pt lk:LR9):Prop:=∃dx a b c,H p=some (.ins C dx (rJ a b c mv.9 pt.9 lk.9))/\H0 a=none/\H0 b=none/\H0 c=none/\bu K H0 H a mv/\bu K H0 H b pt/\bu K H0 H c lk
section
variable {K:FG9}
theorem mS.same (h:mS K H0 H C p mv pt lk) (e:aH H H'):mS K H0 H' C p mv pt lk:=by obtain dx|a|b|c|g|n1|n2|n3|g1|g2|g3:=h;exact #[dx,a,b,c,e _ _ g,n1,n2,n3,g1.same e,g2.same e,g3.same e]
theorem mS.upto (h:mS K H0 H C p mv pt lk) (u:cY b H H') (B:ji H b) (nb:H0 b≠none):mS K H0 H' C p mv pt lk:=by
 obtain dx|a|b'|c|g|n1|n2|n3|g1|g2|g3:=h;refine #[dx,a,b',c,u.other (λz=>by obtain _|_|_|_|_|e|_:=B;rw[z,e] at g;cases g) g,n1,n2,n3,g1.upto u B (λz=>nb (by rw[<- z];exact n1)) nb,g2.upto u B (λz=>nb (by rw[<- z];exact n2)) nb,g3.upto u B (λz=>nb (by rw[<- z];exact n3)) nb]
theorem mS.weak (h:mS K H0 H C p mv pt lk) (e:aH H1 H0):mS K H1 H C p mv pt lk:=by obtain dx|a|b|c|g|n1|n2|n3|g1|g2|g3:=h;exact #[dx,a,b,c,g,e.none n1,e.none n2,e.none n3,g1.weak e,g2.weak e,g3.weak e]
theorem Dn.fits (h:Dn mv pt lk) (hl:∀x∈l,(∃xs∈mv,x∈xs)\/(∃xs∈pt,x∈xs)\/(∃xs∈lk,x∈xs)\/x=0):Fits l:=by
 obtain M|V|h0|h1|h2|h3|h4|h5:=h;refine #[M,V,h0,af h1 (ak () ()),af h2 (ak () ()),λx hx=>?_];rcases hl x hx with ⟨xs,a,b⟩ | ⟨xs,a,b⟩ | ⟨xs,a,b⟩ | rfl
 ·exact h3 xs a x b
 ·exact h4 xs a x b
 ·exact h5 xs a x b
 ·exact Fr.zero
end
def Ln:Sp:=λvs H Q _=>∃i:Int,vs=[.int i]/\Q (.bl true) H
def Lq (K:FG9):Sp:=λvs H Q _=>∃x n,vs=[x]/\xa K H x n/\yv n/\∀H',aH H H'->Q (.bl true) H'
inductive Kk (vs:List V) (H:Hp) (Q:VK) (E9:XK):Prop
 | mk (p:Addr) (xs:List V) (a m:Int):vs=[.ref p,.int a,.int m]->H p=some (.lst xs)->(xs.9:Int)<=m->Q .non H->Kk  vs H Q E9
inductive Kt (K:FG9) (vs:List V) (H:Hp) (Q:VK) (E9:XK):Prop
 | mk (p:Addr) (H0:Hp) (rows:LR9) (w:Nat):vs=[.ref p,.int w]->bu K H0 H p rows->rows.9<=1000->w<=1000->((∀xs∈rows,xs.9=w/\∀x∈xs,yv (nm x)))->(∀r H',H r=none->aH H H'->bu K H H' r rows->Q (.ref r) H')->Kt K vs H Q E9
def UI (rows:LR9):Prop:=∀xs∈rows,∀x∈xs,yv (nm x)
inductive Ko (K:FG9) (C:Addr) (vs:List V) (H:Hp) (Q:VK) (E9:XK):Prop
 | mk (x dx p q r:Addr) (Hb H0 H1 H2:Hp) (mv pt lk:LR9):vs=[.ref x,.ref p,.ref q,.ref r]->Hb x=none->Hb dx=none->dx≠x->H=upd (upd Hb dx (.own x)) x (.ins C dx [])->bu K H0 Hb p mv->bu K H1 Hb q pt->bu K H2 Hb r lk->eU mv pt lk->UI mv->UI pt->UI lk->(∀H',aH Hb H'->mS K Hb H' C x mv pt lk->Q .non H')->Ko K C vs H Q E9
def ja (mv pt:LR9) (st pu:List Rat):List Rat:=List.zipWith (λline col=>bJ (line++col) (st++pu)) mv (cv pt mv.9)
theorem Dn.ok (h:Dn mv pt lk):UI mv/\UI pt/\UI lk :=
 #[λxs hx x hx'=>(h.fits (l:=xs) λy hy=>.inl #[xs,hx,hy]).ok hx',λxs hx x hx'=>(h.fits (l:=xs) λy hy=>.inr (.inl #[xs,hx,hy])).ok hx',λxs hx x hx'=>(h.fits (l:=xs) λy hy=>.inr (.inr (.inl #[xs,hx,hy]))).ok hx']
def iU (K:FG9) (A:Addr->Prop) (H:Hp) (n:Nat) (C:Rat->Prop) (x:V):Prop:=∃q qs,x=V.ref q/\A q/\bK K H q qs/\qs.9=n/\∀y∈qs,C y
section
variable {K:FG9} {A A':Addr->Prop} {H H' H0:Hp} {n:Nat} {C C':Rat->Prop} {x v:V} {q b l p:Addr} {xs zs:List V} {y:Rat} {o:HO}
theorem iU.same (h:iU K A H n C x) (e:aH H H'):iU K A H' n C x:=by obtain q|qs|a|c|r|z:=h;exact #[q,qs,a,c,r.same e,z]
theorem iU.upto (h:iU K A H n C x) (u:cY b H H') (B:ji H b) (nb:¬A b):iU K A H' n C x:=by obtain q|qs|a|c|r|z:=h;exact #[q,qs,a,c,r.upto u B (λe=>nb (by rw[<- e];exact c)),z]
theorem iU.other (h:iU K A H n C x) (hl:H l=some (.lst zs)) (nl:¬A l):iU K A (upd H l o) n C x:=by obtain q|qs|a|c|r|z:=h;exact #[q,qs,a,c,r.updL hl (λe=>nl (by rw[<- e];exact c)),z]
theorem iU.weak (h:iU K A H n C x) (w:∀q,A q->A' q) (wc:∀y,C y->C' y):iU K A' H n C' x:=by obtain q|qs|a|c|r|l|z:=h;exact #[q,qs,a,w q c,r,l,λy hy=>wc y (z y hy)]
theorem vD {α β:Type} {F:α->β->Prop} {a:α} {b:β} (h:F a b):∀{l1:List α} {l2:List β} (j:Nat),Paired F l1 l2->Paired F (l1.set j a) (l2.set j b)
 | _,_,_,.nil=>.nil
 | _,_,0,.cons _ t=>.cons h t
 | _,_,j+1,.cons r t=>.cons r (vD h j t)
theorem iU.put (h:iU K A H n C x) (hq:H q=some (.lst zs)) (hv:bO K H y v) (hc:C y) (j:Nat):iU K A (upd H q (.lst (zs.set j v))) n C x:=by
 obtain q1|qs|rfl|a|⟨zs1,g1,pr⟩|l1|c1:=h;by_cases e:q1=q
 ·subst e;rw[hq] at g1;cases g1;refine #[q1,qs.set j y,rfl,a,#[_,aK,vD (hv.updL hq) j (Paired.imp' (λ_ _ z=>z.updL hq) pr)],by rw[eH];exact l1,λz hz=>?_];rcases cx hz with hz | rfl
  ·exact c1 z hz
  ·exact hc
 ·exact #[q1,qs,rfl,a,#[zs1,by rw[bG e];exact g1,Paired.imp' (λ_ _ z=>z.updL hq) pr],l1,c1]
theorem iU.at (h:iU K A H n C x):∃q zs qs,x=V.ref q/\A q/\H q=some (.lst zs)/\zs.9=n/\Paired (bO K H) qs zs/\qs.9=n/\∀y∈qs,C y:=by obtain q|qs|a|c|⟨zs,g,pr⟩|l|z:=h;exact #[q,zs,qs,a,c,g,by rw[<- pr.9];exact l,pr,l,z]
end
theorem ui {i:Int} (h:i.natAbs<=W) (hW:1<=W):Dr W (i:Rat):=#[h,hW]
def VT (K:FG9) (A:Addr->Prop) (H:Hp) (n:Nat) (C:Rat->Prop) (p:Addr) (m:Nat):Prop:=∃us,H p=some (.lst us)/\us.9=m/\¬A p/\∀x∈us,iU K A H n C x
structure J9 (A:Addr->Prop) (m p l b q0:Addr):Prop where
 am:¬A m
 ap:¬A p
 al:¬A l
 ab:¬A b
 aq:¬A q0
 mb:m≠b
 pb:p≠b
 lb:l≠b
 mp:m≠p
 ml:m≠l
 mq:m≠q0
theorem KY {M:Nat} {z:Int} (h:z.natAbs<=2):Fr 1 2 (z:Rat):=Fr.int h
theorem Ez {z:Int} (hz:z.natAbs<=2) (ha:Fr M W a) (hc:Fr M W c):Fr M (3*W) (a+(z:Rat)*c):=by
 have h:=(KY (M:=M) hz).mul hc;rw[rS] at h;exact (ha.add h).mono ()
theorem DC {z:Int} (h:z.natAbs<=1000):i5 (z:Rat):=JG (M:=1) (V:=1000) () (b8) (af (show 1000<=2^10 by decide) (ak () ())) (Fr.int h)
theorem zh {z:Int} (hz:z.natAbs<=2) (hc:Fr M W c) (h0:0 < M) (h1:M<=2^800) (hW:W<=2^140):i5 ((z:Rat)*c):=by
 have h:=(KY (M:=M) hz).mul hc;rw[rS] at h;refine JG h0 (af h1 (ak () ())) (af (au 2 hW) ?_) h;rw[show 2*2^140=2^141 by rw[ft,bQ]];exact ak () ()
def jT (A:Addr->Prop) (b m:Addr) (H H':Hp):Prop:=∀c u,H c=some u->c≠b->¬A c->c≠m->H' c=some u
theorem jT.same (h:jT A b m H H1) (s:aH H1 H2):jT A b m H H2:=λc u e n1 n2 n3=>s _ _ (h c u e n1 n2 n3)
theorem jT.upto (h:jT A b m H H1) (s:cY b H1 H2):jT A b m H H2:=λc u e n1 n2 n3=>s.1 _ _ (h c u e n1 n2 n3) n1
theorem jT.upd (h:jT A b m H H1) (hq:A q\/q=m):jT A b m H (L2.upd H1 q o):=λc u e n1 n2 n3=>by
 rw[bG]
 ·exact h c u e n1 n2 n3
 ·rintro rfl;rcases hq with hq | hq
  ·exact n2 hq
  ·exact n3 hq
theorem jT.new (h:jT A b m H H1) (hA:∀q,H q=none->A q) (B:ji H1 b) (hm:H1 m≠none) (hr:H1 r=none):A r:=by
 by_cases z:A r
 ·exact z
 ·cases e:H r with
  | none=>exact hA r e
  | some u =>
   have:=h r u e (λy=>B.at (by rw[<- y];exact hr)) z (λy=>hm (by rw[<- y];exact hr));rw[hr] at this;cases this
structure Lf (K:FG9) (A:Addr->Prop) (n:Nat) (C:Rat->Prop) (r p b q0:Addr) (us:List V) (H0 H:Hp):Prop where
 gr:H r=some (.lst us)
 ru:∀x∈us,iU K A H n C x
 rp:iU K A H n C (.ref p)
 bag:ji H b
 inn:Inner H b q0
 up:cY b H0 H
section
variable {K:FG9}
theorem Lf.same (h:Lf K A n C r p b q0 us H0 H) (e:aH H H'):Lf K A n C r p b q0 us H0 H':=#[e _ _ h.gr,λx hx=>(h.ru x hx).same e,h.rp.same e,h.bag.same e,(e.upto (p:=b)).2 _ h.inn,h.up.same e]
theorem Lf.upto (h:Lf K A n C r p b q0 us H0 H) (u:cY b H H') (B:ji H' b) (nb:¬A b) (rb:r≠b):Lf K A n C r p b q0 us H0 H':=#[u.other rb h.gr,λx hx=>(h.ru x hx).upto u h.bag nb,h.rp.upto u h.bag nb,B,u.2 _ h.inn,h.up.trans u]
theorem Lf.put (h:Lf K A n C r p b q0 us H0 H) (ap:A p) (nr:¬A r) (nb:¬A b) (nq:¬A q0) (hp:H0 p=none) (hv:bO K H y v) (hc:C y) (j:Nat):∃zs,H p=some (.lst zs)/\zs.9=n/\Lf K A n C r p b q0 us H0 (upd H p (.lst (zs.set j v))):=by
 obtain q|zs|qs|e|a|g|l|_:=h.rp.at;cases e;have ne:∀{z},¬A z->z≠p:=λh e=>h (by rw[e];exact ap)
 exact #[zs,g,l,by rw[bG (ne nr)];exact h.gr,λx hx=>(h.ru x hx).put g hv hc j,h.rp.put g hv hc j,h.bag.upd h.inn (ne nb).symm (ne nq).symm,h.inn.upd (ne nb).symm,h.up.after hp]
end
theorem Aa {K:FG9} (h:∀x∈us,iU K A H n C x):∃rows:LR9,Paired (λqs x=>∃q,x=V.ref q/\A q/\bK K H q qs) rows us/\rows.9=us.9/\∀qs∈rows,qs.9=n/\∀y∈qs,C y:=by
 induction us with
 | nil=>exact #[[],.nil,rfl,λ_ z=>nomatch z]
 | cons u us ih =>
  obtain rows|pr|l|hr:=ih λx hx=>h x (.tail _ hx)
  obtain q|qs|e|a|r|l1|c:=h u (.head _);refine #[qs :: rows,.cons #[q,e,a,r] pr,by simp [l],λzs hz=>?_];rcases aD.mp hz with rfl | hz
  ·exact #[l1,c]
  ·exact hr zs hz
theorem Jj {K:FG9} {rows:LR9} (pr:Paired (λqs x=>∃q,x=V.ref q/\A q/\bK K H q qs) rows us) (h:∀qs∈rows,qs.9=n/\∀y∈qs,C y):∀x∈us,iU K A H n C x:=λx hx=>by
 obtain qs|hq|q|e|a|r:=dN pr hx;exact #[q,qs,e,a,r,(h qs hq).1,(h qs hq).2]
theorem uJ {n:Nat}:∀{rows:LR9},(∀xs∈rows,xs.9=n)->rows.flatten.9=rows.9*n
 | [],_=>by simp
 | xs :: rows,h=>by
  rw[dC,aj,h xs (.head _),uJ λys hy=>h ys (.tail _ hy),a8,dm,yY]
theorem PL {rows:LR9} (h:∀qs∈rows,qs.9=n/\∀y∈qs,Dr (2^c) y):∃M:Nat,0 < M/\M<=2^(c*(rows.9*n))/\∀qs∈rows,∀y∈qs,Fr M (2^c) y:=by
 have fl:rows.flatten.9=rows.9*n:=uJ λys hy=>(h ys hy).1
 have hm:∀a∈rows.flatten.map (·.den),0 < a/\a<=2^c:=λa ha=>by
  obtain y|hy|rfl:=aA.mp ha;obtain qs|hq|hy:=eI.mp hy;exact #[y.den_pos,((h qs hq).2 y hy).2]
 refine #[v8 (rows.flatten.map (·.den)),xG λa ha=>(hm a ha).1,?_,λqs hq y hy=>?_]
 ·have:=Ag (k:=c) (l:=rows.flatten.map (·.den)) λa ha=>(hm a ha).2
  rwa [ag,fl] at this
 ·exact (Fr.own y ((h qs hq).2 y hy).1).dvd (xH (aA.mpr #[y,eI.mpr #[qs,hq,hy],rfl]))
theorem vI {K:FG9} (h:VT K A H n C p m) (w:∀q,A q->H0 q=none):∃rows,bu K H0 H p rows/\rows.9=m/\∀qs∈rows,qs.9=n/\∀y∈qs,C y:=by
 obtain us|g|l|a|r:=h;obtain rows|pr|lr|hr:=Aa r;refine #[rows,#[us,g,Paired.imp' (λ_ _ #[q,e,aq,rq]=>#[q,e,w q aq,rq]) pr,λhm=>?_],by rw[lr,l],hr];obtain q|_|e|aq|_:=r _ hm;cases e;exact a aq
theorem jT.trans (h:jT A b m H H1) (h':jT A b m H1 H2):jT A b m H H2:=λc u e n1 n2 n3=>h' c u (h c u e n1 n2 n3) n1 n2 n3
theorem Nk {K:FG9} {rows:LR9} (pr:Paired (dq K H0 H) rows us) (h:∀qs∈rows,qs.9=n/\∀y∈qs,C y) (w:∀q,V.ref q∈us->H0 q=none->H q≠none->A q):∀x∈us,iU K A H n C x:=λx hx=>by
 obtain qs|hq|q|e|a|r:=dN pr hx;subst e;exact #[q,qs,rfl,w q hx a (by obtain _|g|_:=r;rw[g];simp),r,(h qs hq).1,(h qs hq).2]
def Lo:Sp:=λvs H Q _=>∃b,vs=[.ref b]/\ji H b/\∀r (n i o w:Nat) H',H' r=some (.tup [.int n,.int i,.int o,.int w])->n<=5->i<=4->o<=4->(w=4\/w=9\/(w=1000000/\n<=2))->(n=5->i<=2/\o<=2)->ji H' b->cY b H H'->Q (.ref r) H'
def fz (K:FG9) (H0 H:Hp) (r:Addr) (mv pt lk:LR9):Prop:=∃m p l,H r=some (.tup [.ref m,.ref p,.ref l])/\H0 m=none/\H0 p=none/\H0 l=none/\bu K H0 H m mv/\bu K H0 H p pt/\bu K H0 H l lk
section
variable {K:FG9}
theorem fz.same (h:fz K H0 H r mv pt lk) (e:aH H H'):fz K H0 H' r mv pt lk:=by obtain m|p|l|g|n1|n2|n3|g1|g2|g3:=h;exact #[m,p,l,e _ _ g,n1,n2,n3,g1.same e,g2.same e,g3.same e]
theorem fz.upto (h:fz K H0 H r mv pt lk) (u:cY b H H') (B:ji H b) (nb:H0 b≠none):fz K H0 H' r mv pt lk:=by
 obtain m|p|l|g|n1|n2|n3|g1|g2|g3:=h;exact #[m,p,l,u.tup B g,n1,n2,n3,g1.upto u B (λz=>nb (by rw[<- z];exact n1)) nb,g2.upto u B (λz=>nb (by rw[<- z];exact n2)) nb,g3.upto u B (λz=>nb (by rw[<- z];exact n3)) nb]
theorem fz.weak (h:fz K H0 H r mv pt lk) (e:∀q,H0 q=none->H1 q=none):fz K H1 H r mv pt lk:=by
 obtain m|p|l|g|n1|n2|n3|⟨x1,y1,z1,w1⟩|⟨x2,y2,z2,w2⟩|⟨x3,y3,z3,w3⟩:=h;exact #[m,p,l,g,e _ n1,e _ n2,e _ n3,#[x1,y1,Paired.imp' (λ_ _ #[q,a,b,c]=>#[q,a,e _ b,c]) z1,w1],#[x2,y2,Paired.imp' (λ_ _ #[q,a,b,c]=>#[q,a,e _ b,c]) z2,w2],#[x3,y3,Paired.imp' (λ_ _ #[q,a,b,c]=>#[q,a,e _ b,c]) z3,w3]]
end
inductive zj (K:FG9) (C:Addr) (vs:List V) (H:Hp) (Q:VK) (E9:XK):Prop
 | mk (r:Addr) (H0:Hp) (mv pt lk:LR9):vs=[.ref r]->fz K H0 H r mv pt lk->eU mv pt lk->Dn mv pt lk->(∀x H',H x=none->aH H H'->mS K H H' C x mv pt lk->Q (.ref x) H')->zj K C vs H Q E9
def nextK (mv pt:LR9) (st pu:List Rat) (k:Nat):List Rat:=List.zipWith (λline col=>bJ (line++col.take k) (st++pu.take k)) mv (cv pt mv.9)
theorem kx {st pu:List Rat}:(nextK mv pt st pu k).9=mv.9:=by unfold nextK;rw[aZ,cy];lia
theorem uD {st pu:List Rat} (h1:pt.9<=k) (h2:pu.9<=k):nextK mv pt st pu k=ja mv pt st pu:=by
 unfold nextK ja;apply jk;intro i;rw[bp,bp];cases e1:mv[i]? with
 | none=>rfl
 | some line =>
  cases e2:(cv pt mv.9)[i]? with
  | none=>rfl
  | some col =>
   have:=ie col (ar e2);show some _=some _
   rw[aE (),aE h2]
theorem Kf (h:i < w):(cv rows w)[i]?=some (rows.map λxs=>xs.getD i 0):=by
 unfold cv;rw[aB,cB h];rfl
theorem Js {st pu:List Rat}:nextK mv pt st pu 0=mv.map λxs=>bJ xs st:=by
 unfold nextK;apply jk;intro i;rw[bp,aB];by_cases hi:i < mv.9
 ·rw[Kf hi,ae hi];simp
 ·rw[aP ()];rfl
theorem Aw {st pu:List Rat} (hi:i < mv.9):(nextK mv pt st pu k).getD i 0=bJ (mv[i]++(pt.map λxs=>xs.getD i 0).take k) (st++pu.take k):=by
 rw[aa];unfold nextK;rw[bp,ae hi,Kf hi];rfl
theorem uk (h:as.9=xs.9):bJ (as++bs) (xs++ys)=bJ as xs+bJ bs ys:=by
 unfold bJ;rw[mX h,rX]
theorem Jt {st pu:List Rat} (hm:∀xs∈mv,xs.9=st.9) (h1:k < pt.9) (h2:k < pu.9) (hw:(pt[k]).9=mv.9) :
  List.zipWith (λx y=>x+y) (nextK mv pt st pu k) ((pt[k]).map λy=>pu[k]*y)=nextK mv pt st pu (k+1):=by
 have l1:((pt[k]).map λy=>pu[k]*y).9=mv.9:=by rw[ag,hw]
 rw[Co (by rw[l1,kx])];apply jk;intro i;rw[aB,kx];by_cases hi:i < mv.9
 ·have e0:(nextK mv pt st pu (k+1))[i]?=some ((nextK mv pt st pu (k+1)).getD i 0):=by
   rw[aa,ae (by rw[kx];exact hi)];rfl
  rw[cB hi,e0,Aw hi];have ll:=hm mv[i] (aF hi);have ec:(pt.map λxs=>xs.getD i 0)[k]?=some ((pt[k]).getD i 0):=by rw[aB,ae h1];rfl
  have ep:pu[k]?=some pu[k]:=ae h2
  have e3:((pt[k]).map λy=>pu[k]*y).getD i 0=pu[k]*(pt[k]).getD i 0:=by
   rw[getD_map (by rw[hw];exact hi),aa,ae (by rw[hw];exact hi)];rfl
  show some ((nextK mv pt st pu k).getD i 0+((pt[k]).map λy=>pu[k]*y).getD i 0)=some _
  rw[Aw hi,e3,take_snoc ec,take_snoc ep,uk ll,uk ll,uk (by rw[bY,bY,ag];lia)];have:bJ [(pt[k]).getD i 0] [pu[k]]=(pt[k]).getD i 0*pu[k]:=by simp [bJ,ke]
  rw[this];congr 1;grind
 ·rw[aP (by simpa using hi),aP (by rw[kx];lia)];rfl
theorem mS.weakN {K:FG9} (h:mS K H0 H C p mv pt lk) (e:∀q,H0 q=none->H1 q=none):mS K H1 H C p mv pt lk:=by
 obtain dx|a|b|c|g|n1|n2|n3|⟨x1,y1,z1,w1⟩|⟨x2,y2,z2,w2⟩|⟨x3,y3,z3,w3⟩:=h;exact #[dx,a,b,c,g,e _ n1,e _ n2,e _ n3,#[x1,y1,Paired.imp' (λ_ _ #[q,a,b,c]=>#[q,a,e _ b,c]) z1,w1],#[x2,y2,Paired.imp' (λ_ _ #[q,a,b,c]=>#[q,a,e _ b,c]) z2,w2],#[x3,y3,Paired.imp' (λ_ _ #[q,a,b,c]=>#[q,a,e _ b,c]) z3,w3]]
theorem LX {st pu:List Rat}:(ja mv pt st pu).9=mv.9:=by unfold ja;rw[aZ,cy];lia
def qe (k j:Nat) (l:List Rat):Prop:=∃M V:Nat,0 < M/\M<=2^k/\V<=2^j/\∀x∈l,Fr M V x
theorem QP {M V:Nat} (h0:0 < M) (h1:M<=2^2000) (h2:V<=2^1950) (h:Fr M V x):i5 x:=by
 obtain a|b:=h.sz h0 h1 h2;exact #[a.mono (),b.mono ()]
section
variable {k j k' j':Nat} {l xs ys:List Rat} {x y:Rat}
theorem qe.szn (h:qe k j l) (hx:x∈l) (hk:k+j<=3950000:=by decide):i5 x:=by
 obtain M|V|h0|h1|h2|h3:=h;obtain a|b:=(h3 x hx).sz h0 h1 h2;exact #[a.mono (),b.mono ()]
theorem qe.rowM (h:qe k j l) (hk:k+j<=4200000:=by decide):∃M,IG M (l.map nm):=by
 obtain M|V|h0|h1|h2|h3:=h;refine #[M,(),?_,λn hn=>?_]
 ·show ((M:Nat):Int).natAbs < 2^4400000
  rw[bx];exact bc h1 (dg () ())
 ·obtain x|hx|rfl:=aA.mp hn;obtain a|_:=(h3 x hx).sz h0 h1 h2;exact #[ik x,(h3 x hx).den,a.mono ()]
theorem qe.one (h:qe k j l) (hx:x∈l):qe k j [x]:=by
 obtain M|V|h0|h1|h2|h3:=h;exact #[M,V,h0,h1,h2,λy hy=>by rw[bh.mp hy];exact h3 x hx]
theorem OF (h:qe k j xs) (h':qe k' j' ys) (hl:xs.9<=1000) (i:Nat) (hk:(k+k')+(j+j')<=3930000:=by decide):i5 (bJ (xs.take i) (ys.take i)):=by
 obtain M|V|h0|h1|h2|h3:=h;obtain N|W|k0|k1|k2|k3:=h'
 have e:1000*(V*W)<=2^(10+(j+j')):=by
  rw[ax 2 10];exact aw () (af (aw h2 k2) (by rw[<- ax];exact ah _))
 obtain a|b:=((Fr.dot (λx hx=>h3 x (bN hx)) (λy hy=>k3 y (bN hy))).mono (ay _ (show (xs.take i).9<=1000 by rw[bY];lia))).sz (aM h0 k0) (af (aw h1 k1) (by rw[<- ax];exact ah _)) e;exact #[a.mono (),b.mono ()]
theorem NO (hx:qe k j [x]) (hy:qe k' j' [y]) (hk:(k+k')+(j+j')<=3930000:=by decide):i5 (x*y):=by
 obtain M|V|h0|h1|h2|h3:=hx;obtain N|W|k0|k1|k2|k3:=hy;obtain a|b:=((h3 x (.head _)).mul (k3 y (.head _))).sz (aM h0 k0) (af (aw h1 k1) (by rw[<- ax];exact ah _)) (af (aw h2 k2) (by rw[<- ax];exact ah _));exact #[a.mono (),b.mono ()]
def ye (xs ys:List Rat):Prop:=∃k j k' j':Nat,qe k j xs/\qe k' j' ys/\(k+k')+(j+j')<=3930000
theorem ye.sys (h:qe 400 120 xs) (h':qe 1800000 1800000 ys):ye xs ys:=#[_,_,_,_,h,h',()]
end
def Ld (mv pt lk:LR9):Prop:=∃M V:Nat,0 < M/\M<=2^400/\V<=2^120/\GF M V mv/\GF M V pt/\GF M V lk
theorem Ld.fits (h:Ld mv pt lk) (hl:∀x∈l,(∃xs∈mv,x∈xs)\/(∃xs∈pt,x∈xs)\/(∃xs∈lk,x∈xs)\/x=0):qe 400 120 l:=by
 obtain M|V|h0|h1|h2|g1|g2|g3:=h;refine #[M,V,h0,h1,h2,λx hx=>?_];rcases hl x hx with ⟨xs,a,b⟩ | ⟨xs,a,b⟩ | ⟨xs,a,b⟩ | rfl
 ·exact g1 xs a x b
 ·exact g2 xs a x b
 ·exact g3 xs a x b
 ·exact Fr.zero
theorem Ld.sf (h:Ld mv pt lk):Dn mv pt lk:=by obtain M|V|a|b|c|d:=h;exact #[M,V,a,af b (ak () ()),af c (ak () ()),d]
inductive DJ (K:FG9) (vs:List V) (H:Hp) (Q:VK) (E9:XK):Prop
 | mk (p q:Addr) (xs ys:List Rat):vs=[.ref p,.ref q]->bK K H p xs->bK K H q ys->ys.9=xs.9->xs.9<=1000->ye xs ys->(∀r H',aH H H'->bO K H' (bJ xs ys) (.ref r)->Q (.ref r) H')->DJ K vs H Q E9
inductive DI (K:FG9) (vs:List V) (H:Hp) (Q:VK) (E9:XK):Prop
 | mk (p q:Addr) (H0:Hp) (rows:LR9) (ys:List Rat):vs=[.ref p,.ref q]->bu K H0 H p rows->bK K H q ys->rows.9<=1000->ys.9<=1000->((∀xs∈rows,xs.9=ys.9/\ye xs ys))->(∀r H',H r=none->aH H H'->bK K H' r (rows.map λxs=>bJ xs ys)->Q (.ref r) H')->DI K vs H Q E9
inductive CC (K:FG9) (C:Addr) (vs:List V) (H:Hp) (Q:VK) (E9:XK):Prop
 | mk (x p q:Addr) (H0:Hp) (mv pt lk:LR9) (st pu:List Rat):vs=[.ref x,.ref p,.ref q]->mS K H0 H C x mv pt lk->eU mv pt lk->Ld mv pt lk->bK K H p st->bK K H q pu->st.9=mv.9->pu.9=pt.9->qe 1800000 1800000 (st++pu)->(∀r H',H r=none->aH H H'->bK K H' r (ja mv pt st pu)->Q (.ref r) H')->CC K C vs H Q E9
def qi (mv pt:LR9) (st:List Rat) (pus:LR9) (k:Nat):List Rat:=(pus.take k).foldl (ja mv pt) st
def oW (mv pt:LR9) (st:List Rat) (pus:LR9):LR9:=(List.range (pus.9+1)).map (qi mv pt st pus)
section
variable {mv pt lk pus:LR9} {st:List Rat} {k:Nat}
theorem sP (h:pus[k]?=some pu):qi mv pt st pus (k+1)=ja mv pt (qi mv pt st pus k) pu:=by
 unfold qi;rw[take_snoc h,List.foldl_append];rfl
theorem qE (h:st.9=mv.9):∀{k:Nat},k<=pus.9->(qi mv pt st pus k).9=mv.9
 | 0,_=>h
 | k+1,hk=>by rw[sP (ae (show k < pus.9 by lia)),LX]
theorem vJ:(oW mv pt st pus).9=pus.9+1:=by unfold oW;rw[ag,bU]
theorem uL (h:k<=pus.9):(oW mv pt st pus)[k]?=some (qi mv pt st pus k):=by
 unfold oW;rw[aB,cB ()];rfl
def Cn (mv pt:LR9) (st:List Rat) (pus:LR9):Prop:=∀k,k<=pus.9->∃N W:Nat,0 < N/\N<=2^1800000/\W<=2^1800000/\(∀x∈qi mv pt st pus k,Fr N W x)/\∀xs∈pus,∀x∈xs,Fr N W x
theorem Cn.both (h:Cn mv pt st pus) (hk:k<=pus.9) (hp:pu∈pus):qe 1800000 1800000 (qi mv pt st pus k++pu):=by
 obtain N|W|a|b|c|d|e:=h k hk;exact #[N,W,a,b,c,λx hx=>(av.mp hx).elim (d x) (e pu hp x)]
theorem Cn.state (h:Cn mv pt st pus) (hk:k<=pus.9):qe 1800000 1800000 (qi mv pt st pus k):=by
 obtain N|W|a|b|c|d|e:=h k hk;exact #[N,W,a,b,c,d]
end
def yc (K:FG9) (H:Hp) (l:Addr) (H':Hp) (xs:List Rat) (x:V):Prop:=∃q,x=.ref q/\H q=none/\q≠l/\bK K H' q xs
section
variable {K:FG9} {H H' H2:Hp} {l:Addr} {xs:List Rat} {x:V}
theorem yc.same (h:yc K H l H' xs x) (e:aH H' H2):yc K H l H2 xs x:=by obtain q|a|b|c|d:=h;exact #[q,a,b,c,d.same e]
theorem yc.upd {ys:List V} {o:HO} (h:yc K H l H' xs x) (hl:H' l=some (.lst ys)):yc K H l (upd H' l o) xs x:=by obtain q|a|b|c|d:=h;exact #[q,a,b,c,d.updL hl c]
theorem yc.rowF (h:yc K H l H' xs x):dq K H H' xs x:=by obtain q|a|b|_|d:=h;exact #[q,a,b,d]
theorem Lx (e:aH H H') (n:H l=none):aH H (upd H' l o):=λb u h=>by
 rw[bG (λz=>by rw[z,n] at h;cases h)];exact e b u h
theorem Ab:∀{rows:LR9} {ys:List V},Paired (yc K H l H') rows ys->V.ref l∉ys
 | _,_,.nil=>by simp
 | _,_,.cons ⟨q,a,_,c,_⟩ r=>by
  intro hm;rcases aD.mp hm with e | hm
  ·rw[a] at e;cases e;exact c rfl
  ·exact Ab r hm
end
inductive zI (K:FG9) (C:Addr) (vs:List V) (H:Hp) (Q:VK) (E9:XK):Prop
 | mk (x s p:Addr) (H0 H1:Hp) (mv pt lk pus:LR9) (st:List Rat):vs=[.ref x,.ref s,.ref p]->mS K H0 H C x mv pt lk->eU mv pt lk->Ld mv pt lk->bK K H s st->st.9=mv.9->bu K H1 H p pus->pus.9<=100->(∀xs∈pus,xs.9=pt.9)->Cn mv pt st pus->(∀r H',H r=none->aH H H'->bu K H H' r (oW mv pt st pus)->Q (.ref r) H')->zI K C vs H Q E9
theorem uK {l:List Rat} (h:∀x∈l,Dr (2^c) x) (hc:c<=20):∃B:Nat,0 < B/\B<=2^(c*l.9+2)/\∀x∈l,Fr B (2^22) x:=by
 obtain M|h0|h1|h2:=QN (c:=c) (n:=l.9) (i:=0) (rows:=[]) T9 rfl h hc;refine #[M,h0,?_,h2 l (by simp)];rw[Nat.zero_add,rS] at h1;exact h1
theorem AS {i:Nat}:∀{pus:LR9},(∀xs∈pus,xs.9=i)->pus.flatten.9=pus.9*i
 | [],_=>by simp
 | x :: r,h=>by
  rw[dC,aj,h x (.head _),AS (λxs hx=>h xs (.tail _ hx)),a8,dm]
  lia
theorem U6 {i:Int} (h:i=0\/i=1):Fr 1 1 (i:Rat):=Fr.int (by rcases h with rfl | rfl <;> decide)
end L2
namespace L2
abbrev jJ:=Nat->Rat
def Bj (F:List jJ->Rat) (r:Nat):List jJ->List jJ->Rat->Rat
 | _,[],_=>0
 | pre,v :: post,s=>s*v r*F (pre++post)+Bj F r (pre++[v]) post (-s)
def jY:List Nat->List jJ->Rat
 | [],[]=>1
 | [],_ :: _=>0
 | r :: rs,vs=>Bj (λws=>jY rs ws) r [] vs 1
theorem EC:jY [] (a++x :: b)=0:=by
 cases a <;> rfl
theorem Eo {F:List jJ->Rat} {r:Nat} {f g h:jJ} {x y:Rat} (hF:∀a b,F (a++h :: b)=x*F (a++f :: b)+y*F (a++g :: b)):∀(b p q:List jJ) (s:Rat),Bj F r (p++h :: q) b s=x*Bj F r (p++f :: q) b s+y*Bj F r (p++g :: q) b s
 | [],p,q,s=>by simp only[Bj,eC,ke]
 | v :: b,p,q,s=>by
  have i1:=hF p (q++b);have i2:=Eo (r:=r) hF b p (q++[v]) (-s);simp only[Bj,cz,fP] at i1 i2 ⊢;rw[i1,i2];grind
theorem KN {F:List jJ->Rat} {r:Nat} {f g h:jJ} {x y:Rat} (hF:∀a b,F (a++h :: b)=x*F (a++f :: b)+y*F (a++g :: b)) (hr:h r=x*f r+y*g r):∀(a pre b:List jJ) (s:Rat),Bj F r pre (a++h :: b) s=x*Bj F r pre (a++f :: b) s+y*Bj F r pre (a++g :: b) s
 | [],pre,b,s=>by
  have i2:=Eo (r:=r) hF b pre [] (-s);simp only[Bj,cV] at i2 ⊢;rw[i2,hr];grind
 | v :: a,pre,b,s=>by
  have i1:=hF (pre++a) b;have i2:=KN hF hr a (pre++[v]) b (-s);simp only[Bj,cz,fP] at i1 i2 ⊢;rw[i1,i2];grind
theorem uh {f g h:jJ} {x y:Rat}:∀{rs:List Nat},(∀r∈rs,h r=x*f r+y*g r)->∀a b,jY rs (a++h :: b)=x*jY rs (a++f :: b)+y*jY rs (a++g :: b)
 | [],_,a,b=>by rw[EC,EC,EC];grind
 | r :: rs,hr,a,b=>KN (λa b=>uh (λr' h'=>hr r' (.tail _ h')) a b) (hr r (.head _)) a [] b 1
theorem OC (hr:∀r∈rs,h r=f r) (a b:List jJ):jY rs (a++h :: b)=jY rs (a++f :: b):=by
 rw[uh (f:=f) (g:=f) (x:=1) (y:=0) (λr h'=>by rw[hr r h'];grind) a b];grind
theorem K4 (hr:∀r∈rs,h r=0) (a b:List jJ):jY rs (a++h :: b)=0:=by
 rw[uh (f:=h) (g:=h) (x:=0) (y:=0) (λr h'=>by rw[hr r h'];grind) a b];grind
theorem KO {F:List jJ->Rat} {r:Nat} {x:jJ} (hF:∀a b,F (a++x :: x :: b)=0):∀(b p q:List jJ) (s:Rat),Bj F r (p++x :: x :: q) b s=0
 | [],p,q,s=>rfl
 | v :: b,p,q,s=>by
  have i1:=hF p (q++b);have i2:=KO (r:=r) hF b p (q++[v]) (-s);simp only[Bj,cz,fP] at i1 i2 ⊢;rw[i1,i2];grind
theorem KP {F:List jJ->Rat} {r:Nat} {x:jJ} (hF:∀a b,F (a++x :: x :: b)=0):∀(a pre b:List jJ) (s:Rat),Bj F r pre (a++x :: x :: b) s=0
 | [],pre,b,s=>by
  have i2:=KO (r:=r) hF b pre [] (- -s);simp only[Bj,cV,cz,fP] at i2 ⊢;rw[i2];grind
 | v :: a,pre,b,s=>by
  have i1:=hF (pre++a) b;have i2:=KP (r:=r) hF a (pre++[v]) b (-s);simp only[Bj,cz,fP] at i1 i2 ⊢;rw[i1,i2];grind
theorem AV {x:jJ}:∀{rs:List Nat} (a b:List jJ),jY rs (a++x :: x :: b)=0
 | [],a,b=>EC
 | r :: rs,a,b=>KP (λa b=>AV a b) a [] b 1
theorem QX (a b:List jJ):jY rs (a++x :: y :: b)=- jY rs (a++y :: x :: b):=by
 have hr:∀r∈rs,(λr=>1*x r+1*y r) r=1*x r+1*y r:=λ_ _=>rfl
 have h0:=AV (x:=λr=>1*x r+1*y r) (rs:=rs) a b;have h1:=uh hr a ((λr=>1*x r+1*y r) :: b);have h2:=uh hr (a++[x]) b;have h3:=uh hr (a++[y]) b;have h4:=AV (x:=x) (rs:=rs) a b;have h5:=AV (x:=y) (rs:=rs) a b;simp only[cz,fP,cV] at h0 h1 h2 h3 h4 h5;rw[h1,h2,h3,h4,h5] at h0;grind
theorem EG {x:jJ} {rs:List Nat}:∀(b a c:List jJ),jY rs (a++x :: (b++x :: c))=0
 | [],a,c=>AV a c
 | y :: b,a,c=>by
  have:=EG (x:=x) (rs:=rs) b (a++[y]) c;simp only[cz,fP,cV] at this;rw[fP,QX,this];rfl
def bF:Nat->(Nat->Rat)->Rat
 | 0,_=>0
 | k+1,f=>bF k f+f k
theorem aN {f g:Nat->Rat}:∀{k:Nat},(∀j,j < k->f j=g j)->bF k f=bF k g
 | 0,_=>rfl
 | k+1,h=>by
  show bF k f+f k=bF k g+g k
  rw[aN λj hj=>h j (),h k ()]
theorem mK {f g:Nat->Rat}:∀{k:Nat},bF k (λj=>f j+g j)=bF k f+bF k g
 | 0=>by show (0:Rat)=0+0;grind
 | k+1=>by
  show bF k (λj=>f j+g j)+_=(bF k f+f k)+(bF k g+g k)
  rw[mK];grind
theorem cF {f:Nat->Rat} {c:Rat}:∀{k:Nat},bF k (λj=>c*f j)=c*bF k f
 | 0=>by show (0:Rat)=c*0;grind
 | k+1=>by
  show bF k (λj=>c*f j)+_=c*(bF k f+f k)
  rw[cF];grind
theorem cZ {f:Nat->Rat}:∀{k:Nat},(∀j,j < k->f j=0)->bF k f=0
 | 0,_=>rfl
 | k+1,h=>by
  show bF k f+f k=0
  rw[cZ λj hj=>h j (),h k ()];grind
theorem iQ {f:Nat->Rat} {i:Nat}:∀{k:Nat},i < k->(∀j,j < k->j≠i->f j=0)->bF k f=f i
 | k+1,hi,h=>by
  show bF k f+f k=f i
  by_cases e:i=k
  ·subst e;rw[cZ λj hj=>h j () ()];grind
  ·rw[iQ () λj hj=>h j (),h k () (λz=>e z.symm)];grind
theorem fN {f:Nat->Nat->Rat} {m:Nat}:∀{k:Nat},bF k (λi=>bF m (f i))=bF m (λj=>bF k λi=>f i j)
 | 0=>(cZ λ_ _=>rfl).symm
 | k+1=>by
  show bF k (λi=>bF m (f i))+bF m (f k)=bF m (λj=>bF k (λi=>f i j)+f k j)
  rw[fN,mK]
theorem AU {rs:List Nat} {W:jJ} {v:Nat->jJ} {c:Nat->Rat} (a b:List jJ):∀{k:Nat} {W:jJ},(∀r∈rs,W r=bF k λj=>c j*v j r)->jY rs (a++W :: b)=bF k λj=>c j*jY rs (a++v j :: b)
 | 0,W,h=>K4 h a b
 | k+1,W,h=>by
  rw[uh (f:=λr=>bF k λj=>c j*v j r) (g:=v k) (x:=1) (y:=c k) (λr hr=>by rw[h r hr];show bF k _+_=_;grind) a b,AU a b (k:=k) (W:=λr=>bF k λj=>c j*v j r) λr _=>rfl];show _=bF k _+_
  grind
end L2
namespace L2
open Nm
def mL (f:Nat->Nat):Nat->List Nat
 | 0=>[]
 | k+1=>f k :: mL f k
def jI (v:Nat->jJ):Nat->List jJ
 | 0=>[]
 | k+1=>v k :: jI v k
def BU (v:Nat->jJ) (i:Nat):Nat->List jJ
 | 0=>[]
 | k+1=>if k<=i then [] else v k :: BU v i k
theorem tR {f:Nat->Nat}:∀{k:Nat},(mL f k).9=k
 | 0=>rfl
 | k+1=>by show (mL f k).9+1=_;rw[tR]
theorem cw_len {v:Nat->jJ}:∀{k:Nat},(jI v k).9=k
 | 0=>rfl
 | k+1=>by show (jI v k).9+1=_;rw[cw_len]
theorem mZ {f:Nat->Nat} {r:Nat}:∀{k:Nat},r∈mL f k->∃t,t < k/\r=f t
 | k+1,h=>by
  rcases aD.mp h with h | h
  ·exact #[k,(),h]
  ·obtain t|a|b:=mZ h;exact #[t,(),b]
theorem Ac {f g:Nat->Nat}:∀{k:Nat},(∀j,j < k->f j=g j)->mL f k=mL g k
 | 0,_=>rfl
 | k+1,h=>by
  show f k :: mL f k=g k :: mL g k
  rw[h k (),Ac λj hj=>h j ()]
theorem cw_congr {f g:Nat->jJ}:∀{k:Nat},(∀j,j < k->f j=g j)->jI f k=jI g k
 | 0,_=>rfl
 | k+1,h=>by
  show f k :: jI f k=g k :: jI g k
  rw[h k (),cw_congr λj hj=>h j ()]
theorem cw_mem {v:Nat->jJ} {j:Nat}:∀{k:Nat},j < k->v j∈jI v k
 | k+1,h=>by
  by_cases e:j=k
  ·subst e;exact .head _
  ·exact .tail _ (cw_mem ())
theorem cw_in {v:Nat->jJ} {x:jJ}:∀{k:Nat},x∈jI v k->∃t,t < k/\x=v t
 | k+1,h=>by
  rcases aD.mp h with h | h
  ·exact #[k,(),h]
  ·obtain t|a|b:=cw_in h;exact #[t,(),b]
theorem OO {v:Nat->jJ} {i j:Nat} (h1:i < j):∀{k:Nat},j < k->v j∈BU v i k
 | k+1,h=>by
  show v j∈if k<=i then [] else v k :: BU v i k
  rw[if_neg ()];by_cases e:j=k
  ·subst e;exact .head _
  ·exact .tail _ (OO h1 ())
theorem C5 {v:Nat->jJ} {i:Nat} {x:jJ}:∀{k:Nat},x∈BU v i k->∃t,t < k/\x=v t
 | k+1,h=>by
  have h:x∈if k<=i then [] else v k :: BU v i k:=h
  split at h
  ·cases h
  ·rcases aD.mp h with h | h
   ·exact #[k,(),h]
   ·obtain t|a|b:=C5 h;exact #[t,(),b]
theorem cw_split {v:Nat->jJ} {i:Nat}:∀{k:Nat},i < k->jI v k=BU v i k++v i :: jI v i
 | k+1,h=>by
  show v k :: jI v k=(if k<=i then [] else v k :: BU v i k)++_
  by_cases e:i=k
  ·subst e;rw[if_pos (ah _)];rfl
  ·rw[if_neg (),cw_split (k:=k) (i:=i) ()];rfl
theorem xT {c:Nat->Rat} (hi:i < k) (hW:∀r∈rs,W r=bF k λj=>c j*v j r):jY rs (BU v i k++W :: jI v i)=c i*jY rs (jI v k):=by
 rw[AU (v:=v) (c:=c) (W:=W) _ _ hW,iQ hi λj hj ne=>?_,cw_split hi];rcases bZ j i with h | h
 ·obtain s|t|e:=IS (cw_mem (v:=v) h);rw[e,EG];grind
 ·obtain s|t|e:=IS (OO (v:=v) (show i < j by lia) hj);have:=EG (x:=v j) (rs:=rs) t s (jI v i);rw[e,cz,fP,this];grind
theorem Ui {c:Nat->Rat} (hW:∀r∈rs,W r=bF k λj=>c j*v j r):jY rs (W :: jI v k)=0:=by
 have:=AU (v:=v) (c:=c) (W:=W) [] (jI v k) hW;rw[cV] at this;rw[this];refine cZ λj hj=>?_
 obtain s|t|e:=IS (cw_mem (v:=v) hj);have:=EG (x:=v j) (rs:=rs) s [] t;rw[cV] at this;rw[e,cV,this];grind
theorem Md {c:Nat->Rat} (hi:i∉rs) (h1:W i=bF k (λj=>c j*v j i)+s) (hW:∀r∈rs,W r=bF k λj=>c j*v j r):jY (i :: rs) (W :: jI v k)=s*jY rs (jI v k):=by
 have e:=uh (rs:=i :: rs) (h:=W) (f:=λr=>bF k λj=>c j*v j r) (g:=λr=>if r=i then 1 else 0) (x:=1) (y:=s) (λr hr=>by
  rcases aD.mp hr with rfl | hr
  ·rw[h1,if_pos rfl];grind
  ·rw[hW r hr,if_neg (λz=>hi (by rw[<- z];exact hr))];grind) [] (jI v k)
 rw[cV,cV,cV,Ui (c:=c) λr _=>rfl] at e
 have e2:jY (i :: rs) ((λr=>if r=i then (1:Rat) else 0) :: jI v k)=jY rs (jI v k):=by
  show 1*(if i=i then (1:Rat) else 0)*jY rs ([]++jI v k)+Bj (λws=>jY rs ws) i ([]++[λr=>if r=i then (1:Rat) else 0]) (jI v k) (-1)=_
  have hF:∀a b,(λws=>jY rs ws) (a++(λr=>if r=i then (1:Rat) else 0) :: b)=0*(λws=>jY rs ws) (a++(λr=>if r=i then (1:Rat) else 0) :: b)+0*(λws=>jY rs ws) (a++(λr=>if r=i then (1:Rat) else 0) :: b):=λa b=>by
   have:=K4 (h:=λr=>if r=i then (1:Rat) else 0) (rs:=rs) (λr hr=>if_neg λz=>hi (by rw[<- z];exact hr)) a b
   dsimp only
   rw[this];grind
  have:=Eo (r:=i) hF (jI v k) [] [] (-1);rw[this,if_pos rfl,cV];grind
 rw[e2] at e;rw[e];grind
theorem NZ {F:List jJ->Rat} {r B W:Nat}:∀{post pre:List jJ} {s:Rat},(∀ws,(∀w∈ws,w∈pre++post)->ws.9+1=(pre++post).9->Fr 1 B (F ws))->(∀w∈post,Fr 1 W (w r))->Fr 1 1 s->Fr 1 (post.9*(W*B)) (Bj F r pre post s)
 | [],pre,s,_,_,_=>by show Fr 1 _ 0;exact Fr.zero
 | v :: post,pre,s,hF,hw,hs=>by
  have t1:Fr 1 (W*B) (s*v r*F (pre++post)):=by
   have:=(hs.mul (hw v (.head _))).mul (hF (pre++post) (λw h=>by
    rcases av.mp h with h | h
    ·exact dM _ h
    ·exact bB _ (.tail _ h)) (by simp only[aj,a8];lia))
   simpa using this
  have t2:=NZ (F:=F) (r:=r) (B:=B) (W:=W) (post:=post) (pre:=pre++[v]) (s:=-s) (λws h h'=>hF ws (λw hw=>by simpa using h w hw) (by simpa using h')) (λw h=>hw w (.tail _ h)) (by simpa using hs.neg);exact (t1.add t2).mono (by rw[a8,dm];lia)
theorem yt {W N:Nat}:∀{rs:List Nat} {vs:List jJ},vs.9<=N->(∀v∈vs,∀r∈rs,Fr 1 W (v r))->Fr 1 ((N*W)^rs.9) (jY rs vs)
 | [],[],_,_=>by show Fr 1 1 1;exact (Fr.int (i:=1) ())
 | [],_ :: _,_,_=>by show Fr 1 _ 0;exact Fr.zero
 | r :: rs,vs,hl,h=>by
  have:=NZ (F:=λws=>jY rs ws) (r:=r) (B:=(N*W)^rs.9) (W:=W) (post:=vs) (pre:=[]) (s:=1) (λws h1 h2=>yt (by rw[cV] at h2;lia) λv hv r' hr'=>h v (by simpa using h1 v hv) r' (.tail _ hr')) (λw hw=>h w hw r (.head _)) (Fr.int (i:=1) ());refine this.mono ?_;rw[a8,ft,bQ ((N*W)^rs.9),cD N];exact ay _ hl
structure xg (a:Nat->Nat->Rat) (m k:Nat) (pm p:Nat->Nat) (l:Nat->Nat->Rat) (d:Rat):Prop where
 inj:∀i j,i < m->j < m->pm i=pm j->i=j
 rng:∀i,i < m->pm i < m
 km:k<=m
 d0:d≠0
 det:d=jY (mL pm k) (jI (λj r=>a r (p j)) k)
 eqs:∀i,i < m->∀c,d*a (pm i) c=bF k (λj=>a (pm i) (p j)*l j c)+if i < k then 0 else l i c
 unit:∀i,i < m->∀j,j < k->l i (p j)=if i=j then d else 0
section
variable {a l:Nat->Nat->Rat} {m k:Nat} {pm p:Nat->Nat} {d:Rat}
theorem xg.start (h:∀i,i < m->pm i=i):xg a m 0 pm p a 1 where
 inj i j hi hj e:=by rw[h i hi,h j hj] at e;exact e
 rng i hi:=by rw[h i hi];exact hi
 km:=aW _
 d0:=()
 det:=rfl
 eqs i hi c:=by
  rw[h i hi,if_neg ()];show 1*a i c=0+a i c
  grind
 unit i _ j hj:=absurd hj ()
theorem xg.coef (B:xg a m k pm p l d) (hi:i < m):a (pm i) c=bF k (λj=>(l j c / d)*a (pm i) (p j))+if i < k then 0 else l i c / d:=by
 have h:=B.eqs i hi c;have d0:=B.d0
 have e:bF k (λj=>(l j c / d)*a (pm i) (p j))=(1 / d)*bF k (λj=>a (pm i) (p j)*l j c):=by
  rw[<- cF];exact aN λj _=>by grind
 rw[e]
 split at h
 ·rw[if_pos (by assumption)];grind
 ·rw[if_neg (by assumption)];grind
theorem xg.old (B:xg a m k pm p l d) (hi:i < k):l i c=jY (mL pm k) (BU (λj r=>a r (p j)) i k++(λr=>a r c) :: jI (λj r=>a r (p j)) i):=by
 have km:=B.km;have d0:=B.d0;rw[xT (v:=λj r=>a r (p j)) (c:=λj=>l j c / d) hi λr hr=>?_,<- B.det]
 ·grind
 ·obtain t|ht|rfl:=mZ hr;have:=B.coef (i:=t) (c:=c) ();rw[if_pos ht] at this;rw[this];grind
theorem xg.new (B:xg a m k pm p l d) (h1:k<=i) (hi:i < m):l i c=jY (pm i :: mL pm k) ((λr=>a r c) :: jI (λj r=>a r (p j)) k):=by
 have km:=B.km;have d0:=B.d0
 have hn:pm i∉mL pm k:=λhm=>by
  obtain t|ht|e:=mZ hm;have:=B.inj i t hi () e
  lia
 have e1:a (pm i) c=bF k (λj=>(l j c / d)*a (pm i) (p j))+l i c / d:=by
  have:=B.coef (i:=i) (c:=c) hi;rwa [if_neg ()] at this
 have e2:∀r∈mL pm k,a r c=bF k (λj=>(l j c / d)*a r (p j)):=λr hr=>by
  obtain t|ht|rfl:=mZ hr;have:=B.coef (i:=t) (c:=c) ();rw[if_pos ht] at this;rw[this];grind
 rw[Md (v:=λj r=>a r (p j)) (c:=λj=>l j c / d) (W:=λr=>a r c) (s:=l i c / d) hn e1 e2,<- B.det];grind
theorem xg.fr (B:xg a m k pm p l d) (hN:k < N) (hW:1<=W) (ha:∀i,i < m->∀c,Fr 1 W (a i c)) (hi:i < m):Fr 1 ((N*W)^(k+1)) (l i c):=by
 have km:=B.km;have mono:∀t,t<=k+1->(N*W)^t<=(N*W)^(k+1):=λt ht=>ak (aM () hW) ht
 have ha':∀r∈mL pm k,∀c,Fr 1 W (a r c):=λr hr c=>by
  obtain t|ht|rfl:=mZ hr;exact ha _ (B.rng t ()) c
 by_cases h:i < k
 ·rw[B.old h];refine (yt (W:=W) (N:=N) ?_ ?_).mono (mono _ (by rw[tR];lia))
  ·have:=congrArg List.length (cw_split (v:=λj r=>a r (p j)) h);rw[aj,a8,cw_len] at this;rw[aj,a8]
   lia
  ·intro v hv r hr;rcases av.mp hv with hv | hv
   ·obtain t|_|rfl:=C5 hv;exact ha' r hr _
   ·rcases aD.mp hv with rfl | hv
    ·exact ha' r hr _
    ·obtain t|_|rfl:=cw_in hv;exact ha' r hr _
 ·rw[B.new () hi];refine (yt (W:=W) (N:=N) ?_ ?_).mono (mono _ (by rw[a8,tR];lia))
  ·rw[a8,cw_len]
   lia
  ·intro v hv r hr
   have hr':∀c,Fr 1 W (a r c):=λc=>by
    rcases aD.mp hr with rfl | hr
    ·exact ha _ (B.rng i hi) c
    ·exact ha' r hr c
   rcases aD.mp hv with rfl | hv
   ·exact hr' _
   ·obtain t|_|rfl:=cw_in hv;exact hr' _
theorem xg.dfr (B:xg a m k pm p l d) (hN:k<=N) (ha:∀i,i < m->∀c,Fr 1 W (a i c)):Fr 1 ((N*W)^k) d:=by
 have km:=B.km;rw[B.det]
 have:=yt (W:=W) (N:=N) (rs:=mL pm k) (vs:=jI (λj r=>a r (p j)) k) (by rw[cw_len];exact hN) λv hv r hr=>by
  obtain t|ht|rfl:=mZ hr;obtain t'|_|rfl:=cw_in hv;exact ha _ (B.rng t ()) _
 rwa [tR] at this
def lJ (k t i:Nat):Nat:=if i=k then t else if i=t then k else i
theorem uP (hk:k < m) (ht:t < m) (hi:i < m):lJ k t i < m:=by
 unfold lJ
 split
 ·exact ht
 ·split
  ·exact hk
  ·exact hi
theorem SN (h:lJ k t i=lJ k t j):i=j:=by
 unfold lJ at h
 split at h <;> split at h <;> (try split at h) <;> (try split at h) <;> lia
theorem vf (h:k<=t) (hi:i < k):lJ k t i=i:=by
 unfold lJ;rw[if_neg (),if_neg ()]
theorem vQ (h:k<=t) (hi:k<=i):k<=lJ k t i:=by
 unfold lJ
 split
 ·exact h
 ·split <;> lia
theorem xg.swap (B:xg a m k pm p l d) {t:Nat} (h:k<=t) (ht:t < m):xg a m k (λi=>pm (lJ k t i)) p (λi=>l (lJ k t i)) d where
 inj i j hi hj e:=SN (B.inj _ _ (uP () ht hi) (uP () ht hj) e)
 rng i hi:=B.rng _ (uP () ht hi)
 km:=B.km
 d0:=B.d0
 det:=by rw[B.det,Ac (f:=pm) (g:=λi=>pm (lJ k t i)) λj hj=>by rw[vf h hj]]
 eqs i hi c:=by
  have e:=B.eqs (lJ k t i) (uP () ht hi) c;have e1:bF k (λj=>a (pm (lJ k t i)) (p j)*l (lJ k t j) c)=bF k (λj=>a (pm (lJ k t i)) (p j)*l j c):=aN λj hj=>by rw[vf h hj]
  rw[e1];by_cases hk:i < k
  ·rw[vf h hk] at e ⊢;exact e
  ·rw[if_neg hk];rw[if_neg (by have:=vQ h (show k<=i by lia);lia)] at e;exact e
 unit i hi j hj:=by
  rw[B.unit _ (uP () ht hi) j hj];by_cases hk:i < k
  ·rw[vf h hk]
  ·have:=vQ h (show k<=i by lia);rw[if_neg (),if_neg ()]
theorem xg.step (B:xg a m k pm p l d) {c0:Nat} (hk:k < m) (h0:l k c0≠0):xg a m (k+1) pm (λj=>if j=k then c0 else p j) (λi c=>if i=k then l k c else (l k c0*l i c - l i c0*l k c) / d) (l k c0) where
 inj:=B.inj
 rng:=B.rng
 km:=hk
 d0:=h0
 det:=by
  rw[B.new (ah _) hk];show _=jY (pm k :: mL pm k) ((λr=>a r (if k=k then c0 else p k)) :: jI _ k)
  rw[if_pos rfl];congr 2;exact cw_congr λj hj=>by rw[if_neg (show j≠k by lia)]
 eqs i hi c:=by
  have d0:=B.d0;have e1:=B.eqs i hi c;have e2:=B.eqs i hi c0;show l k c0*a (pm i) c=(bF k _+_)+_
  have s1:bF k (λj=>a (pm i) (if j=k then c0 else p j)*(if j=k then l k c else (l k c0*l j c - l j c0*l k c) / d))=(l k c0 / d)*bF k (λj=>a (pm i) (p j)*l j c)+(- l k c / d)*bF k (λj=>a (pm i) (p j)*l j c0):=by
   rw[<- cF,<- cF,<- mK];refine aN λj hj=>?_
   rw[if_neg (show j≠k by lia),if_neg (show j≠k by lia)];grind
  rw[s1];simp only[if_true];generalize bF k (λj=>a (pm i) (p j)*l j c)=S1 at e1 ⊢;generalize bF k (λj=>a (pm i) (p j)*l j c0)=S2 at e2 ⊢;rcases lD i k with h | h | h
  ·rw[if_pos h] at e1 e2;rw[if_pos ()];grind
  ·subst h;rw[if_neg ()] at e1 e2;rw[if_pos ()];grind
  ·rw[if_neg ()] at e1 e2;rw[if_neg (),if_neg ()];grind
 unit i hi j hj:=by
  have d0:=B.d0;by_cases e:j=k
  ·subst e;simp only[if_true];by_cases ei:i=j
   ·rw[if_pos ei,if_pos ei]
   ·rw[if_neg ei,if_neg ei];grind
  ·have hj':j < k:=()
   rw[if_neg e];by_cases ei:i=k
   ·rw[if_pos ei,B.unit k hk j hj',if_neg (),if_neg ()]
   ·rw[if_neg ei,B.unit i hi j hj',B.unit k hk j hj',if_neg (show k≠j by lia)]
    split
    ·grind
    ·grind
end
def eY (m:Nat) (a:Nat->Nat->Rat) (x:Nat->Rat):Prop:=∃w:Nat->Rat,∀c,x c=bF m λt=>w t*a t c
theorem eY.row (hi:i < m):eY m a (a i):=#[λt=>if t=i then 1 else 0,λc=>by
 rw[iQ hi λj _ ne=>by dsimp only;rw[if_neg ne];grind]
 dsimp only
 rw[if_pos rfl];grind]
theorem eY.lin (α β:Rat) (hx:eY m a x) (hy:eY m a y):eY m a λc=>α*x c+β*y c:=by
 obtain w|hw:=hx;obtain v|hv:=hy;refine #[λt=>α*w t+β*v t,λc=>?_]
 dsimp only
 rw[hw c,hv c,<- cF,<- cF,<- mK];exact aN λj _=>by grind
theorem eY.congr (h:∀c,x c=y c) (hx:eY m a x):eY m a y:=by obtain w|hw:=hx;exact #[w,λc=>by rw[<- h c];exact hw c]
theorem eY.trans (h:∀t,t < m'->eY m a (b t)) (hx:eY m' b x):eY m a x:=by
 obtain v|hv:=hx
 have h2:∀t,∃w:Nat->Rat,t < m'->∀c,b t c=bF m λs=>w s*a s c:=λt=>by
  by_cases ht:t < m'
  ·obtain w|hw:=h t ht;exact #[w,λ_=>hw]
  ·exact #[λ_=>0,λz=>absurd z ht]
 have hc:=Classical.axiomOfChoice h2;obtain w|hw:=hc;refine #[λs=>bF m' λt=>v t*w t s,λc=>?_];rw[hv c];have e1:bF m' (λt=>v t*b t c)=bF m' (λt=>bF m λs=>v t*(w t s*a s c)):=aN λt ht=>by rw[hw t ht c,<- cF]
 rw[e1,fN];refine aN λs _=>?_
 have:bF m' (λt=>v t*w t s)*a s c=a s c*bF m' (λt=>v t*w t s):=di ..;rw[this,<- cF];exact aN λt _=>by grind
theorem eY.zero (h:∀c,x c=0):eY m a x:=#[λ_=>0,λc=>by rw[h c,cZ λ_ _=>by grind]]
structure Fz (m n:Nat) (a:Nat->Nat->Rat) (k:Nat) (p:Nat->Nat) (R:Nat->Nat->Rat):Prop where
 inc:∀i j,i < j->j < k->p i < p j
 low:∀j,j < k->p j < n
 unit:∀i,i < k->∀j,j < k->R i (p j)=if i=j then 1 else 0
 lead:∀i,i < k->∀c,c < p i->R i c=0
 span:∀i,i < m->eY k R (a i)
 back:∀i,i < k->eY m a (R i)
section
variable {m m' k k' n:Nat} {a a' R R':Nat->Nat->Rat} {p p':Nat->Nat} {x:Nat->Rat}
theorem Fz.coef (h:Fz m n a k p R) (hx:eY k R x) (c:Nat):x c=bF k λj=>x (p j)*R j c:=by
 obtain w|hw:=hx;rw[hw c];refine aN λj hj=>?_
 rw[hw (p j),iQ hj λt ht ne=>by rw[h.unit t ht j hj,if_neg ne];grind,h.unit j hj j hj,if_pos rfl];grind
theorem Fz.lead_in (h:Fz m n a k p R) (hx:eY k R x) (h1:x c≠0) (h0:∀c',c' < c->x c'=0):∃j,j < k/\p j=c:=by
 refine Classical.byContradiction λhn=>h1 ?_
 rw[h.coef hx c];refine cZ λj hj=>?_
 rcases lD (p j) c with z | z | z
 ·rw[h0 _ z];grind
 ·exact absurd #[j,hj,z] hn
 ·rw[h.lead j hj c z];grind
theorem inc_le (h1:∀i j,i < j->j < k->p i < p j) (h2:∀i j,i < j->j < k'->p' i < p' j) (hs:∀j,j < k'->∃i,i < k/\p i=p' j):∀{j:Nat},j < k'->∀{i:Nat},i < k->p i=p' j->j<=i
 | 0,_,_,_,_=>aW _
 | j+1,hj,i,hi,e=>by
  obtain i0|hi0|e0:=hs j ();have:=inc_le h1 h2 hs (j:=j) () hi0 e0;have lt:=h2 j (j+1) () hj;rcases lD i0 i with z | z | z
  ·lia
  ·subst z;lia
  ·have:=h1 i i0 z hi0;lia
theorem Oe (h1:∀i j,i < j->j < k->p i < p j) (h:i<=j) (hj:j < k):p i<=p j:=by
 rcases bZ i j with z | z
 ·exact dn (h1 i j z hj)
 ·have:i=j:=()
  rw[this];exact ah _
theorem KU (h1:∀i j,i < j->j < k->p i < p j) (h2:∀i j,i < j->j < k'->p' i < p' j) (hs:∀j,j < k'->∃i,i < k/\p i=p' j):k'<=k/\∀j,j < k'->p j<=p' j:=by
 refine #[?_,λj hj=>?_]
 ·rcases iH k' with z | z
  ·lia
  ·obtain i|hi|e:=hs (k' - 1) ();have:=inc_le h1 h2 hs (j:=k' - 1) () hi e
   lia
 ·obtain i|hi|e:=hs j hj;rw[<- e];exact Oe h1 (inc_le h1 h2 hs hj hi e) hi
theorem Fz.uniq (h:Fz m n a k p R) (h':Fz m' n a' k' p' R') (s1:∀i,i < m->eY m' a' (a i)) (s2:∀i,i < m'->eY m a (a' i)):k=k'/\(∀j,j < k->p j=p' j)/\∀i,i < k->∀c,R i c=R' i c:=by
 have x1:∀i,i < k->eY k' R' (R i):=λi hi=>eY.trans (λt ht=>h'.span t ht) (eY.trans s1 (h.back i hi))
 have x2:∀i,i < k'->eY k R (R' i):=λi hi=>eY.trans (λt ht=>h.span t ht) (eY.trans s2 (h'.back i hi))
 have y1:∀j,j < k->∃i,i < k'/\p' i=p j:=λj hj=>h'.lead_in (x1 j hj) (by rw[h.unit j hj j hj,if_pos rfl];decide) (h.lead j hj)
 have y2:∀j,j < k'->∃i,i < k/\p i=p' j:=λj hj=>h.lead_in (x2 j hj) (by rw[h'.unit j hj j hj,if_pos rfl];decide) (h'.lead j hj)
 obtain z1|w1:=KU h'.inc h.inc y1;obtain z2|w2:=KU h.inc h'.inc y2;have ek:k=k':=Nat.le_antisymm z1 z2;subst ek;have ep:∀j,j < k->p j=p' j:=λj hj=>Nat.le_antisymm (w2 j hj) (w1 j hj)
 refine #[rfl,ep,λi hi c=>?_];rw[h.coef (x2 i hi) c,iQ hi λj hj ne=>by rw[ep j hj,h'.unit i hi j hj,if_neg (λz=>ne z.symm)];grind,ep i hi,h'.unit i hi i hi,if_pos rfl];grind
end
structure lZ (a:Nat->Nat->Rat) (m k P:Nat) (p:Nat->Nat) (l:Nat->Nat->Rat) (d:Rat):Prop where
 km:k<=m
 d0:d≠0
 unit:∀i,i < m->∀j,j < k->l i (p j)=if i=j then d else 0
 inc:∀i j,i < j->j < k->p i < p j
 low:∀j,j < k->p j < P
 zero:∀i,k<=i->i < m->∀c,c < P->l i c=0
 lead:∀j,j < k->∀c,c < p j->l j c=0
 there:∀i,i < m->eY m l (a i)
 back:∀i,i < m->eY m a (l i)
section
variable {m k n P:Nat} {a l l':Nat->Nat->Rat} {p:Nat->Nat} {d d':Rat}
theorem lZ.start:lZ a m 0 0 p a 1 where
 km:=aW _
 d0:=()
 unit _ _ j hj:=absurd hj ()
 inc _ j _ hj:=absurd hj ()
 low j hj:=absurd hj ()
 zero _ _ _ c hc:=absurd hc ()
 lead j hj:=absurd hj ()
 there i hi:=eY.row hi
 back i hi:=eY.row hi
theorem lZ.skip (E:lZ a m k P p l d) (h:∀i,k<=i->i < m->l i P=0):lZ a m k (P+1) p l d :=
 #[E.km,E.d0,E.unit,E.inc,λj hj=>Nat.lt_succ_of_lt (E.low j hj),λi h1 h2 c hc=>by
  by_cases e:c=P
  ·rw[e];exact h i h1 h2
  ·exact E.zero i h1 h2 c (),E.lead,E.there,E.back]
theorem U2:lJ k t (lJ k t i)=i:=by
 unfold lJ
 split
 ·split <;> (try split) <;> lia
 ·split
  ·rw[if_pos rfl];lia
  ·rfl
theorem lZ.swap (E:lZ a m k P p l d) {t:Nat} (h:k<=t) (ht:t < m):lZ a m k P p (λi=>l (lJ k t i)) d where
 km:=E.km
 d0:=E.d0
 unit i hi j hj:=by
  rw[E.unit _ (uP () ht hi) j hj];by_cases hk:i < k
  ·rw[vf h hk]
  ·have:=vQ h (show k<=i by lia);rw[if_neg (),if_neg ()]
 inc:=E.inc
 low:=E.low
 zero i h1 h2 c hc:=E.zero _ (vQ h h1) (uP () ht h2) c hc
 lead j hj c hc:=by rw[vf h hj];exact E.lead j hj c hc
 there i hi:=eY.trans (λs hs=>eY.congr (λc=>by rw[U2]) (eY.row (a:=λi=>l (lJ k t i)) (i:=lJ k t s) (uP () ht hs))) (E.there i hi)
 back i hi:=E.back _ (uP () ht hi)
theorem lZ.step (E:lZ a m k P p l d) (hk:k < m) (h0:d'≠0) (unit':∀i,i < m->∀j,j < k+1->l' i (if j=k then P else p j)=if i=j then d' else 0)
  (hl:∀i,i < m->∃β γ:Rat,β≠0/\(i=k->γ=0)/\∀c,l' i c=β*l i c+γ*l k c):lZ a m (k+1) (P+1) (λj=>if j=k then P else p j) l' d' where
 km:=hk
 d0:=h0
 unit:=unit'
 inc i j hij hj:=by
  by_cases e:j=k
  ·rw[if_pos e,if_neg ()];exact E.low i ()
  ·rw[if_neg e,if_neg ()];exact E.inc i j hij ()
 low j hj:=by
  by_cases e:j=k
  ·rw[if_pos e];lia
  ·rw[if_neg e];exact Nat.lt_succ_of_lt (E.low j ())
 zero i h1 h2 c hc:=by
  by_cases e:c=P
  ·have:=unit' i h2 k ();rw[if_pos rfl,if_neg ()] at this;rw[e];exact this
  ·obtain β|γ|_|_|q:=hl i h2;rw[q c,E.zero i () h2 c (),E.zero k (ah _) hk c ()];grind
 lead j hj c hc:=by
  have km:=E.km;obtain β|γ|_|_|q:=hl j ();by_cases e:j=k
  ·rw[if_pos e] at hc;rw[q c,e,E.zero k (ah _) hk c hc];grind
  ·rw[if_neg e] at hc;have:=E.low j ();rw[q c,E.lead j () c hc,E.zero k (ah _) hk c ()];grind
 there i hi:=by
  refine eY.trans (λs hs=>?_) (E.there i hi);obtain β|γ|b0|_|q:=hl s hs;obtain βk|γk|bk0|gk|qk:=hl k hk;have g0:=gk rfl;refine eY.congr (λc=>?_) (eY.lin (1 / β) (-(γ / β) / βk) (eY.row (a:=l') hs) (eY.row (a:=l') hk));rw[q c,qk c,g0];grind
 back i hi:=by
  obtain β|γ|_|_|q:=hl i hi;exact eY.congr (λc=>(q c).symm) (eY.lin β γ (E.back i hi) (E.back k hk))
theorem lZ.done (E:lZ a m k n p l d) (ha:∀i,i < m->∀c,n<=c->a i c=0):Fz m n a k p (λi c=>l i c / d) where
 inc:=E.inc
 low:=E.low
 unit i hi j hj:=by
  have d0:=E.d0;have km:=E.km;rw[E.unit i () j hj]
  split
  ·grind
  ·grind
 lead i hi c hc:=by
  rw[E.lead i hi c hc];grind
 span i hi:=by
  have d0:=E.d0;refine eY.trans (λs hs=>?_) (E.there i hi);by_cases z:s < k
  ·refine eY.congr (λc=>?_) (eY.lin d 0 (eY.row (a:=λi c=>l i c / d) z) (eY.row (a:=λi c=>l i c / d) z));grind
  ·refine eY.zero λc=>?_
   by_cases hc:c < n
   ·exact E.zero s () hs c hc
   ·obtain w|hw:=E.back s hs;rw[hw c,cZ λt ht=>by rw[ha t ht c ()];grind]
 back i hi:=by
  have km:=E.km;have d0:=E.d0;refine eY.congr (λc=>?_) (eY.lin (1 / d) 0 (E.back i ()) (E.back i ()));grind
end
def fv (ls:List (List Int)) (i c:Nat):Rat:=(((ls.getD i []).getD c 0:Int):Rat)
def bV (rows:LR9) (i c:Nat):Rat:=(rows.getD i []).getD c 0
def qD (ls:List (List Int)) (k t:Nat):List (List Int):=(ls.set k (ls.getD t [])).set t (ls.getD k [])
def Ib (ls:List (List Int)) (k c:Nat) (b:Int):List (List Int):=(ls.map λzs=>List.zipWith (λx y=>((ls.getD k []).getD c 0*x - zs.getD c 0*y).fdiv b) zs (ls.getD k [])).set k (ls.getD k [])
section
variable {b d:Int}
theorem ug {α:Type} {l:List α} {x e:α} (hi:i < l.9):(l.set i x).getD j e=if j=i then x else l.getD j e:=by
 rw[aa,aa,List.getElem?_set];by_cases h:j=i
 ·subst h;rw[if_pos rfl,if_pos hi,if_pos rfl];rfl
 ·rw[if_neg (λz=>h z.symm),if_neg h]
theorem xk:(qD ls k t).9=ls.9:=by unfold qD;rw[eH,eH]
theorem OT:(Ib ls k c b).9=ls.9:=by unfold Ib;rw[eH,ag]
theorem getD_in {α:Type} {l:List α} {e:α} (h:i < l.9):l.getD i e∈l:=by
 rw[aa,ae h];exact aF h
theorem Kh (w:∀zs∈ls,zs.9=n) (hk:k < ls.9) (ht:t < ls.9):∀zs∈qD ls k t,zs.9=n:=λzs hz=>by
 unfold qD at hz;rcases cx hz with h | h
 ·rcases cx h with h | h
  ·exact w zs h
  ·rw[h];exact w _ (getD_in ht)
 ·rw[h];exact w _ (getD_in hk)
theorem La (w:∀zs∈ls,zs.9=n) (hk:k < ls.9):∀zs∈Ib ls k c b,zs.9=n:=λzs hz=>by
 unfold Ib at hz;rcases cx hz with h | h
 ·obtain y|hy|rfl:=aA.mp h;rw[aZ,w y hy,w _ (getD_in hk)]
  lia
 ·rw[h];exact w _ (getD_in hk)
theorem wN (hk:k < ls.9) (ht:t < ls.9) (i c:Nat):fv (qD ls k t) i c=fv ls (lJ k t i) c:=by
 unfold fv qD lJ;rw[ug (by rw[eH];exact ht),ug hk];by_cases h1:i=t
 ·rw[if_pos h1];by_cases h2:i=k
  ·rw[if_pos h2,<- h1,<- h2]
  ·rw[if_neg h2,if_pos h1]
 ·rw[if_neg h1];by_cases h2:i=k
  ·rw[if_pos h2,if_pos h2]
  ·rw[if_neg h2,if_neg h2,if_neg h1]
theorem xS (w:∀zs∈ls,zs.9=n) (hc:n<=c):fv ls i c=0:=by
 unfold fv;by_cases h:i < ls.9
 ·have:=w _ (getD_in (e:=[]) h);rw[aa (l:=ls.getD i []),aP ()];rfl
 ·rw[aa (l:=ls),aP ()];rfl
theorem oG {x:Int} (h:(x:Rat)=0):x=0:=by
 have:(x:Rat)=((0:Int):Rat):=h;exact du.mp this
theorem JH {x b:Int} (hb:b≠0) (hq:∃z:Int,q=(z:Rat)) (e:(x:Rat)=(b:Rat)*q):((x.fdiv b:Int):Rat)=q:=by
 obtain z|rfl:=hq;rw[<- aQ] at e;have:=du.mp e;rw[this,Int.mul_fdiv_cancel_left _ hb]
theorem oV (h:Fr 1 W q):∃z:Int,q=(z:Rat):=by
 obtain z|e|_:=h;exact #[z,by rw[<- e];simp]
theorem pR {z:Int} (h:Fr 1 W (z:Rat)):z.natAbs<=W:=by
 obtain y|e|b:=h;have:(z:Rat)=(y:Rat):=by rw[<- e];simp
 rw[du.mp this];simpa using b
theorem Ow (w:∀zs∈ls,zs.9=n) (hk:k < ls.9) (hb:b≠0) (hi:i < ls.9) (hz:∀c,∃z:Int,(fv ls k P*fv ls i c - fv ls i P*fv ls k c) / (b:Rat)=(z:Rat)) (c:Nat) :
  fv (Ib ls k P b) i c=if i=k then fv ls k c else (fv ls k P*fv ls i c - fv ls i P*fv ls k c) / (b:Rat):=by
 by_cases e:i=k
 ·rw[if_pos e];unfold fv Ib;rw[ug (by rw[ag];exact hk),if_pos e]
 ·rw[if_neg e];by_cases hc:c < n
  ·have hb':(b:Rat)≠0:=λz=>hb (oG z)
   have lk:=w _ (getD_in (e:=[]) hk);have li:=w _ (getD_in (e:=[]) hi)
   have e1:fv (Ib ls k P b) i c=(((((ls.getD k []).getD P 0*(ls.getD i []).getD c 0 - (ls.getD i []).getD P 0*(ls.getD k []).getD c 0).fdiv b:Int)):Rat):=by
    unfold Ib;rw[fv,ug (by rw[ag];exact hk),if_neg e];rw[aa (l:=List.map _ ls),aB,ae hi];show ((((List.zipWith _ ls[i] (ls.getD k [])).getD c 0:Int)):Rat)=_
    have ei:ls.getD i []=ls[i]:=by rw[aa,ae hi];rfl
    rw[<- ei];rw[aa (l:=List.zipWith _ _ _),bp,aa (l:=ls.getD i []) (i:=c),aa (l:=ls.getD k []) (i:=c),ae (show c < (ls.getD i []).9 by lia),ae (show c < (ls.getD k []).9 by lia)];rfl
   rw[e1];refine JH hb (hz c) ?_;rw[A9,aQ,aQ];show _=(b:Rat)*((fv ls k P*fv ls i c - fv ls i P*fv ls k c) / (b:Rat))
   show fv ls k P*fv ls i c - fv ls i P*fv ls k c=_
   grind
  ·rw[xS (La w hk) (show n<=c by lia),xS w (i:=i) (show n<=c by lia),xS w (i:=k) (show n<=c by lia)];grind
end
section
variable {m k n P:Nat} {a l l2:Nat->Nat->Rat} {pm p p2:Nat->Nat} {d:Rat}
theorem xg.congr (B:xg a m k pm p l d) (hp:∀j,j < k->p2 j=p j) (hl:∀i,i < m->∀c,l2 i c=l i c):xg a m k pm p2 l2 d where
 inj:=B.inj
 rng:=B.rng
 km:=B.km
 d0:=B.d0
 det:=by rw[B.det,cw_congr (f:=λj r=>a r (p j)) (g:=λj r=>a r (p2 j)) λj hj=>by rw[hp j hj]]
 eqs i hi c:=by
  have km:=B.km;rw[B.eqs i hi c,hl i hi c];congr 1;exact aN λj hj=>by rw[hp j hj,hl j () c]
 unit i hi j hj:=by rw[hp j hj,hl i hi];exact B.unit i hi j hj
theorem eY.rows (h:∀i,i < m->∀c,l2 i c=l i c) (hx:eY m l x):eY m l2 x:=by obtain w|hw:=hx;exact #[w,λc=>by rw[hw c];exact aN λt ht=>by rw[h t ht c]]
theorem lZ.congr (E:lZ a m k P p l d) (hp:∀j,j < k->p2 j=p j) (hl:∀i,i < m->∀c,l2 i c=l i c):lZ a m k P p2 l2 d where
 km:=E.km
 d0:=E.d0
 unit i hi j hj:=by rw[hp j hj,hl i hi];exact E.unit i hi j hj
 inc i j hij hj:=by rw[hp i (),hp j hj];exact E.inc i j hij hj
 low j hj:=by rw[hp j hj];exact E.low j hj
 zero i h1 h2 c hc:=by rw[hl i h2];exact E.zero i h1 h2 c hc
 lead j hj c hc:=by
  have km:=E.km;rw[hp j hj] at hc;rw[hl j ()];exact E.lead j hj c hc
 there i hi:=(E.there i hi).rows hl
 back i hi:=(E.back i hi).congr λc=>(hl i hi c).symm
theorem lZ.kP (E:lZ a m k P p l d):k<=P:=by
 have:∀j,j < k->j<=p j:=by
  intro j
  induction j with
  | zero=>intro _;exact aW _
  | succ j ih =>
   intro hj;have:=ih ();have:=E.inc j (j+1) () hj
   lia
 rcases iH k with z | z
 ·lia
 ·have h1:=this (k - 1) ();have h2:=E.low (k - 1) ()
  lia
end
structure Dk (ls0:List (List Int)) (n P:Nat) (ls:List (List Int)) (ps:List Nat) (d:Int):Prop where
 len:ls.9=ls0.9
 wide:∀zs∈ls,zs.9=n
 bar:∃pm,xg (fv ls0) ls0.9 ps.9 pm (λj=>ps.getD j 0) (fv ls) d
 el:lZ (fv ls0) ls0.9 ps.9 P (λj=>ps.getD j 0) (fv ls) d
theorem Dk.start (w:∀zs∈ls0,zs.9=n):Dk ls0 n 0 ls0 [] 1:=#[rfl,w,#[λi=>i,xg.start λ_ _=>rfl],lZ.start]
theorem Dk.d0 (h:Dk ls0 n P ls ps d):d≠0:=λz=>h.el.d0 (by rw[z];rfl)
theorem Dk.skip (h:Dk ls0 n P ls ps d) (hz:∀i,ps.9<=i->i < ls.9->fv ls i P=0):Dk ls0 n (P+1) ls ps d:=#[h.len,h.wide,h.bar,h.el.skip λi h1 h2=>hz i h1 (by rw[h.len];exact h2)]
theorem getD_snoc (hj:j < l.9+1):(l++[x]).getD j 0=if j=l.9 then x else l.getD j 0:=by
 rw[aa,aa];by_cases e:j=l.9
 ·rw[if_pos e,e,a7 (ah _),fY];rfl
 ·rw[if_neg e,bA ()]
theorem Dk.int (h:Dk ls0 n P ls ps d) (hW:1<=W) (h0:∀i,i < ls0.9->∀c,Fr 1 W (fv ls0 i c)) (ht:ps.9<=t) (ht2:t < ls.9) (hne:fv ls t P≠0) :
  ∀i,i < ls.9->i≠ps.9->∀c,∃z:Int,(fv (qD ls ps.9 t) ps.9 P*fv (qD ls ps.9 t) i c - fv (qD ls ps.9 t) i P*fv (qD ls ps.9 t) ps.9 c) / (d:Rat)=(z:Rat):=λi hi ne c=>by
 obtain pm|B:=h.bar;have hl:=h.len;have hk:ps.9 < ls.9:=()
 have B1:=(B.swap ht ()).congr (p2:=λj=>ps.getD j 0) (l2:=fv (qD ls ps.9 t)) (λ_ _=>rfl) (λi _ c=>wN hk ht2 i c)
 have h1:fv (qD ls ps.9 t) ps.9 P≠0:=by
  rw[wN hk ht2];unfold lJ;rw[if_pos rfl];exact hne
 have B2:=B1.step (c0:=P) () h1;have:=B2.fr (W:=W) (N:=ps.9+2) () hW h0 (i:=i) (c:=c) ();rw[if_neg ne] at this;exact oV this
theorem Dk.step (h:Dk ls0 n P ls ps d) (hW:1<=W) (h0:∀i,i < ls0.9->∀c,Fr 1 W (fv ls0 i c)) (ht:ps.9<=t) (ht2:t < ls.9) (hne:fv ls t P≠0) :
  Dk ls0 n (P+1) (Ib (qD ls ps.9 t) ps.9 P d) (ps++[P]) (((Ib (qD ls ps.9 t) ps.9 P d).getD ps.9 []).getD P 0):=by
 obtain pm|B:=h.bar;have hl:=h.len;have hk:ps.9 < ls.9:=()
 have hz:=h.int hW h0 ht ht2 hne;have w1:=Kh h.wide hk ht2;have k1:ps.9 < (qD ls ps.9 t).9:=by rw[xk];exact hk
 have B1:=(B.swap ht ()).congr (p2:=λj=>ps.getD j 0) (l2:=fv (qD ls ps.9 t)) (λ_ _=>rfl) (λi _ c=>wN hk ht2 i c);have E1:=(h.el.swap ht ()).congr (p2:=λj=>ps.getD j 0) (l2:=fv (qD ls ps.9 t)) (λ_ _=>rfl) (λi _ c=>wN hk ht2 i c)
 have h1:fv (qD ls ps.9 t) ps.9 P≠0:=by
  rw[wN hk ht2];unfold lJ;rw[if_pos rfl];exact hne
 have B2:=B1.step (c0:=P) () h1
 have fc:∀i,i < ls0.9->∀c,fv (Ib (qD ls ps.9 t) ps.9 P d) i c=if i=ps.9 then fv (qD ls ps.9 t) ps.9 c else (fv (qD ls ps.9 t) ps.9 P*fv (qD ls ps.9 t) i c - fv (qD ls ps.9 t) i P*fv (qD ls ps.9 t) ps.9 c) / (d:Rat):=λi hi c=>by
  by_cases e:i=ps.9
  ·rw[if_pos e];unfold fv Ib;rw[ug (by rw[ag];exact k1),if_pos e]
  ·have:=Ow w1 k1 h.d0 (i:=i) (by rw[xk];lia) (hz i () e) c;rw[this]
 have ed:(((((Ib (qD ls ps.9 t) ps.9 P d).getD ps.9 []).getD P 0:Int)):Rat)=fv (qD ls ps.9 t) ps.9 P:=by
  have:=fc ps.9 () P;rw[if_pos rfl] at this;exact this
 have lp:(ps++[P]).9=ps.9+1:=by rw[aj];rfl
 have hp:∀j,j < ps.9+1->(ps++[P]).getD j 0=if j=ps.9 then P else ps.getD j 0:=λj hj=>getD_snoc hj
 refine #[by rw[OT,xk];exact hl,La w1 k1,#[λi=>pm (lJ ps.9 t i),?_],?_]
 ·rw[ed,lp];exact B2.congr hp fc
 ·rw[ed,lp];refine lZ.congr (E1.step (d':=fv (qD ls ps.9 t) ps.9 P) (l':=λi c=>if i=ps.9 then fv (qD ls ps.9 t) ps.9 c else (fv (qD ls ps.9 t) ps.9 P*fv (qD ls ps.9 t) i c - fv (qD ls ps.9 t) i P*fv (qD ls ps.9 t) ps.9 c) / (d:Rat)) () h1 B2.unit λi hi=>?_) hp fc;have d0:=h.el.d0;by_cases e:i=ps.9
  ·refine #[1,0,(),λ_=>rfl,λc=>?_];rw[if_pos e,e];grind
  ·refine #[fv (qD ls ps.9 t) ps.9 P / (d:Rat),-(fv (qD ls ps.9 t) i P) / (d:Rat),?_,λz=>absurd z e,λc=>?_]
   ·intro z;apply h1;grind
   ·rw[if_neg e];grind
theorem Dk.sz (h:Dk ls0 n P ls ps d) (hW:1<=W) (h0:∀i,i < ls0.9->∀c,Fr 1 W (fv ls0 i c)) (hP:P<=n) (hr:min ls0.9 n<=r) (r15:r<=15):(d.natAbs<=(16*W)^r)/\∀zs∈ls,∀z∈zs,z.natAbs<=(16*W)^r:=by
 obtain pm|B:=h.bar;have kP:=h.el.kP;have km:=B.km;have hl:=h.len;have mono:∀{s t:Nat},s<=t->(16*W)^s<=(16*W)^t:=λhs=>ak (aM () hW) hs
 refine #[af (pR (B.dfr (W:=W) (N:=16) () h0)) (mono ()),λzs hz z hz'=>?_];obtain i|hi|rfl:=aX hz;obtain c|hc|rfl:=aX hz';have hw:=h.wide _ (aF hi)
 have ez:fv ls i c=(((ls[i])[c]:Int):Rat):=by
  unfold fv;rw[aa (l:=ls),ae hi];show ((ls[i].getD c 0:Int):Rat)=_
  rw[aa,ae hc];rfl
 by_cases hk:i < ps.9
 ·have:Fr 1 ((16*W)^ps.9) (fv ls i c):=by
   have hd:=B.d0;rw[B.old hk]
   have:=yt (W:=W) (N:=16) (rs:=mL pm ps.9) (vs:=BU (λj r=>fv ls0 r (ps.getD j 0)) i ps.9++(λr=>fv ls0 r c) :: jI (λj r=>fv ls0 r (ps.getD j 0)) i) (by
    have:=congrArg List.length (cw_split (v:=λj r=>fv ls0 r (ps.getD j 0)) hk);rw[aj,a8,cw_len] at this;rw[aj,a8]
    lia) (by
    intro v hv r hr
    have hr':∀c,Fr 1 W (fv ls0 r c):=λc=>by
     obtain t|ht|rfl:=mZ hr;exact h0 _ (B.rng t ()) c
    rcases av.mp hv with hv | hv
    ·obtain t|_|rfl:=C5 hv;exact hr' _
    ·rcases aD.mp hv with rfl | hv
     ·exact hr' _
     ·obtain t|_|rfl:=cw_in hv;exact hr' _)
   rwa [tR] at this
  rw[ez] at this;exact af (pR this) (mono ())
 ·by_cases hn:ps.9 < n
  ·have:=B.fr (W:=W) (N:=16) () hW h0 (i:=i) (c:=c) ();rw[ez] at this;exact af (pR this) (mono ())
  ·have:=h.el.zero i () () c ();rw[ez] at this;rw[oG this];exact aW _
def Tp (M W:Nat) (q:Rat):Prop:=∃z:Int,q*(M:Rat)=(z:Rat)/\z.natAbs<=W
theorem Tp.of {M V W:Nat} (h:Fr M V q) (hW:V*M<=W):Tp M W q:=by obtain z|a|b:=h;exact #[z,a,af b hW]
theorem Tp.mono (h:Tp M W q) (hW:W<=W'):Tp M W' q:=by obtain z|a|b:=h;exact #[z,a,af b hW]
theorem Tp.fr (h:Tp M W q) (h0:0 < M):Fr M W q:=by obtain z|a|b:=h;exact #[z,a,af b (cJ _ h0)]
def Dm (rows:LR9) (n w:Nat):Prop:=∃M W:Nat,0 < M/\M<=2^4300000/\1<=W/\W<=2^w/\(∀xs∈rows,∀x∈xs,Tp M W x)/\w<=4300000/\min rows.9 n<=15/\min rows.9 n*(w+4)<=8900000
def js (xs:List Rat):List Int:=d5 (xs.map nm) (fF (xs.map nm))
theorem sO:(js xs).9=xs.9:=by unfold js d5;rw[ag,ag]
theorem p7 {xs:List Rat}:0 < fF (xs.map nm):=AH () λb hb=>by
 obtain n|hn|rfl:=aA.mp hb;obtain x|_|rfl:=aA.mp hn;exact ik x
theorem Pj:(((js xs).getD c 0:Int):Rat)=xs.getD c 0*((fF (xs.map nm):Int):Rat):=by
 unfold js d5;rw[aa,aa,aB,aB];cases e:xs[c]? with
 | none=>show ((0:Int):Rat)=0*_;rw[j9];rfl
 | some x=>exact sN (p9 (aA.mpr #[x,ar e,rfl]))
section
variable {xs:List Rat}
theorem za (hi:i < rows.9):fv (rows.map js) i c=((fF ((rows.getD i []).map nm):Int):Rat)*bV rows i c:=by
 unfold fv bV
 have e:(rows.map js).getD i []=js (rows.getD i []):=by
  rw[aa,aa,aB,ae hi];rfl
 rw[e,Pj,di]
theorem xR (hw:∀xs∈rows,xs.9=n) (hc:n<=c):bV rows i c=0:=by
 unfold bV;by_cases h:i < rows.9
 ·have:=hw _ (getD_in (e:=[]) h);rw[aa (l:=rows.getD i []),aP ()];rfl
 ·rw[aa (l:=rows),aP ()];rfl
theorem Ds (i:Nat) (hi:i < rows.9):eY rows.9 (fv (rows.map js)) (bV rows i):=by
 have h0:((fF ((rows.getD i []).map nm):Int):Rat)≠0:=λz=>by
  have:=p7 (xs:=rows.getD i []);have:=oG z
  lia
 refine eY.congr (λc=>?_) (eY.lin (1 / ((fF ((rows.getD i []).map nm):Int):Rat)) 0 (eY.row (a:=fv (rows.map js)) hi) (eY.row (a:=fv (rows.map js)) hi));rw[za hi];grind
theorem Dq (i:Nat) (hi:i < rows.9):eY rows.9 (bV rows) (fv (rows.map js) i):=by
 refine eY.congr (λc=>?_) (eY.lin ((fF ((rows.getD i []).map nm):Int):Rat) 0 (eY.row (a:=bV rows) hi) (eY.row (a:=bV rows) hi));rw[za hi];grind
theorem qC (h:Tp M W x):(nm x).2∣(M:Int):=by
 obtain z|e|b:=h
 exact Fr.den (V:=z.natAbs) (M:=M) #[z,e,by
  rcases iH M with h | h
  ·subst h;have:(z:Rat)=0:=by rw[<- e];simp
   rw[oG this];simp
  ·exact cJ _ h]
theorem ve (h:Tp M W x) (h0:0 < M) (hB:0 < B) (d1:(nm x).2∣B) (d2:B∣(M:Int)):∃t:Int,x*(B:Rat)=(t:Rat)/\t.natAbs<=W:=by
 obtain z|e|b:=h;obtain s|es:=d2;refine #[(nm x).1*(B / (nm x).2),(sN d1).symm,?_]
 have s0:0 < s:=by
  rcases Int.lt_trichotomy s 0 with h | h | h
  ·have:=vN hB h
   lia
  ·rw[h] at es;lia
  ·exact h
 have e2:(((nm x).1*(B / (nm x).2)*s:Int):Rat)=(z:Rat):=by
  rw[aQ,sN d1,<- e,<- aI,es,aQ];grind
 have e3:=du.mp e2;have:((nm x).1*(B / (nm x).2)).natAbs*s.natAbs=z.natAbs:=by rw[<- cX,e3]
 have h1:1<=s.natAbs:=()
 have:=cJ ((nm x).1*(B / (nm x).2)).natAbs h1
 lia
theorem yR (h0:0 < M) (h:∀x∈xs,Tp M W x):fF (xs.map nm)∣(M:Int):=yP () (Int.one_dvd _) λb hb=>by
 obtain n|hn|rfl:=aA.mp hb;obtain x|hx|rfl:=aA.mp hn;exact #[ik x,qC (h x hx)]
theorem Dm.rowM (F:Dm rows n w) (hx:xs∈rows):∃M,IG M (xs.map nm):=by
 obtain M|W|h0|h1|hW|h2|h3|h4|_:=F;refine #[M,(),?_,λy hy=>?_]
 ·show ((M:Nat):Int).natAbs < 2^4400000
  rw[bx];exact bc h1 (dg () ())
 ·obtain x|hx'|rfl:=aA.mp hy;have t:=h3 xs hx x hx';refine #[ik x,qC t,?_];obtain s|e|b:=ve t h0 (ik x) (y7 _) (qC t);have e2:(((nm x).1:Int):Rat)=(s:Rat):=by rw[<- e];exact jM x
  rw[du.mp e2];exact bc (af b h2) (dg () ())
theorem Dm.ent (F:Dm rows n w):∃W:Nat,1<=W/\W<=2^w/\∀i,i < (rows.map js).9->∀c,Fr 1 W (fv (rows.map js) i c):=by
 obtain M|W|h0|h1|hW|h2|h3|h4|_:=F;refine #[W,hW,h2,λi hi c=>?_];rw[ag] at hi;have hx:=getD_in (e:=[]) hi;rw[za hi];unfold bV;generalize rows.getD i []=xs at hx ⊢;by_cases hc:c < xs.9
 ·have t:=h3 xs hx _ (getD_in (e:=0) hc);obtain s|e|b:=ve t h0 (p7 (xs:=xs)) (p9 (aA.mpr #[_,getD_in (e:=0) hc,rfl])) (yR h0 (h3 xs hx));rw[di,e];exact Fr.int b
 ·rw[aa,aP ()];show Fr 1 W (_*0)
  rw[eC];exact Fr.zero
end
def bS (rows:LR9) (n:Nat) (R:LR9) (ps:List Nat):Prop:=R.9=ps.9/\(∀xs∈R,xs.9=n)/\Fz rows.9 n (bV rows) ps.9 (λj=>ps.getD j 0) (bV R)
structure Ws (rows:LR9) (n w:Nat) (R:LR9) (ps:List Nat) (d:Int) (ls:List (List Int)):Prop where
 rr:bS rows n R ps
 d0:d≠0
 len:ls.9=ps.9
 wide:∀zs∈ls,zs.9=n
 val:∀i c,fv ls i c=(d:Rat)*bV R i c
 dsz:d.natAbs<=2^(min rows.9 n*(w+4))
 zsz:∀zs∈ls,∀z∈zs,z.natAbs<=2^(min rows.9 n*(w+4))
 tp:∀xs∈R,∀x∈xs,Tp d.natAbs (2^(min rows.9 n*(w+4))) x
 km:ps.9<=rows.9
theorem Fz.congrR {a R R2:Nat->Nat->Rat} (h:Fz m n a k p R) (hr:∀i,i < k->∀c,R2 i c=R i c):Fz m n a k p R2 :=
 #[h.inc,h.low,λi hi j hj=>by rw[hr i hi];exact h.unit i hi j hj,λi hi c hc=>by rw[hr i hi];exact h.lead i hi c hc,λi hi=>(h.span i hi).rows hr,λi hi=>(h.back i hi).congr λc=>(hr i hi c).symm]
theorem Fz.other (h:Fz m n a k p R) (s1:∀i,i < m->eY m' a' (a i)) (s2:∀i,i < m'->eY m a (a' i)):Fz m' n a' k p R :=
 #[h.inc,h.low,h.unit,h.lead,λi hi=>eY.trans h.span (s2 i hi),λi hi=>eY.trans s1 (h.back i hi)]
theorem xI (h:W<=2^w):(16*W)^r<=2^(r*(w+4)):=by
 calc (16*W)^r<=(2^(w+4))^r:=mW (by rw[ax];lia) _
  _=2^(r*(w+4)):=by rw[<- rR,bQ]
theorem Dk.done (h:Dk (rows.map js) n n ls ps d) (hw:∀xs∈rows,xs.9=n) (F:Dm rows n w) :
  ∃R,Ws rows n w R ps d (ls.take ps.9):=by
 obtain W|hW|W2|ent:=F.ent;obtain _|_|_|_|_|_|_|_|r15|_:=F;have hl:=h.len;have d0:=h.d0;have d0':(d:Rat)≠0:=λz=>d0 (oG z)
 have km:=h.el.km;have hm:(rows.map js).9=rows.9:=ag ..;obtain s1|s2:=h.sz (r:=min rows.9 n) hW ent (ah _) (by rw[hm];exact ah _) r15;have s2':∀zs∈ls,∀z∈zs,z.natAbs<=2^(min rows.9 n*(w+4)):=λzs hz z hz'=>af (s2 zs hz z hz') (xI W2)
 have er:∀i c,bV ((ls.take ps.9).map λzs=>zs.map λ(z:Int)=>(z:Rat) / (d:Rat)) i c=fv (ls.take ps.9) i c / (d:Rat):=λi c=>by
  unfold bV fv;rw[aa (l:=List.map _ _),aB,aa (l:=List.take _ _)];cases e:(ls.take ps.9)[i]? with
  | none=>show (0:Rat)=((0:Int):Rat) / _;grind
  | some zs =>
   show (zs.map λ(z:Int)=>(z:Rat) / (d:Rat)).getD c 0=((zs.getD c 0:Int):Rat) / (d:Rat)
   rw[aa,aa,aB];cases e2:zs[c]? with
   | none=>show (0:Rat)=((0:Int):Rat) / _;grind
   | some z=>rfl
 have et:∀i,i < ps.9->∀c,fv (ls.take ps.9) i c=fv ls i c:=λi hi c=>by
  unfold fv;rw[aa (l:=List.take _ _),jo hi,<- aa]
 have RR:=(h.el.done λi hi c hc=>xS (n:=n) (λzs hz=>by
  obtain xs|hx|rfl:=aA.mp hz;rw[sO];exact hw xs hx) hc).congrR (R2:=bV ((ls.take ps.9).map λzs=>zs.map λ(z:Int)=>(z:Rat) / (d:Rat))) λi hi c=>by rw[er,et i hi]
 rw[hm] at RR;refine #[(ls.take ps.9).map λzs=>zs.map λ(z:Int)=>(z:Rat) / (d:Rat),#[by rw[ag,bY];lia,λxs hx=>?_,RR.other Dq Ds],d0,by rw[bY];lia,λzs hz=>h.wide zs (bN hz),λi c=>?_,af s1 (xI W2),λzs hz=>s2' zs (bN hz),λxs hx x hx'=>?_,()]
 ·obtain zs|hz|rfl:=aA.mp hx;rw[ag];exact h.wide zs (bN hz)
 ·rw[er];grind
 ·obtain zs|hz|rfl:=aA.mp hx;obtain z|hz'|rfl:=aA.mp hx';have b:=s2' zs (bN hz) z hz';rcases xh d with e | e
  ·refine #[z,?_,b];have:((d.natAbs:Nat):Rat)=(d:Rat):=by rw[<- aI,<- e]
   rw[this];grind
  ·refine #[-z,?_,by rw[pe];exact b];have:((d.natAbs:Nat):Rat)=-(d:Rat):=by rw[<- aI,<- cU];congr 1;lia
   rw[this,cU];grind
theorem Ou (hl:R.9=R'.9) (w1:∀xs∈R,xs.9=n) (w2:∀xs∈R',xs.9=n) (h:∀i,i < R.9->∀c,bV R i c=bV R' i c):R=R':=by
 apply fO hl;intro i h1 h2;apply fO (by rw[w1 _ (aF h1),w2 _ (aF h2)]);intro c h3 h4;have:=h i h1 c;unfold bV at this;rw[aa (l:=R),aa (l:=R'),ae h1,ae h2] at this;have this:(R[i]).getD c 0=(R'[i]).getD c 0:=this;rw[aa,aa,ae h3,ae h4] at this;exact this
theorem bS.uniq (h:bS rows n R ps) (h':bS rows' n R' ps') (s1:∀i,i < rows.9->eY rows'.9 (bV rows') (bV rows i)) (s2:∀i,i < rows'.9->eY rows.9 (bV rows) (bV rows' i)):R=R'/\ps=ps':=by
 obtain l1|w1|r1:=h;obtain l2|w2|r2:=h';obtain ek|ep|eR:=r1.uniq r2 s1 s2;refine #[Ou () w1 w2 λi hi c=>eR i () c,?_];apply fO ek;intro j h1 h2;have:=ep j h1;rw[aa,aa,ae h1,ae h2] at this;exact this
theorem bS.same (h:bS rows n R ps) (h':bS rows n R' ps'):R=R'/\ps=ps':=h.uniq h' (λ_ hi=>eY.row hi) (λ_ hi=>eY.row hi)
open PySem PySem.Spec PyProof.Rows
def Le (l:Addr) (H:Hp) (zs:List Int) (v:V):Prop:=∃q,v=V.ref q/\q≠l/\H q=some (.lst (zs.map V.int))
def uA (l:Addr) (H:Hp) (p:Addr) (ls:List (List Int)):Prop:=p≠l/\∃xs,H p=some (.lst xs)/\Paired (Le l H) ls xs
theorem Le.same (h:Le l H zs v) (e:aH H H'):Le l H' zs v:=by obtain q|a|n|b:=h;exact #[q,a,n,e _ _ b]
theorem Le.upd {l:Addr} {H:Hp} {zs:List Int} {v:V} {o:HO} (h:Le l H zs v):Le l (upd H l o) zs v:=by obtain q|a|n|b:=h;exact #[q,a,n,by rw[bG n];exact b]
theorem uA.upd {l:Addr} {H:Hp} {p:Addr} {ls:List (List Int)} {o:HO} (h:uA l H p ls):uA l (upd H l o) p ls:=by obtain n|xs|a|b:=h;exact #[n,xs,by rw[bG n];exact a,Paired.imp' (λ_ _ z=>z.upd) b]
theorem ne_old {H:Hp} (h:H l≠none) (n:H r=none):r≠l:=λz=>h (by rw[<- z];exact n)
theorem lO {α β:Type} {F:α->β->Prop}:∀{l1:List α} {l2:List β} (_:Paired F l1 l2) (i:Nat) {x:α} {y:β},F x y->Paired F (l1.set i x) (l2.set i y)
 | _,_,.nil,_,_,_,_=>.nil
 | _,_,.cons _ r,0,_,_,h=>.cons h r
 | _,_,.cons a r,i+1,_,_,h=>.cons a (lO r i h)
theorem MP (h:ls[i]?=some zs):fv ls i c=((zs.getD c 0:Int):Rat):=by
 unfold fv;rw[aa (l:=ls),h];rfl
theorem Wc:((z:Int):Rat)≠0↔z≠0:=#[λh e=>h (by rw[e];rfl),λh e=>h (oG e)]
theorem y8 {zs:List Int} (h:c < zs.9):JT (zs.map V.int) (c:Int)=some (V.int (zs.getD c 0)):=fJ (by rw[aB,aa,ae h];rfl)
inductive CI (vs:List V) (H:Hp) (Q:VK) (E9:XK):Prop
 | mk (l p:Addr) (ls:List (List Int)) (b c:Nat):vs=[.ref p,.int b,.int c]->uA l H p ls->ls.9<=1000->b<=1000->(∀zs∈ls,c < zs.9)->(∀t:Nat,b<=t->t < ls.9->fv ls t c≠0->Q (.int t) H)->((∀t,b<=t->t < ls.9->fv ls t c=0)->Q .non H)->CI  vs H Q E9
inductive yi (vs:List V) (H:Hp) (Q:VK) (E9:XK):Prop
 | mk (l p:Addr) (ls:List (List Int)) (t k:Nat):vs=[.ref p,.int t,.int k]->H l≠none->uA l H p ls->ls.9<=1000->t < ls.9->k < ls.9->(∀r H',H r=none->aH H H'->uA l H' r (qD ls k t)->Q (.ref r) H')->yi  vs H Q E9
inductive CJ (vs:List V) (H:Hp) (Q:VK) (E9:XK):Prop
 | mk (l p:Addr) (ls:List (List Int)) (k c n:Nat) (b:Int):vs=[.ref p,.int k,.int c,.int b]->H l≠none->uA l H p ls->ls.9<=1000->k < ls.9->(∀zs∈ls,zs.9=n)->n<=1000->c < n->b≠0->Sz 8999000 b->(∀zs∈ls,∀z∈zs,Sz 8999000 z)->(∀r H',H r=none->aH H H'->uA l H' r (Ib ls k c b)->Q (.ref r) H')->CJ  vs H Q E9
theorem NF (K:FG9) {X:Cx} {a b:Expr} {ta:TA} {p pos tpos:Pos} {elts:List Expr} {kk:Nat} (hg:Gl X "zip") (hm:X.mg "zip"=none) (ha:PA X [a,b] ta) (hK:X.K=K:=by rfl) (hs:starEach [a,b] X.env=[(false,eval a X.env),(false,eval b X.env)]:=by rfl) (hs2:starEach [b] X.env=[(false,eval b X.env)]:=by rfl) :
  PI X (.Tuple elts kk tpos) (.Call (.Name "zip" p) [a,b] [] pos) (T8 K ta):=by subst hK;exact qV hg hm ha hs hs2
def il (ps:List Nat):List V:=ps.map λ(j:Nat)=>V.int (j:Int)
inductive Cw (K:FG9) (vs:List V) (H:Hp) (Q:VK) (E9:XK):Prop
 | mk (p:Addr) (n w:Nat) (H0:Hp) (rows:LR9):vs=[.ref p,.int n]->bu K H0 H p rows->rows.9<=100->n<=100->(∀xs∈rows,xs.9=n)->Dm rows n w->(∀t lp qp R ps d ls H',H' t=some (.tup [.ref lp,.ref qp])->H' qp=some (.lst (il ps))->uA qp H' lp ls->aH H H'->Ws rows n w R ps d ls->Q (.ref t) H')->Cw K vs H Q E9
inductive yh (K:FG9) (vs:List V) (H:Hp) (Q:VK) (E9:XK):Prop
 | mk (p:Addr) (n w:Nat) (H0:Hp) (rows:LR9):vs=[.ref p,.int n]->bu K H0 H p rows->rows.9<=100->n<=100->(∀xs∈rows,xs.9=n)->Dm rows n w->(∀r R ps M H',H r=none->aH H H'->bu K H H' r R->bS rows n R ps->ps.9<=rows.9->0 < M->M<=2^(min rows.9 n*(w+4))->(∀xs∈R,∀x∈xs,Tp M (2^(min rows.9 n*(w+4))) x)->Q (.ref r) H')->yh K vs H Q E9
def uq (rows:LR9) (i:Nat):Rat:=((fF ((rows.getD i []).map nm):Int):Rat)
theorem yQ:uq rows i≠0:=λz=>by
 have:=p7 (xs:=rows.getD i []);have:=oG z
 lia
structure A5 (rows:LR9) (n P:Nat) (rs:LR9) (ps:List Nat):Prop where
 len:rs.9=rows.9
 wide:∀xs∈rs,xs.9=n
 ex:∃pm l d,xg (fv (rows.map js)) rows.9 ps.9 pm (λj=>ps.getD j 0) l d/\lZ (fv (rows.map js)) rows.9 ps.9 P (λj=>ps.getD j 0) l d/\∀i,i < rows.9->∀c,bV rs i c=l i c / (d*if i < ps.9 then 1 else uq rows (pm i))
section
variable {rows rs rs':LR9} {n P w a:Nat} {ps:List Nat}
theorem NW {k i j:Nat} (h:d≠0):d*(if i < k then 1 else uq rows j)≠0:=by
 have:=yQ (rows:=rows) (i:=j)
 split <;> grind
theorem A5.start (hw:∀xs∈rows,xs.9=n):A5 rows n 0 rows []:=#[rfl,hw,λi=>i,fv (rows.map js),1,xg.start λ_ _=>rfl,lZ.start,λi hi c=>by
 rw[za hi,if_neg (by show ¬i < 0;lia)];have:=yQ (rows:=rows) (i:=i);show bV rows i c=uq rows i*bV rows i c / (1*uq rows i)
 grind]
theorem A5.skip (h:A5 rows n P rs ps) (hz:∀i,ps.9<=i->i < rs.9->bV rs i P=0):A5 rows n (P+1) rs ps:=by
 obtain len|wide|pm|l|d|B|E|v:=h;refine #[len,wide,pm,l,d,B,E.skip λi h1 h2=>?_,v];have:=v i h2 P;rw[hz i h1 ()] at this;have ne:=NW (rows:=rows) (i:=i) (j:=pm i) (k:=ps.9) B.d0;generalize d*(if i < ps.9 then 1 else uq rows (pm i))=D at this ne;grind
theorem A5.km (h:A5 rows n P rs ps):ps.9<=rows.9/\ps.9<=P:=by obtain _|_|_|_|_|_|E|_:=h;exact #[E.km,E.kP]
theorem A5.step (h:A5 rows n P rs ps) (ht:ps.9<=t) (ht2:t < rs.9) (hne:bV rs t P≠0) (l':rs'.9=rows.9) (w':∀xs∈rs',xs.9=n)
  (hv:∀i,i < rows.9->∀c,bV rs' i c=if i=ps.9 then 1 / bV rs t P*bV rs t c else bV rs (lJ ps.9 t i) c - bV rs (lJ ps.9 t i) P*(1 / bV rs t P*bV rs t c)):A5 rows n (P+1) rs' (ps++[P]):=by
 obtain len|wide|pm|l|d|B|E|v:=h;have hk:ps.9 < rows.9:=()
 have B1:=B.swap ht ();have E1:=E.swap ht ();have d0:=B.d0
 have v1:∀i,i < rows.9->∀c,bV rs (lJ ps.9 t i) c=l (lJ ps.9 t i) c / (d*if i < ps.9 then 1 else uq rows (pm (lJ ps.9 t i))):=λi hi c=>by
  rw[v _ (uP hk () hi) c];by_cases z:i < ps.9
  ·rw[vf ht z,if_pos z]
  ·rw[if_neg z,if_neg (by have:=vQ ht (show ps.9<=i by lia);lia)]
 have sk:lJ ps.9 t ps.9=t:=by unfold lJ;rw[if_pos rfl]
 have vt:∀c,bV rs t c=l (lJ ps.9 t ps.9) c / (d*uq rows (pm (lJ ps.9 t ps.9))):=λc=>by
  have:=v1 ps.9 hk c;rw[if_neg (),sk] at this;rw[sk];exact this
 have bt:=yQ (rows:=rows) (i:=pm (lJ ps.9 t ps.9));have h1:l (lJ ps.9 t ps.9) P≠0:=λz=>hne (by rw[vt P,z];grind)
 have B2:=B1.step (c0:=P) hk h1;have lp:(ps++[P]).9=ps.9+1:=by rw[aj];rfl
 have hp:∀j,j < ps.9+1->(ps++[P]).getD j 0=if j=ps.9 then P else ps.getD j 0:=λj hj=>getD_snoc hj
 refine #[l',w',λi=>pm (lJ ps.9 t i),_,_,by rw[lp];exact B2.congr (l2:=λi c=>if i=ps.9 then l (lJ ps.9 t ps.9) c else (l (lJ ps.9 t ps.9) P*l (lJ ps.9 t i) c - l (lJ ps.9 t i) P*l (lJ ps.9 t ps.9) c) / d) hp (λ_ _ _=>rfl),?_,λi hi c=>?_]
 ·rw[lp];refine lZ.congr (E1.step (d':=l (lJ ps.9 t ps.9) P) (l':=λi c=>if i=ps.9 then l (lJ ps.9 t ps.9) c else (l (lJ ps.9 t ps.9) P*l (lJ ps.9 t i) c - l (lJ ps.9 t i) P*l (lJ ps.9 t ps.9) c) / d) hk h1 B2.unit λi hi=>?_) hp (λ_ _ _=>rfl);by_cases e:i=ps.9
  ·refine #[1,0,(),λ_=>rfl,λc=>?_];rw[if_pos e,e];grind
  ·refine #[l (lJ ps.9 t ps.9) P / d,-(l (lJ ps.9 t i) P) / d,?_,λz=>absurd z e,λc=>?_]
   ·intro z;apply h1;grind
   ·rw[if_neg e];grind
 ·rw[hv i hi c,lp,vt c,vt P];by_cases e:i=ps.9
  ·rw[if_pos e,if_pos e,if_pos ()];grind
  ·rw[if_neg e,if_neg e,v1 i hi c,v1 i hi P];have ne:=NW (rows:=rows) (i:=i) (j:=pm (lJ ps.9 t i)) (k:=ps.9) d0;by_cases z:i < ps.9
   ·rw[if_pos z,if_pos ()];grind
   ·have bi:=yQ (rows:=rows) (i:=pm (lJ ps.9 t i));rw[if_neg z,if_neg ()];grind
theorem A5.done (h:A5 rows n n rs ps) (hw:∀xs∈rows,xs.9=n):bS rows n (rs.take ps.9) ps:=by
 obtain len|wide|pm|l|d|B|E|v:=h;have km:=E.km;refine #[by rw[bY];lia,λxs hx=>wide xs (bN hx),Fz.other ((E.done λi hi c hc=>?_).congrR λi hi c=>?_) Dq Ds]
 ·exact xS (n:=n) (λzs hz=>by
   obtain xs|hx|rfl:=aA.mp hz;rw[sO];exact hw xs hx) hc
 ·have e:bV (rs.take ps.9) i c=bV rs i c:=by
   unfold bV;rw[aa (l:=List.take _ _),jo hi,<- aa]
  rw[e,v i () c,if_pos hi,rQ]
def Rn (rows:LR9) (n w a:Nat):Prop:=∃M W:Nat,0 < M/\M<=2^a/\1<=W/\W<=2^w/\(∀xs∈rows,∀x∈xs,Tp M W x)/\min rows.9 n<=15/\2*(min rows.9 n*(w+4)+a)<=3990000
theorem Rn.ent (F:Rn rows n w a):∃W:Nat,1<=W/\W<=2^w/\∀i,i < rows.9->∀c,Fr 1 W (fv (rows.map js) i c):=by
 obtain M|W|h0|h1|hW|h2|h3|_:=F;refine #[W,hW,h2,λi hi c=>?_];have hx:=getD_in (e:=[]) hi;rw[za hi];unfold bV;generalize rows.getD i []=xs at hx ⊢;by_cases hc:c < xs.9
 ·have t:=h3 xs hx _ (getD_in (e:=0) hc);obtain s|e|b:=ve t h0 (p7 (xs:=xs)) (p9 (aA.mpr #[_,getD_in (e:=0) hc,rfl])) (yR h0 (h3 xs hx));rw[di,e];exact Fr.int b
 ·rw[aa,aP ()];show Fr 1 W (_*0)
  rw[eC];exact Fr.zero
theorem Rn.bot (F:Rn rows n w a) (hi:i < rows.9):∃b:Nat,0 < b/\b<=2^a/\uq rows i=(b:Rat):=by
 obtain M|W|h0|h1|hW|h2|h3|_:=F;have hx:=getD_in (e:=[]) hi;have p:=p7 (xs:=rows.getD i []);have dv:=yR h0 (h3 _ hx);refine #[(fF ((rows.getD i []).map nm)).natAbs,(),af (iD h0 ?_) h1,?_]
 ·have:=fM.mpr dv;rwa [bx] at this
 ·unfold uq;rw[<- aI];congr 1
  lia
theorem SE {z y:Int} (hl:l=(z:Rat)) (hD:D=(y:Rat)) (h0:D≠0) (hz:z.natAbs<=W):Tp y.natAbs W (l / D):=by
 rcases xh y with e | e
 ·refine #[z,?_,hz];have:((y.natAbs:Nat):Rat)=D:=by rw[<- aI,<- e,hD]
  rw[this,hl];grind
 ·refine #[-z,?_,by rw[pe];exact hz];have:((y.natAbs:Nat):Rat)=-D:=by rw[<- aI,hD,<- cU];congr 1;lia
  rw[this,hl,cU];grind
theorem A5.sz (h:A5 rows n P rs ps) (F:Rn rows n w a) (hP:P<=n) (hi:i < rows.9):∃D:Nat,0 < D/\D<=2^(min rows.9 n*(w+4)+a)/\∀c,Tp D (2^(min rows.9 n*(w+4))) (bV rs i c):=by
 obtain len|wide|pm|l|d|B|E|v:=h;obtain W|hW|W2|ent:=F.ent;obtain _|_|_|_|_|_|_|r15|_:=id F;have kP:=E.kP;have km:=B.km;have mono:∀{s t:Nat},s<=t->(16*W)^s<=(16*W)^t:=λhs=>ak (aM () hW) hs
 obtain y|ey:=oV (B.dfr (W:=W) (N:=16) () ent);have hy:=B.dfr (W:=W) (N:=16) () ent;rw[ey] at hy;have yb:y.natAbs<=2^(min rows.9 n*(w+4)):=af (pR hy) (af (mono (show ps.9<=min rows.9 n by lia)) (xI W2));have y0:y≠0:=λz=>B.d0 (by rw[ey,z];rfl)
 have lb:∀c,∃z:Int,l i c=(z:Rat)/\z.natAbs<=2^(min rows.9 n*(w+4)):=λc=>by
  by_cases hk:i < ps.9
  ·have f:Fr 1 ((16*W)^ps.9) (l i c):=by
    rw[B.old hk]
    have:=yt (W:=W) (N:=16) (rs:=mL pm ps.9) (vs:=BU (λj r=>fv (rows.map js) r (ps.getD j 0)) i ps.9++(λr=>fv (rows.map js) r c) :: jI (λj r=>fv (rows.map js) r (ps.getD j 0)) i) (by
     have:=congrArg List.length (cw_split (v:=λj r=>fv (rows.map js) r (ps.getD j 0)) hk);rw[aj,a8,cw_len] at this;rw[aj,a8]
     lia) (by
     intro v hv r hr
     have hr':∀c,Fr 1 W (fv (rows.map js) r c):=λc=>by
      obtain t|ht|rfl:=mZ hr;exact ent _ (B.rng t ()) c
     rcases av.mp hv with hv | hv
     ·obtain t|_|rfl:=C5 hv;exact hr' _
     ·rcases aD.mp hv with rfl | hv
      ·exact hr' _
      ·obtain t|_|rfl:=cw_in hv;exact hr' _)
    rwa [tR] at this
   obtain z|ez:=oV f;rw[ez] at f;exact #[z,ez,af (pR f) (af (mono ()) (xI W2))]
  ·by_cases hn:ps.9 < n
   ·have f:=B.fr (W:=W) (N:=16) () hW ent (i:=i) (c:=c) hi;obtain z|ez:=oV f;rw[ez] at f;exact #[z,ez,af (pR f) (af (mono ()) (xI W2))]
   ·refine #[0,?_,aW _];by_cases hc:c < n
    ·rw[E.zero i () hi c ()];rfl
    ·have:=v i hi c;rw[xR wide ()] at this;have ne:=NW (rows:=rows) (i:=i) (j:=pm i) (k:=ps.9) B.d0;generalize d*(if i < ps.9 then 1 else uq rows (pm i))=D at this ne;show l i c=0
     grind
 obtain ⟨b,b0,b1,eb⟩:∃b:Nat,0 < b/\b<=2^a/\(if i < ps.9 then 1 else uq rows (pm i))=(b:Rat):=by
  by_cases hk:i < ps.9
  ·exact #[1,(),b8,by rw[if_pos hk];rfl]
  ·obtain b|x1|x2|x3:=F.bot (B.rng i hi);exact #[b,x1,x2,by rw[if_neg hk,x3]]
 have eD:d*(b:Rat)=((y*b:Int):Rat):=by rw[aQ,ey,aI]
 refine #[(y*b).natAbs,?_,?_,λc=>?_]
 ·rw[cX,bx];exact aM () b0
 ·rw[cX,bx,ax];exact aw yb b1
 ·obtain z|ez|bz:=lb c;rw[v i hi c,eb];refine SE ez eD (λq=>?_) bz;rw[eD] at q;have:=oG q;rcases Int.mul_eq_zero.mp this with q | q
  ·exact y0 q
  ·lia
end
theorem jV (h:Tp M W x) (h0:0 < M) (h1:M<=2^3995000) (h2:W<=2^3995000):i5 x:=by
 refine #[?_,?_]
 ·obtain s|e|b:=ve h h0 (ik x) (y7 _) (qC h);have e2:(((nm x).1:Int):Rat)=(s:Rat):=by rw[<- e];exact jM x
  rw[du.mp e2];exact bc (af b h2) (dg () ())
 ·have:=iD h0 (oJ.mp (qC h));show ((x.den:Nat):Int).natAbs < _
  rw[bx];exact bc (af this h1) (dg () ())
theorem Tp.mul (h:Tp M W x) (h':Tp M' W' y):Tp (M*M') (W*W') (x*y):=by
 obtain z|e|b:=h;obtain z'|e'|b':=h';refine #[z*z',?_,by rw[cX];exact aw b b'];rw[aQ,<- e,<- e',jb];grind
theorem Pl (h:i5 x) (h0:x≠0):i5 (1 / x):=by
 have n0:x.num≠0:=λz=>h0 (Rat.num_eq_zero.mp z)
 have e:=jM x;have e1:(1 / x)*(x.num:Rat)=(x.den:Rat):=by rw[e];grind
 have t:Tp x.num.natAbs x.den (1 / x):=by
  rcases xh x.num with q | q
  ·refine #[x.den,?_,by simp];have:((x.num.natAbs:Nat):Rat)=(x.num:Rat):=by rw[<- aI,<- q]
   rw[this,e1,aI]
  ·refine #[-(x.den:Int),?_,by simp];have:((x.num.natAbs:Nat):Rat)=-(x.num:Rat):=by rw[<- aI,<- cU];congr 1;lia
   rw[this,cU,aI,<- e1];grind
 obtain h1|h2:=h;have h1:x.num.natAbs < 2^4000000:=h1;have h2:((x.den:Nat):Int).natAbs < 2^4000000:=h2;rw[bx] at h2;refine #[?_,?_]
 ·obtain s|e|b:=ve t () (ik (1 / x)) (y7 _) (qC t);have e2:(((nm (1 / x)).1:Int):Rat)=(s:Rat):=by rw[<- e];exact jM (1 / x)
  rw[du.mp e2];exact bc b h2
 ·have:=iD (show 0 < x.num.natAbs by lia) (oJ.mp (qC t));show (((1 / x).den:Nat):Int).natAbs < _
  rw[bx];exact bc this h1
inductive zx (K:FG9) (vs:List V) (H:Hp) (Q:VK) (E9:XK):Prop
 | mk (u v:V) (x y:Rat):vs=[u,v]->bO K H x u->bO K H y v->i5 x->i5 y->y≠0->(∀r H',aH H H'->bO K H' (x / y) (.ref r)->Q (.ref r) H')->zx K vs H Q E9
theorem Gr {K:FG9} (h:zx K vs H Q E):Pt K vs H Q E:=by
 obtain u|v|x|y|rfl|⟨p,rfl,hp⟩|⟨q,rfl,hq⟩|⟨s1,s2⟩|⟨s3,s4⟩|y0|k:=h;have n0:(nm y).1≠0:=λz=>y0 (Rat.num_eq_zero.mp z)
 have px:=ik x;have py:=ik y;have e1:=qY x;have e2:=qY y;have dx:(((nm x).2:Int):Rat)≠0:=λz=>by have:=oG z;lia
 have dy:(((nm y).2:Int):Rat)≠0:=λz=>by have:=oG z;lia
 refine #[p,q,_,_,_,_,rfl,hp,hq,px,py,n0,s1,s2,s3,s4,λr H' s g=>k r H' s (bO.mk g ?_)];by_cases hc:(nm y).1 < 0
 ·rw[if_pos hc,if_pos hc];refine mG (by have:=vN px hc;lia) ?_;rw[A9,A9,aQ,aQ,e1,e2];show x / y*(((0:Int):Rat) - _)=((0:Int):Rat) - _
  grind
 ·rw[if_neg hc,if_neg hc];refine mG (iF px ()) ?_;rw[aQ,aQ,e1,e2];grind
inductive xn (K:FG9) (vs:List V) (H:Hp) (Q:VK) (E9:XK):Prop
 | mk (p q:Addr) (xs ys:List Rat):vs=[.ref p,.ref q]->bK K H p xs->bK K H q ys->ys.9=xs.9->xs.9<=1000->(∀x∈xs,i5 x)->(∀y∈ys,i5 y)->(∀r H',H r=none->aH H H'->bK K H' r (List.zipWith (λx y=>x - y) xs ys)->Q (.ref r) H')->xn K vs H Q E9
theorem Ub {xs ys:List Rat} (h:xs.9=ys.9):(List.zipWith (λx y=>x - y) xs ys).getD c 0=xs.getD c 0 - ys.getD c 0:=by
 rw[aa,aa,aa,bp];by_cases hc:c < xs.9
 ·rw[ae hc,ae (show c < ys.9 by lia)];rfl
 ·rw[aP (),aP ()];show (0:Rat)=0 - 0
  grind
theorem Om {xs:List Rat}:(xs.map λy=>q*y).getD c 0=q*xs.getD c 0:=by
 rw[aa,aa,aB];cases xs[c]? with
 | none=>show (0:Rat)=q*0;grind
 | some x=>rfl
theorem IT {xs ys:List Rat} (h:ys.9=xs.9):List.zipWith (λx y=>x - y) xs ys=(List.range xs.9).map λi=>xs.getD i 0 - ys.getD i 0:=by
 apply jk;intro i;rw[bp,aB];by_cases hi:i < xs.9
 ·rw[cB hi,ae hi,ae (show i < ys.9 by lia)];simp [aa,ae hi,ae (show i < ys.9 by lia)]
 ·rw[aP (show (List.range xs.9).9<=i by simp;lia),aP (show xs.9<=i by lia)];rfl
theorem xQ {K:FG9} {rows:LR9} (pr:Paired (dq K H0 H) rows vs) (s:aH H H') (n:H q=none) (g:H' q=some (.lst vs)):bu K H0 H' q rows :=
 #[vs,g,Paired.imp' (λ_ _ z=>z.same s) pr,λz=>by
  obtain _|_|q'|e|_|_|g'|_:=dN pr z;cases e;rw[n] at g';cases g']
theorem Pk:i5 1:=jV (M:=1) (W:=1) #[1,by simp,()] () b8 b8
theorem bS.le (h:bS rows n R ps):ps.9<=n:=by
 obtain _|_|rr:=h;rcases bZ n ps.9 with z | z
 ·have inc:∀j,j < ps.9->j<=ps.getD j 0:=by
   intro j
   induction j with
   | zero=>intro _;exact aW _
   | succ j ih =>
    intro hj;have:=ih ();have:=rr.inc j (j+1) () hj
    lia
  have h1:=inc (ps.9 - 1) ();have h2:=rr.low (ps.9 - 1) ()
  lia
 ·exact z
theorem Tp.zero:Tp M W 0:=#[0,by simp,by simp]
theorem Tp.add (h:Tp M W x) (h':Tp M W' y):Tp M (W+W') (x+y):=by
 obtain z|e|b:=h;obtain z'|e'|b':=h';refine #[z+z',?_,af (Int.natAbs_add_le _ _) (Nat.add_le_add b b')];rw[Be,<- e,<- e'];grind
theorem Tp.sum {M W:Nat} {f:Nat->Rat}:∀{k:Nat},(∀j,j < k->Tp M W (f j))->Tp M (k*W) (bF k f)
 | 0,_=>Tp.zero
 | k+1,h=>by
  have:=(Tp.sum (k:=k) λj hj=>h j ()).add (h k ());exact this.mono (by rw[dm];exact ah _)
theorem jd {xs:List Rat} (h:∀x∈xs,Tp M W x) (c:Nat):Tp M W (xs.getD c 0):=by
 by_cases hc:c < xs.9
 ·exact h _ (getD_in hc)
 ·rw[aa,aP ()];exact Tp.zero
theorem UO (h:∀xs∈R,∀x∈xs,Tp M W x) (i c:Nat):Tp M W (bV R i c):=by
 unfold bV;by_cases hi:i < R.9
 ·exact jd (h _ (getD_in hi)) c
 ·rw[aa (l:=R),aP ()];exact Tp.zero
theorem Of {j:Nat}:V4 (.int (j:Int)) (il ps)=decide (j∈ps):=by
 unfold V4 il;rw[List.any_map,nX,List.any_eq_true,decide_eq_true_iff];constructor
 ·rintro ⟨x,hx,e⟩;have e:((x:Int) == (j:Int))=true:=e;have:(x:Int)=j:=by simpa using e
  have:x=j:=()
  rw[<- this];exact hx
 ·intro h;exact #[j,h,by show ((j:Int) == (j:Int))=true;simp]
theorem LV:(il ps).all pY=true:=by
 unfold il;rw[List.all_map];exact qB.mpr λ_ _=>rfl
theorem NM:(il ps).9=ps.9:=ag ..
def AM (ps:List Nat):List Int:=ps.map λ(j:Nat)=>(j:Int)
theorem LU:il ps=(AM ps).map V.int:=by unfold il AM;rw[o9];rfl
theorem paired_ints {K:FG9} {H:Hp}:∀{zs:List Int},Paired (λa x=>QL.R K H x a) zs (zs.map V.int)
 | []=>.nil
 | z :: zs=>.cons rfl paired_ints
theorem CW {K:FG9} (h:H p=some (.lst (il ps))):(QK QL).R K H (.ref p) (AM ps):=#[p,il ps,rfl,bC.of h,by rw[LU];exact paired_ints]
theorem QG {i:Nat} (h:(il ps)[i]?=some v):∃j,ps[i]?=some j/\v=V.int (j:Int):=by
 unfold il at h;rw[aB] at h;cases e:ps[i]? with
 | none=>rw[e] at h;cases h
 | some x=>rw[e] at h;exact #[x,rfl,(cp h).symm]
def QE (xs:List Rat) (i:Nat):List Nat:=(List.range i).filter λc=>decide (xs.getD c 0≠0)
theorem KI:QE xs (i+1)=if xs.getD i 0≠0 then QE xs i++[i] else QE xs i:=by
 unfold QE;rw[Bg,List.filter_append];by_cases h:xs.getD i 0≠0
 ·rw[if_pos h,List.filter_cons_of_pos (by simpa using h)];rfl
 ·rw[if_neg h,List.filter_cons_of_neg (by simpa using h)];simp
theorem cQ:∀{xs ys:List Rat},xs.9=ys.9->bJ xs ys=bF xs.9 λc=>xs.getD c 0*ys.getD c 0:=by
 intro xs ys h
 have key:∀k,k<=xs.9->bJ (xs.take k) (ys.take k)=bF k λc=>xs.getD c 0*ys.getD c 0:=by
  intro k
  induction k with
  | zero=>intro _;rfl
  | succ k ih =>
   intro hk;rw[xU () (),ih ()];rfl
 have:=key xs.9 (ah _);rwa [aE (ah _),aE ()] at this
def Vu:Kind Str where
 R:=λ_ _ x i=>x=.str i
 d:=0
 inj:=λ_ h1 h2=>by rw[h1] at h2;cases h2;rfl
 rc:=λ{X pins σ H s x y v u a b A} I rx ry h1 h2 _=>by
  subst h1 h2;obtain t|rfl:=rx;obtain t'|rfl:=ry;have q:=SeqAt.RcAt.str_str (A:=A) (s:=s) a t b t';rwa [iP] at q
 ne:=λ{X pins σ H s x y v u a b A} I rx ry h1 h2 _=>by
  subst h1 h2;obtain t|rfl:=rx;obtain t'|rfl:=ry;have q:=SeqAt.RcNeAt.str_str (A:=A) (s:=s) a t b t';rwa [iP] at q
 eq:=λ{X pins σ H s x y v u a b A} I rx ry h1 h2 _=>by
  subst h1 h2;obtain t|rfl:=rx;obtain t'|rfl:=ry;have q:=SeqAt.EqAt.str_str (A:=A) (s:=s) a t b t';rwa [iP] at q
theorem K6 {q:Rat} (h:q.den<=9):q.den∣2520:=by
 have:=q.den_pos;generalize q.den=d at h this;have:d=1\/d=2\/d=3\/d=4\/d=5\/d=6\/d=7\/d=8\/d=9:=()
 rcases this with rfl | rfl | rfl | rfl | rfl | rfl | rfl | rfl | rfl <;> decide
theorem OD (h:Dr 9 q) (hM:2520∣M):Fr M 9 q:=(Fr.own q h.1).dvd (d9 (K6 h.2) hM)
def c8 (rows:LR9) (due:List Rat):LR9:=List.zipWith (λrow d=>row++[d]) rows due
def vS (R:LR9) (ps:List Nat) (n j:Nat):List Rat:=(List.range n).map λc=>bF j λi=>if ps.getD i 0=c then bV R i n else 0
def iG (R:LR9) (ps:List Nat) (n:Nat):List Rat:=vS R ps n ps.9
theorem lU (h:due.9=rows.9):(c8 rows due).9=rows.9:=by unfold c8;rw[aZ];lia
theorem Et (h:∀xs∈rows,xs.9=n):∀xs∈c8 rows due,xs.9=n+1:=λxs hx=>by
 unfold c8 at hx;obtain i|hi|rfl:=aX hx;rw[cW,aj,h _ (aF _)];rfl
theorem Sa {i:Nat} (h1:rows[i]?=some row) (h2:due[i]?=some d):(c8 rows due)[i]?=some (row++[d]):=by
 unfold c8;rw[bp,h1,h2]
theorem yr (hd:due.9=rows.9) (hw:∀xs∈rows,xs.9=n) (hi:i < rows.9):(∀c,c < n->bV (c8 rows due) i c=bV rows i c)/\bV (c8 rows due) i n=due.getD i 0:=by
 have e1:=ae hi;have e2:=ae (show i < due.9 by lia);have ej:=Sa e1 e2;have wi:=hw _ (aF hi);refine #[λc hc=>?_,?_]
 ·unfold bV;rw[aa (l:=c8 rows due),ej,aa (l:=rows),e1];show (rows[i]++[due[i]]).getD c 0=(rows[i]).getD c 0
  rw[aa,aa,bA ()]
 ·unfold bV;rw[aa (l:=c8 rows due),ej,aa (l:=due),e2];show (rows[i]++[due[i]]).getD n 0=due[i]
  rw[aa,a7 (),wi,fY];rfl
theorem kj:(vS R ps n j).9=n:=by unfold vS;rw[ag,bU]
theorem Nc (h:c < n):(vS R ps n j).getD c 0=bF j λi=>if ps.getD i 0=c then bV R i n else 0:=by
 unfold vS;rw[aa,aB,cB h];rfl
theorem Px:vS R ps n 0=List.replicate n 0:=by
 unfold vS;show (List.range n).map (λ_=>(0:Rat))=_
 rw[Pc,bU]
theorem Py (RR:bS J (n+1) R ps) (hj:j < ps.9):(vS R ps n j).set (ps.getD j 0) (bV R j n)=vS R ps n (j+1):=by
 obtain _|_|rr:=RR;apply fO (by rw[eH,kj,kj]);intro c h1 h2;rw[kj] at h2;have e1:(vS R ps n j)[c]'(by rw[kj];exact h2)=bF j λi=>if ps.getD i 0=c then bV R i n else 0:=by simp only[vS,qv,List.getElem_range]
 have e2:(vS R ps n (j+1))[c]'(by rw[kj];exact h2)=bF j (λi=>if ps.getD i 0=c then bV R i n else 0)+if ps.getD j 0=c then bV R j n else 0:=by simp only[vS,qv,List.getElem_range];rfl
 rw[List.getElem_set,e2];by_cases q:ps.getD j 0=c
 ·rw[if_pos q,if_pos q,cZ λi hi=>?_,Rat.zero_add];rw[if_neg];intro z;have:=rr.inc i j hi hj
  lia
 ·rw[if_neg q,if_neg q,e1,ke]
theorem Pz (hp:c∉ps):(iG R ps n).getD c 0=0:=by
 by_cases hc:c < n
 ·unfold iG;rw[Nc hc,cZ λi hi=>?_];rw[if_neg (λz=>hp (by rw[<- z];exact getD_in hi))]
 ·rw[aa,aP (by unfold iG;rw[kj];lia)];rfl
theorem DK (hd:due.9=rows.9) (hw:∀xs∈rows,xs.9=n) (RR:bS (c8 rows due) (n+1) R ps) (hn:n∉ps) (hr:rows[i]?=some row):bJ row (iG R ps n)=due.getD i 0:=by
 obtain _|_|rr:=RR;have hi:=(aJ.mp hr).1;have wr:=hw row (ar hr);have ef:∀c,bV rows i c=row.getD c 0:=λc=>by unfold bV;rw[aa (l:=rows),hr];rfl
 obtain f1|f2:=yr hd hw hi
 have low:∀j,j < ps.9->ps.getD j 0 < n:=λj hj=>by
  have:=rr.low j hj;have:ps.getD j 0≠n:=λz=>hn (by rw[<- z];exact getD_in hj)
  lia
 have co:=rr.coef (rr.span i (by rw[lU hd];exact hi)) n;rw[f2] at co;rw[co,cQ (by unfold iG;rw[kj,wr]),wr]
 have e1:bF n (λc=>row.getD c 0*(iG R ps n).getD c 0)=bF n (λc=>bF ps.9 λj=>if ps.getD j 0=c then row.getD (ps.getD j 0) 0*bV R j n else 0):=by
  refine aN λc hc=>?_
  unfold iG;rw[Nc hc,<- cF];refine aN λj _=>?_
  split
  ·rename_i q;rw[q]
  ·grind
 rw[e1,<- fN];refine aN λj hj=>?_
 rw[iQ (i:=ps.getD j 0) (low j hj) λc _ ne=>if_neg λz=>ne z.symm,if_pos rfl,f1 _ (low j hj),ef]
theorem zK (hd:due.9=rows.9) (hw:∀xs∈rows,xs.9=n) (RR:bS (c8 rows due) (n+1) R ps) (hn:n∈ps):∃w:Nat->Rat,(∀c,c < n->bF rows.9 (λi=>w i*bV rows i c)=0)/\bF rows.9 (λi=>w i*due.getD i 0)=1:=by
 obtain _|_|rr:=RR;obtain j|hj|ej:=aX hn;have ejD:ps.getD j 0=n:=by rw[aa,ae hj];exact ej
 obtain w|hw':=rr.back j hj;rw[lU hd] at hw';refine #[w,λc hc=>?_,?_]
 ·have z:=rr.lead j hj c (by rw[ejD];exact hc);rw[hw' c] at z;rw[<- z];exact aN λi hi=>by rw[(yr hd hw hi).1 c hc]
 ·have u:=rr.unit j hj j hj;rw[if_pos rfl,ejD,hw' n] at u;rw[<- u];exact aN λi hi=>by rw[(yr hd hw hi).2]
theorem SV (hd:due.9=rows.9) (hw:∀xs∈rows,xs.9=n) (RR:bS (c8 rows due) (n+1) R ps) {x:Nat->Rat} (hx:∀i,i < rows.9->bF n (λc=>bV rows i c*x c)=due.getD i 0):n∉ps:=λhn=>by
 obtain w|h1|h2:=zK hd hw RR hn
 have e1:bF rows.9 (λi=>w i*due.getD i 0)=bF rows.9 (λi=>bF n λc=>x c*(w i*bV rows i c)):=aN λi hi=>by
  rw[<- hx i hi,<- cF];exact aN λc _=>by grind
 have e2:bF n (λc=>bF rows.9 λi=>x c*(w i*bV rows i c))=0:=cZ λc hc=>by
  rw[cF,h1 c hc];grind
 rw[e1,fN,e2] at h2;exact absurd h2 ()
theorem U5 (h0:0 < M) (tp:∀xs∈R,∀x∈xs,Tp M W x) (RR:bS J (n+1) R ps):∀x∈iG R ps n,Tp M W x:=λx hx=>by
 obtain _|_|rr:=RR;obtain c|hc|rfl:=aA.mp hx;by_cases hp:∃j,j < ps.9/\ps.getD j 0=c
 ·obtain j|hj|e:=hp;rw[iQ hj λi hi ne=>if_neg λz=>?_,if_pos e]
  ·exact UO tp j n
  ·rcases lD i j with q | q | q
   ·have:=rr.inc i j q hj;lia
   ·exact ne q
   ·have:=rr.inc j i q hi;lia
 ·rw[cZ λj hj=>if_neg λz=>hp #[j,hj,z]];exact Tp.zero
inductive zm (K:FG9) (vs:List V) (H:Hp) (Q:VK) (E9:XK):Prop
 | mk (p q:Addr) (n w:Nat) (H0:Hp) (rows:LR9) (due:List Rat):vs=[.ref p,.int n,.ref q]->bu K H0 H p rows->bK K H q due->due.9=rows.9->rows.9<=99->n<=99->(∀xs∈rows,xs.9=n)->Dm (c8 rows due) (n+1) w->((∀x R ps M H',bS (c8 rows due) (n+1) R ps->n∉ps->H x=none->aH H H'->bK K H' x (iG R ps n)->0 < M->M<=2^(min rows.9 (n+1)*(w+4))->(∀y∈iG R ps n,Tp M (2^(min rows.9 (n+1)*(w+4))) y)->Q (.ref x) H')/\(∀R ps H',bS (c8 rows due) (n+1) R ps->n∈ps->aH H H'->Q .non H'))->zm K vs H Q E9
def DF (rows:LR9) (n:Nat) (due:List Rat):LR9:=c8 (cv rows n++[due]) (List.replicate n 0++[1])
inductive Cz (K:FG9) (vs:List V) (H:Hp) (Q:VK) (E9:XK):Prop
 | mk (p q:Addr) (n w w':Nat) (H0:Hp) (rows:LR9) (due:List Rat):vs=[.ref p,.int n,.ref q]->bu K H0 H p rows->bK K H q due->due.9=rows.9->rows.9<=90->n<=90->(∀xs∈rows,xs.9=n)->Dm (c8 rows due) (n+1) w->Dm (DF rows n due) (rows.9+1) w'->((∀t x R ps M H',bS (c8 rows due) (n+1) R ps->n∉ps->H' t=some (.tup [.str (Str.ofString "yes"),.ref x])->H x=none->aH H H'->bK K H' x (iG R ps n)->0 < M->M<=2^(min rows.9 (n+1)*(w+4))->(∀y∈iG R ps n,Tp M (2^(min rows.9 (n+1)*(w+4))) y)->Q (.ref t) H')/\(∀t x R ps R' ps' M H',bS (c8 rows due) (n+1) R ps->n∈ps->bS (DF rows n due) (rows.9+1) R' ps'->rows.9∉ps'->H' t=some (.tup [.str (Str.ofString "no"),.ref x])->H x=none->aH H H'->bK K H' x (iG R' ps' rows.9)->0 < M->M<=2^(min (n+1) (rows.9+1)*(w'+4))->(∀y∈iG R' ps' rows.9,Tp M (2^(min (n+1) (rows.9+1)*(w'+4))) y)->Q (.ref t) H'))->Cz K vs H Q E9
theorem LF (hd:due.9=rows.9) (hw:∀xs∈rows,xs.9=n) (RR:bS (c8 rows due) (n+1) R ps) (hn:n∈ps) (RR':bS (DF rows n due) (rows.9+1) R' ps'):rows.9∉ps':=by
 obtain w|h1|h2:=zK hd hw RR hn;have l1:(cv rows n++[due]).9=n+1:=by rw[aj,cy];rfl
 have w1:∀xs∈cv rows n++[due],xs.9=rows.9:=λxs hx=>by
  rcases av.mp hx with hx | hx
  ·exact ie xs hx
  ·rw[bh.mp hx];exact hd
 refine SV (x:=w) (by rw[l1,aj,aV];rfl) w1 RR' λi hi=>?_
 rw[l1] at hi;by_cases e:i < n
 ·have e1:∀c,bV (cv rows n++[due]) i c=bV rows c i:=λc=>by
   unfold bV;rw[aa (l:=cv rows n++[due]),bA (by rw[cy];exact e)];unfold cv;rw[aB,cB e];show (rows.map λxs=>xs.getD i 0).getD c 0=_
   rw[aa,aB,aa (l:=rows)];cases rows[c]? with
   | none=>rfl
   | some y=>rfl
  have e2:(List.replicate n (0:Rat)++[1]).getD i 0=0:=by
   rw[aa,bA (by rw[aV];exact e),gR,if_pos e];rfl
  rw[e2,<- h1 i e];exact aN λc _=>by rw[e1];grind
 ·have ei:i=n:=()
  subst ei
  have e1:∀c,bV (cv rows i++[due]) i c=due.getD c 0:=λc=>by
   unfold bV;rw[aa (l:=cv rows i++[due]),a7 (by rw[cy];exact ah _),cy,fY];rfl
  have e2:(List.replicate i (0:Rat)++[1]).getD i 0=1:=by
   rw[aa,a7 (by rw[aV];exact ah _),aV,fY];rfl
  rw[e2,<- h2];exact aN λc _=>by rw[e1];grind
theorem NT:((List.range n).map λ_=>(0:Rat))=List.replicate n 0:=by rw[Pc,bU]
def SS (K:FG9):Sp:=λvs H Q _=>∃m:Nat,vs=[.int m]/\m<=100/\∀r H',H r=none->aH H H'->bK K H' r (List.replicate m 0)->Q (.ref r) H'
def VY (rows:LR9) (ws:List Rat) (n j:Nat):List Rat:=(List.range n).map λc=>bF j λi=>ws.getD i 0*bV rows i c
def Pf (rows:LR9) (ws:List Rat) (n:Nat):List Rat:=VY rows ws n ws.9
section
variable {rows:LR9} {n j:Nat}
theorem MQ:(VY rows ws n j).9=n:=by unfold VY;rw[ag,bU]
theorem yJ (hc:c < n):(Pf rows ws n).getD c 0=bF ws.9 λi=>ws.getD i 0*bV rows i c:=by
 unfold Pf VY;rw[aa,aB,cB hc];rfl
theorem GX (h:xs.9=ws.9):bJ xs ws=bJ ws xs:=by
 rw[cQ h,cQ h.symm,h];exact aN λc _=>di ..
theorem sv (hc:c < n):(cv rows n)[c]?=some (rows.map λxs=>xs.getD c 0):=by
 unfold cv;rw[aB,cB hc];rfl
theorem NU:(rows.map λxs=>xs.getD c 0).getD i 0=bV rows i c:=by
 unfold bV;rw[aa,aB,aa (l:=rows)];cases rows[i]? with
 | none=>rfl
 | some y=>rfl
theorem Lk (hl:row.9=n) (RR:bS (c8 (cv rows n) row) (rows.9+1) R ps) (hn:rows.9∉ps):Pf rows (iG R ps rows.9) n=row:=by
 have ls:(iG R ps rows.9).9=rows.9:=kj;apply fO (by unfold Pf;rw[MQ,hl]);intro c h1 h2;have hc:c < n:=()
 have d:=DK (rows:=cv rows n) (by rw[cy,hl]) (λxs hx=>ie xs hx) RR hn (sv hc);have e:=yJ (rows:=rows) (ws:=iG R ps rows.9) hc;have e1:(Pf rows (iG R ps rows.9) n).getD c 0=(Pf rows (iG R ps rows.9) n)[c]:=by rw[aa,ae h1];rfl
 have e2:row.getD c 0=row[c]:=by rw[aa,ae h2];rfl
 rw[<- e1,<- e2,e,<- d,cQ (by rw[ag,ls]),ag,ls];exact aN λi _=>by rw[NU];grind
theorem LD (hw:∀xs∈rows,xs.9=n) (hl:row.9=n) (RR:bS (c8 (rows++[row]) (List.replicate rows.9 0++[1])) (n+1) R ps) (hn:n∉ps):bJ (iG R ps n) row=1/\∀xs∈rows,bJ xs (iG R ps n)=0:=by
 have l1:(List.replicate rows.9 (0:Rat)++[1]).9=(rows++[row]).9:=by rw[aj,aj,aV];rfl
 have w1:∀xs∈rows++[row],xs.9=n:=λxs hx=>by
  rcases av.mp hx with hx | hx
  ·exact hw xs hx
  ·rw[bh.mp hx];exact hl
 have ls:(iG R ps n).9=n:=kj;refine #[?_,λxs hx=>?_]
 ·have:=DK l1 w1 RR hn (i:=rows.9) (row:=row) (by rw[a7 (ah _),fY];rfl);rw[GX (by rw[ls,hl]),this,aa,a7 (by rw[aV];exact ah _),aV,fY];rfl
 ·obtain i|hi|rfl:=aX hx;have:=DK l1 w1 RR hn (i:=i) (row:=rows[i]) (by rw[bA hi,ae hi]);rw[this,aa,bA (by rw[aV];exact hi),gR,if_pos hi];rfl
end
theorem Fr.up {M V M' V':Nat} (h:Fr M V x) (hd:M∣M') (hv:V<=V'):Fr M' V' x:=(h.dvd hd).mono hv
theorem OQ (hd:due.9=rows.9) (hw:∀xs∈rows,xs.9=n) (RR:bS (c8 rows due) (n+1) R ps) (hn:n∉ps):bS rows n (R.map λxs=>xs.take n) ps:=by
 obtain l1|w1|rr:=RR
 have low:∀j,j < ps.9->ps.getD j 0 < n:=λj hj=>by
  have:=rr.low j hj;have:ps.getD j 0≠n:=λz=>hn (by rw[<- z];exact getD_in hj)
  lia
 have ef:∀i c,c < n->bV (R.map λxs=>xs.take n) i c=bV R i c:=λi c hc=>by
  unfold bV;rw[aa (l:=List.map _ R),aB,aa (l:=R)];cases R[i]? with
  | none=>rfl
  | some xs =>
   show (xs.take n).getD c 0=xs.getD c 0
   rw[aa,aa,jo hc]
 have wT:∀xs∈R.map (λxs=>xs.take n),xs.9=n:=λxs hx=>by
  obtain y|hy|rfl:=aA.mp hx;rw[bY,w1 y hy]
  lia
 have far:∀i c,n<=c->bV (R.map λxs=>xs.take n) i c=0:=λi c hc=>xR wT hc
 refine #[by rw[ag];exact l1,wT,rr.inc,low,λi hi j hj=>?_,λi hi c hc=>?_,λi hi=>?_,λi hi=>?_]
 ·rw[ef i _ (low j hj)];exact rr.unit i hi j hj
 ·have:=low i hi;rw[ef i c ()];exact rr.lead i hi c hc
 ·obtain w|hw':=rr.span i (by rw[lU hd];exact hi);refine #[w,λc=>?_];by_cases hc:c < n
  ·rw[<- (yr hd hw hi).1 c hc,hw' c];exact aN λj _=>by rw[ef j c hc]
  ·rw[xR hw (),cZ λj _=>by rw[far j c ()];grind]
 ·obtain w|hw':=rr.back i hi;rw[lU hd] at hw';refine #[w,λc=>?_];by_cases hc:c < n
  ·rw[ef i c hc,hw' c];exact aN λj hj=>by rw[(yr hd hw hj).1 c hc]
  ·rw[far i c (),cZ λj _=>by rw[xR hw ()];grind]
theorem QY {M V D B:Nat} (h:ys.9=xs.9) (hx:∀x∈xs,Fr M V x) (hy:∀y∈ys,Fr D B y):Fr (M*D) (xs.9*(V*B)) (bJ xs ys):=by
 rw[cQ h.symm]
 have key:∀j,j<=xs.9->Fr (M*D) (j*(V*B)) (bF j λc=>xs.getD c 0*ys.getD c 0):=by
  intro j
  induction j with
  | zero=>intro _;exact Fr.zero
  | succ j ih =>
   intro hj;exact ((ih ()).add ((hx _ (getD_in ())).mul (hy _ (getD_in ())))).mono (Nat.le_of_eq (dm j (V*B)).symm)
 exact key _ (ah _)
theorem Od (h:AM ps=AM qs):ps=qs:=List.map_inj_right (λ_ _ e=>Int.ofNat.inj e) |>.mp h
def pS (K:FG9) (P:Addr->Prop) (H:Hp) (xs:List Rat) (v:V):Prop:=∃q,v=.ref q/\P q/\bK K H q xs
section
variable {K:FG9}
theorem pS.same (h:pS K P H xs v) (s:aH H H'):pS K P H' xs v:=by obtain q|a|c|d:=h;exact #[q,a,c,d.same s]
theorem pS.updL (h:pS K P H xs v) (hl:H l=some (.lst ys)) (nb:∀q,P q->q≠l):pS K P (upd H l o) xs v:=by obtain q|a|c|d:=h;exact #[q,a,c,d.updL hl (nb q c)]
theorem bu.ofE {rows:LR9} (g:H l=some (.lst us)) (h:Paired (pS K P H) rows us) (h0:∀q,P q->H0 q=none) (hn:∀q,P q->q≠l):bu K H0 H l rows :=
 #[us,g,Paired.imp' (λ_ _ #[q,a,c,d]=>#[q,a,h0 q c,d]) h,λz=>by
  obtain _|_|q|e|c|_:=dN h z;cases e;exact hn _ c rfl]
end
theorem tV {α β:Type} {F G:α->β->Prop}:∀{l1:List α} {l2:List β},(∀a b,b∈l2->F a b->G a b)->Paired F l1 l2->Paired G l1 l2
 | _,_,_,.nil=>.nil
 | _,_,h,.cons a r=>.cons (h _ _ (by simp) a) (tV (λx y hy=>h x y (by simp [hy])) r)
section
variable {rows rows' R R':LR9}
theorem Ct (hw:∀xs∈rows,xs.9=n) (hW:1<=W) (ent:∀i,i < (rows.map js).9->∀c,Fr 1 W (fv (rows.map js) i c)):∀P,P<=n->∃ls ps d,Dk (rows.map js) n P ls ps d:=by
 intro P
 induction P with
 | zero=>intro _;exact #[_,_,_,Dk.start λzs hz=>by obtain x|hx|rfl:=aA.mp hz;rw[sO];exact hw x hx]
 | succ P ih =>
  intro hP;obtain ls|ps|d|I:=ih ();by_cases e:∃t,ps.9<=t/\t < ls.9/\fv ls t P≠0
  ·obtain t|h1|h2|h3:=e;exact #[_,_,_,I.step hW ent h1 h2 h3]
  ·exact #[_,_,_,I.skip λi h1 h2=>by
    by_cases z:fv ls i P=0
    ·exact z
    ·exact absurd #[i,h1,h2,z] e]
theorem CN (hw:∀xs∈rows,xs.9=n) (F:Dm rows n w):∃R ps d ls,Ws rows n w R ps d ls:=by
 obtain W|hW|W2|ent:=F.ent;obtain ls|ps|d|I:=Ct hw hW ent n (ah _);obtain R|S:=I.done hw F;exact #[R,ps,d,_,S]
theorem Va (hw:∀xs∈rows,xs.9=n) (F:Dm rows n w) (RR:bS rows n R ps):ps.9<=rows.9/\∃M,0 < M/\M<=2^(min rows.9 n*(w+4))/\∀xs∈R,∀x∈xs,Tp M (2^(min rows.9 n*(w+4))) x:=by
 obtain R2|ps2|d|ls|S:=CN hw F;obtain rfl|rfl:=S.rr.same RR;exact #[S.km,d.natAbs,Int.natAbs_pos.mpr S.d0,S.dsz,S.tp]
theorem L8 {p q:Nat->Nat} (hp:∀i j,i < j->j < k->p i < p j) (hq:∀i j,i < j->j < k->q i < q j) (hs:∀i,i < k->∃j,j < k/\q j=p i):∀i,i < k->p i=q i:=by
 have hqm:∀i j,i<=j->j < k->q i<=q j:=λi j h hj=>by
  rcases bZ i j with z | z
  ·exact dn (hq i j z hj)
  ·have:i=j:=()
   rw[this];exact ah _
 have hqi:∀i j,i < k->j < k->q i < q j->i < j:=λi j hi hj h=>by
  rcases bZ i j with z | z
  ·exact z
  ·have:=hqm j i z hi
   lia
 have key:∀i,i < k->∀j,j < k->q j=p i->i<=j:=by
  intro i
  induction i with
  | zero=>intro _ j _ _;exact aW _
  | succ i ih =>
   intro hi j hj e;obtain j'|hj'|e':=hs i ();have h1:=ih () j' hj' e';have h2:=hp i (i+1) () hi;have:=hqi j' j hj' hj ()
   lia
 have key2:∀t i,i+t+1=k->∀j,j < k->q j=p i->j<=i:=by
  intro t
  induction t with
  | zero=>intro i e j hj _;lia
  | succ t ih =>
   intro i e j hj ej;obtain j'|hj'|e':=hs (i+1) ();have h1:=ih (i+1) () j' hj' e';have h2:=hp i (i+1) () ();have:=hqi j j' hj hj' ()
   lia
 intro i hi;obtain j|hj|e:=hs i hi;have h1:=key i hi j hj e;have h2:=key2 (k - 1 - i) i () j hj e;have:j=i:=()
 rw[<- e,this]
theorem CM (h:bS rows n R ps) (h':bS rows' n R' ps') (hl:ps.9=ps'.9) (hs:∀i,i < ps.9->eY ps'.9 (bV R') (bV R i)):R=R'/\ps=ps':=by
 obtain l1|w1|r1:=h;obtain l2|w2|r2:=h'
 have ep:∀i,i < ps.9->ps.getD i 0=ps'.getD i 0:=L8 r1.inc (by rw[hl];exact r2.inc) λi hi=>by
  have u:=r1.unit i hi i hi;rw[if_pos rfl] at u;obtain j|hj|e:=r2.lead_in (hs i hi) (c:=ps.getD i 0) (by rw[u];decide) (λc hc=>r1.lead i hi c hc);exact #[j,(),e]
 have eps:ps=ps':=by
  apply fO hl;intro i a b;have:=ep i a;rw[aa,aa,ae a,ae b] at this;exact this
 refine #[Ou (n:=n) () w1 w2 λi hi c=>?_,eps];rw[l1] at hi;rw[r2.coef (hs i hi) c,<- hl,iQ hi λj hj hj'=>?_]
 ·rw[<- ep i hi];have u:=r1.unit i hi i hi;rw[if_pos rfl] at u;rw[u];grind
 ·rw[<- ep j hj];have u:=r1.unit i hi j hj;rw[if_neg (Ne.symm hj')] at u;rw[u];grind
end
def rV (mv:LR9) (x:List Rat):List Rat:=mv.map λxs=>bJ xs x
def kry (mv pt:LR9):Nat->LR9
 | 0=>[]
 | t+1=>pt++(kry mv pt t).map (rV mv)
section
variable {mv pt R R' S X Y:LR9} {n t m i c:Nat} {ps ps':List Nat} {a:Nat->Nat->Rat}
theorem D8:(rV mv x).9=mv.9:=ag ..
theorem NI (lm:mv.9=n) (wm:∀xs∈mv,xs.9=n) (wR:∀xs∈R,xs.9=n) (hi:i < R.9) (c:Nat):bV (R.map (rV mv)) i c=bF n λj=>bV mv c j*bV R i j:=by
 have wi:=wR _ (aF hi);have e1:(R.map (rV mv)).getD i []=rV mv R[i]:=by rw[aa,aB,ae hi];rfl
 have e2:R.getD i []=R[i]:=by rw[aa,ae hi];rfl
 by_cases hc:c < n
 ·have wc:=wm _ (aF (show c < mv.9 by lia));have e3:mv.getD c []=mv[c]'():=by rw[aa,ae ()];rfl
  have e4:(rV mv R[i]).getD c 0=bJ (mv[c]'()) R[i]:=by
   unfold rV;rw[aa,aB,ae ()];rfl
  unfold bV;rw[e1,e2,e3,e4,cQ (),wc]
 ·have e3:mv.getD c []=[]:=by rw[aa,aP ()];rfl
  unfold bV
  rw[e1,e3,aa,aP (by rw[D8];lia),cZ λj _=>by
   show ([]:List Rat).getD j 0*_=0
   rw[aa];show (0:Rat)*_=0
   grind]
  rfl
theorem Jb (lm:mv.9=n) (wm:∀xs∈mv,xs.9=n) (wR:∀xs∈R,xs.9=n) (wS:∀xs∈S,xs.9=n) (hi:i < R.9) (h:eY S.9 (bV S) (bV R i)):eY (S.map (rV mv)).9 (bV (S.map (rV mv))) (bV (R.map (rV mv)) i):=by
 obtain w|hw:=h;refine #[w,λc=>?_];rw[NI lm wm wR hi,ag]
 have e1:bF n (λj=>bV mv c j*bV R i j)=bF n (λj=>bF S.9 λs=>w s*(bV mv c j*bV S s j)):=aN λj _=>by
  rw[hw j,<- cF];exact aN λs _=>by grind
 rw[e1,fN];exact aN λs hs=>by rw[cF,NI lm wm wS hs]
theorem yH (h:i < X.9):bV (X++Y) i=bV X i:=by
 funext c;unfold bV;rw[aa (l:=X++Y),bA h,<- aa]
theorem vK:bV (X++Y) (X.9+i)=bV Y i:=by
 funext c;unfold bV;rw[aa (l:=X++Y),a7 (),show X.9+i - X.9=i by lia,<- aa]
theorem DH (h1:∀i,i < X.9->eY m a (bV X i)) (h2:∀i,i < Y.9->eY m a (bV Y i)):∀i,i < (X++Y).9->eY m a (bV (X++Y) i):=λi hi=>by
 rw[aj] at hi;by_cases h:i < X.9
 ·rw[yH h];exact h1 i h
 ·obtain ⟨j,rfl⟩:∃j,i=X.9+j:=#[i - X.9,()];rw[vK];exact h2 j ()
theorem zi (h:i < X.9):eY (X++Y).9 (bV (X++Y)) (bV X i):=by
 have:=eY.row (a:=bV (X++Y)) (m:=(X++Y).9) (i:=i) (by rw[aj];lia);rwa [yH h] at this
theorem xm (h:eY Y.9 (bV Y) x):eY (X++Y).9 (bV (X++Y)) x:=eY.trans (λs hs=>by
 have:=eY.row (a:=bV (X++Y)) (m:=(X++Y).9) (i:=X.9+s) (by rw[aj];lia);rwa [vK] at this) h
theorem dX (lm:mv.9=n) (wp:∀xs∈pt,xs.9=n):∀t,∀xs∈kry mv pt t,xs.9=n:=by
 intro t
 induction t with
 | zero=>intro xs hx;cases hx
 | succ t ih =>
  intro xs hx;rcases av.mp hx with hx | hx
  ·exact wp xs hx
  ·obtain y|_|rfl:=aA.mp hx;rw[D8,lm]
theorem AJ (lm:mv.9=n) (wm:∀xs∈mv,xs.9=n) (wp:∀xs∈pt,xs.9=n) (RR:bS (kry mv pt t) n R ps) (RR':bS (pt++R.map (rV mv)) n R' ps'):bS (kry mv pt (t+1)) n R' ps':=by
 have wk:=dX (mv:=mv) lm wp t;refine #[RR'.1,RR'.2.1,RR'.2.2.other ?_ ?_]
 ·refine DH (λi hi=>zi hi) λi hi=>xm ?_
  rw[ag] at hi;exact Jb lm wm RR.2.1 wk hi (RR.2.2.back i (by rw[<- RR.1];exact hi))
 ·refine DH (λi hi=>zi hi) λi hi=>xm ?_
  rw[ag] at hi;have:=RR.2.2.span i hi;rw[<- RR.1] at this;exact Jb lm wm wk RR.2.1 hi this
theorem N7 (lm:mv.9=n) (wm:∀xs∈mv,xs.9=n) (wp:∀xs∈pt,xs.9=n):∀t i,i < (kry mv pt t).9->eY (kry mv pt (t+1)).9 (bV (kry mv pt (t+1))) (bV (kry mv pt t) i):=by
 intro t
 induction t with
 | zero=>intro i hi;cases hi
 | succ t ih =>
  refine DH (λi hi=>zi hi) λi hi=>xm ?_
  rw[ag] at hi;exact Jb lm wm (dX lm wp t) (dX lm wp (t+1)) hi (ih i hi)
theorem AI (lm:mv.9=n) (wm:∀xs∈mv,xs.9=n) (wp:∀xs∈pt,xs.9=n) (RR:bS (kry mv pt t) n R ps) (RR':bS (kry mv pt (t+1)) n R' ps'):∀i,i < ps.9->eY ps'.9 (bV R') (bV R i):=λi hi =>
 eY.trans (λs hs=>RR'.2.2.span s hs) (eY.trans (N7 lm wm wp t) (RR.2.2.back i hi))
theorem L5 (lm:mv.9=n) (wm:∀xs∈mv,xs.9=n) (wp:∀xs∈pt,xs.9=n) (RR:bS (kry mv pt t) n R ps) (RR':bS (pt++R.map (rV mv)) n R' ps') (hl:ps'.9=ps.9):∀s,bS (kry mv pt (t+s)) n R ps:=by
 have K1:=AJ lm wm wp RR RR';obtain e1|e2:=CM RR K1 hl.symm (AI lm wm wp RR K1);subst e1 e2;intro s
 induction s with
 | zero=>exact RR
 | succ s ih=>exact AJ lm wm wp ih RR'
theorem Ob (lm:mv.9=n) (wm:∀xs∈mv,xs.9=n) (wp:∀xs∈pt,xs.9=n) (RR:bS (kry mv pt t) n R ps) (RR':bS (kry mv pt (t+1)) n R' ps'):ps.9<=ps'.9:=by
 have h:=AI lm wm wp RR RR'
 have hs:∀i,i < ps.9->∃j,j < ps'.9/\ps'.getD j 0=ps.getD i 0:=λi hi=>by
  have u:=RR.2.2.unit i hi i hi;rw[if_pos rfl] at u;exact RR'.2.2.lead_in (h i hi) (c:=ps.getD i 0) (by rw[u];decide) (λc hc=>RR.2.2.lead i hi c hc)
 rcases bZ ps'.9 ps.9 with z | z
 ·exfalso
  have key:∀i,i < ps.9->∀j,j < ps'.9->ps'.getD j 0=ps.getD i 0->i<=j:=by
   intro i
   induction i with
   | zero=>intro _ j _ _;exact aW _
   | succ i ih =>
    intro hi j hj e;obtain j'|hj'|e':=hs i ();have h1:=ih () j' hj' e';have h2:=RR.2.2.inc i (i+1) () hi;rcases bZ j' j with y | y
    ·lia
    ·rcases bZ j j' with x | x
     ·have:=RR'.2.2.inc j j' x hj'
      lia
     ·have:j=j':=()
      rw[this] at e
      lia
  obtain j|hj|e:=hs (ps.9 - 1) ();have:=key (ps.9 - 1) () j hj e
  lia
 ·exact z
theorem T1 {M V c:Nat} (lm:mv.9=n) (wm:∀xs∈mv,xs.9=n) (wp:∀xs∈pt,xs.9=n) (hc:(n+1)*V<=2^c) (fm:GF M V mv) (fp:GF M V pt):∀t,∀xs∈kry mv pt t,∀x∈xs,Fr (M^t) (2^(c*t)) x:=by
 intro t
 induction t with
 | zero=>intro xs hx;cases hx
 | succ t ih =>
  intro xs hx x hx';have hV:V<=2^c:=af (ck _ ()) hc;rcases av.mp hx with hx | hx
  ·refine Fr.up (fp xs hx x hx') (by rw[ft];exact bP _ _) (af hV (ak () (cJ _ ())))
  ·obtain y|hy|rfl:=aA.mp hx;unfold rV at hx';obtain r|hr|rfl:=aA.mp hx';have wr:=wm r hr;have wy:=dX (mv:=mv) lm wp t y hy;have f:=QY () (fm r hr) (ih y hy);rw[ft,bQ (M^t)];refine f.mono ?_;rw[iC,O4,ax,bQ (2^(c*t)),<- cD,wr];exact ay _ (af (ay _ ()) hc)
def uO (mv pt:LR9) (a c:Nat):Prop:=∃M V:Nat,0 < M/\M<=2^a/\(mv.9+1)*V<=2^c/\GF M V mv/\GF M V pt/\a<=400/\c<=40/\mv.9*(mv.9*(a+c)+4)<=1740/\mv.9*(mv.9*(mv.9*(a+c)+4)+a+c+4)<=8900000
theorem uO.swf {a c:Nat} (F:uO mv pt a c) (D:mv.9<=8) (wm:∀xs∈mv,xs.9=mv.9) (wp:∀xs∈pt,xs.9=mv.9) (ht:t<=mv.9):Dm (kry mv pt t) mv.9 (mv.9*(a+c)):=by
 obtain M|V|M0|Ma|hV|fm|fp|a3|c3|e14|e89:=F;have f:=T1 rfl wm wp hV fm fp t;have h1:mv.9*(a+c)<=8*440:=aw D ();have hM:M^t<=2^(a*mv.9):=af (mW Ma _) (by rw[<- rR];exact ak () (au _ ht));have h2:a*mv.9<=mv.9*(a+c):=by rw[bQ];exact au _ ()
 have h3:mv.9=0\/mv.9*(a+c)<=1740:=by
  rcases iH mv.9 with z | z
  ·exact .inl z
  ·right
   have:=ck (mv.9*(a+c)+4) z
   lia
 have h4:mv.9*(a+c)<=1740:=by
  rcases h3 with z | z
  ·rw[z];lia
  ·exact z
 refine #[M^t,2^(mv.9*(a+c)),df M0,af hM (ak () ()),b8,ah _,λxs hx x hx'=>Tp.of (f xs hx x hx') ?_,(),(),?_]
 ·refine af (aw (ak () (au c ht)) hM) ?_;rw[<- ax];refine ak () ?_;rw[bQ c,bQ a,<- iC,yY c];exact ah _
 ·exact af (ay _ (yA _ _)) ()
theorem uO.tp {a c:Nat} (F:uO mv pt a c) (D:mv.9<=8) (wm:∀xs∈mv,xs.9=mv.9) (wp:∀xs∈pt,xs.9=mv.9) (ht:t<=mv.9) (RR:bS (kry mv pt t) mv.9 R ps):∃M,0 < M/\M<=2^(mv.9*(mv.9*(a+c)+4))/\∀xs∈R,∀x∈xs,Tp M (2^(mv.9*(mv.9*(a+c)+4))) x:=by
 obtain _|M|h0|h1|h2:=Va (dX rfl wp t) (F.swf D wm wp ht) RR;have le:2^(min (kry mv pt t).9 mv.9*(mv.9*(a+c)+4))<=2^(mv.9*(mv.9*(a+c)+4)):=ak () (ay _ (yA _ _));exact #[M,h0,af h1 le,λxs hx x hx'=>(h2 xs hx x hx').mono le]
theorem uO.step {a c:Nat} (F:uO mv pt a c) (D:mv.9<=8) (wm:∀xs∈mv,xs.9=mv.9) (wp:∀xs∈pt,xs.9=mv.9) (ht:t<=mv.9) (RR:bS (kry mv pt t) mv.9 R ps):Dm (pt++R.map (rV mv)) mv.9 (mv.9*(mv.9*(a+c)+4)+a+c):=by
 obtain N|N0|N1|tN:=F.tp D wm wp ht RR;obtain M|V|M0|Ma|hV|fm|fp|a3|c3|e14|e89:=F;generalize mv.9*(mv.9*(a+c)+4)=e at *
 have V1:V<=2^c:=af (ck _ ()) hV;have eW:(2:Nat)^(e+a+c)=2^c*(2^a*2^e):=by rw[<- ax,<- ax];congr 1;lia
 refine #[N*M,2^(e+a+c),aM N0 M0,?_,b8,ah _,λxs hx x hx'=>?_,(),(),?_]
 ·exact af (aw N1 Ma) (by rw[<- ax];exact ak () ())
 ·rcases av.mp hx with hx | hx
  ·refine Tp.of ((fp xs hx x hx').scaleL N) ?_;rw[eW,bQ N];exact aw V1 (aw Ma N1)
  ·obtain y|hy|rfl:=aA.mp hx;unfold rV at hx';obtain r|hr|rfl:=aA.mp hx';have wr:=wm r hr;have wy:=RR.2.1 y hy;rw[cQ (),wr];have t1:∀j,Tp M (V*M) (r.getD j 0):=λj=>jd (λx hx=>Tp.of (fm r hr x hx) (ah _)) j
   have t2:∀j,Tp N (2^e) (y.getD j 0):=λj=>jd (tN y hy) j
   have:=Tp.sum (k:=mv.9) (M:=N*M) (W:=V*M*2^e) (f:=λj=>r.getD j 0*y.getD j 0) λj _=>by
    have:=(t1 j).mul (t2 j);rwa [bQ M N] at this
   refine this.mono ?_;rw[eW,cD V,<- cD mv.9];exact aw (af (ay _ ()) hV) (ay _ Ma)
 ·exact af (ay _ (yA _ _)) (by rw[show e+a+c+4=e+a+c+4 from rfl];exact e89)
theorem uO.fit {a c:Nat} (F:uO mv pt a c) (D:mv.9<=8) (wm:∀xs∈mv,xs.9=mv.9) (wp:∀xs∈pt,xs.9=mv.9) (ht:t<=mv.9) (RR:bS (kry mv pt t) mv.9 R ps):∀xs∈mv,∀r∈R,ye xs r:=λxs hx r hr=>by
 obtain N|N0|N1|tN:=F.tp D wm wp ht RR;obtain M|V|M0|Ma|hV|fm|fp|a3|c3|e14|e89:=F;have V1:V<=2^c:=af (ck _ ()) hV;have p14:=ak (show 0 < 2 by decide) e14;exact #[400,40,1740,1740,#[M,V,M0,af Ma (ak () a3),af V1 (ak () c3),fm xs hx],#[N,2^1740,N0,af N1 p14,ah _,λx hx=>((tN r hr x hx).mono p14).fr N0],()]
end
inductive CB (K:FG9) (C:Addr) (vs:List V) (H:Hp) (Q:VK) (E9:XK):Prop
 | mk (x p:Addr) (H0 H1:Hp) (mv pt lk R:LR9):vs=[.ref x,.ref p]->mS K H0 H C x mv pt lk->eU mv pt lk->bu K H1 H p R->R.9<=100->(∀r∈R,r.9=mv.9)->(∀xs∈mv,∀r∈R,ye xs r)->(∀r H',H r=none->aH H H'->bu K H H' r (R.map (rV mv))->Q (.ref r) H')->CB K C vs H Q E9
structure uy (mv pt:LR9) (Rs:List (LR9)):Prop where
 ne:Rs≠[]
 rr:∀t R,Rs[t]?=some R->∃ps,bS (kry mv pt t) mv.9 R ps
 up:∀t R R',Rs[t]?=some R->Rs[t+1]?=some R'->R.9 < R'.9
def GrL (K:FG9) (H0 H:Hp) (l:Addr) (Rs:List (LR9)):Prop:=∃us,H l=some (.lst us)/\Paired (λR v=>∃q,v=V.ref q/\H0 q=none/\q≠l/\bu K H0 H q R) Rs us
inductive CH (K:FG9) (C:Addr) (vs:List V) (H:Hp) (Q:VK) (E9:XK):Prop
 | mk (x:Addr) (a c st:Nat) (H0:Hp) (mv pt lk:LR9):vs=[.ref x,.int st]->st<=1000->mS K H0 H C x mv pt lk->eU mv pt lk->uO mv pt a c->(∀r Rs H',H r=none->aH H H'->GrL K H H' r Rs->uy mv pt Rs->Rs.9<=st+1->(∀R,Rs.getLast?=some R->∀s,(Rs.9 - 1=st/\s=st\/Rs.9 - 1 < st/\Rs.9 - 1<=s)->∃ps,bS (kry mv pt s) mv.9 R ps)->Q (.ref r) H')->CH K C vs H Q E9
section
variable {K:FG9}
theorem bu.weakN (h:bu K H0 H p rows) (hn:∀q,H0 q=none->H1 q=none):bu K H1 H p rows:=by obtain xs|g|r|n:=h;exact #[xs,g,Paired.imp' (λ_ _ #[q,a,b,c]=>#[q,a,hn q b,c]) r,n]
theorem bu.updL (h:bu K H0 H p rows) (hl:H l=some (.lst ys)) (nl:H0 l≠none) (pl:p≠l):bu K H0 (upd H l o) p rows:=by obtain xs|g|r|n:=h;exact #[xs,by rw[bG pl];exact g,Paired.imp' (λ_ _ z=>dq.updL z hl nl) r,n]
theorem S3:bS [] n [] []:=#[rfl,(λ_ h=>by cases h),(λ_ _ _ h=>absurd h (dw _)),(λ_ h=>absurd h (dw _)),(λ_ h=>absurd h (dw _)),(λ_ h=>absurd h (dw _)),(λ_ h=>absurd h (dw _)),(λ_ h=>absurd h (dw _))]
theorem uy.len (h:uy mv pt Rs):∀(t:Nat) (R:LR9),Rs[t]?=some R->t<=R.9:=by
 intro t
 induction t with
 | zero=>intro R _;exact aW _
 | succ t ih =>
  intro R e;have ht:=(aJ.mp e).1;have e0:=ae (show t < Rs.9 by lia);have:=ih _ e0;have:=h.up t _ R e0 e
  lia
theorem uy.snoc (h:uy mv pt (Rs++[R])) (h1:bS (kry mv pt (Rs.9+1)) mv.9 R' ps') (h2:R.9 < R'.9):uy mv pt ((Rs++[R])++[R']):=by
 have l1:(Rs++[R]).9=Rs.9+1:=by rw[aj];rfl
 refine #[by simp,λt S e=>?_,λt S S' e e'=>?_]
 ·rcases bZ t (Rs.9+1) with z | z
  ·rw[bA ()] at e;exact h.rr t S e
  ·have ht:=(aJ.mp e).1;rw[aj,bg] at ht;have:t=Rs.9+1:=()
   subst this;rw[a7 (),l1,fY] at e;cases e;exact #[ps',h1]
 ·have ht:=(aJ.mp e').1;rw[aj,bg] at ht;rw[bA ()] at e;rcases bZ (t+1) (Rs.9+1) with z | z
  ·rw[bA ()] at e';exact h.up t S S' e e'
  ·have:t=Rs.9:=()
   subst this;rw[a7 (),l1,fY] at e';cases e';rw[a7 (ah _),fY] at e;cases e;exact h2
end
def rL (k t i:Nat):Nat:=if i < k then i else if i=k then t else if i<=t then i - 1 else i
def Gg (k t i:Nat):Nat:=if i < k then i else if i=t then k else if i < t then i+1 else i
section
variable {k t m i j:Nat}
theorem vW (h : k ≤ t) (ht : t < m) (hi : i < m) : rL k t i < m := by     unfold rL; split; · exact hi
                                                                          · split; · exact ht
                                                                            · split <;> lia
theorem Vb (h : k ≤ t) (ht : t < m) (hi : i < m) : Gg k t i < m := by     unfold Gg; split; · exact hi
                                                                          · split; · lia
                                                                            · split <;> lia
theorem U9 (h:k<=t):rL k t (Gg k t i)=i:=by
 by_cases h1:i < k
 ·rw[show Gg k t i=i by unfold Gg;rw[if_pos h1]];unfold rL;rw[if_pos h1]
 ·by_cases h2:i=t
  ·rw[show Gg k t i=k by unfold Gg;rw[if_neg h1,if_pos h2]];unfold rL;rw[if_neg (),if_pos rfl,h2]
  ·by_cases h3:i < t
   ·rw[show Gg k t i=i+1 by unfold Gg;rw[if_neg h1,if_neg h2,if_pos h3]];unfold rL;rw[if_neg (),if_neg (),if_pos ()];lia
   ·rw[show Gg k t i=i by unfold Gg;rw[if_neg h1,if_neg h2,if_neg h3]];unfold rL;rw[if_neg h1,if_neg (),if_neg ()]
theorem RT (h:k<=t):Gg k t (rL k t i)=i:=by
 by_cases h1:i < k
 ·rw[show rL k t i=i by unfold rL;rw[if_pos h1]];unfold Gg;rw[if_pos h1]
 ·by_cases h2:i=k
  ·rw[show rL k t i=t by unfold rL;rw[if_neg h1,if_pos h2]];unfold Gg;rw[if_neg (),if_pos rfl,h2]
  ·by_cases h3:i<=t
   ·rw[show rL k t i=i - 1 by unfold rL;rw[if_neg h1,if_neg h2,if_pos h3]];unfold Gg;rw[if_neg (),if_neg (),if_pos ()];lia
   ·rw[show rL k t i=i by unfold rL;rw[if_neg h1,if_neg h2,if_neg h3]];unfold Gg;rw[if_neg h1,if_neg (),if_neg ()]
theorem tQ (hi:i < k):rL k t i=i:=by unfold rL;rw[if_pos hi]
theorem vX (h:k<=t) (hi:k<=i):k<=rL k t i:=by
 unfold rL;rw[if_neg ()]
 split
 ·exact h
 ·split <;> lia
variable {a l:Nat->Nat->Rat} {pm p:Nat->Nat} {d:Rat} {P:Nat}
theorem xg.rot (B:xg a m k pm p l d) (h:k<=t) (ht:t < m):xg a m k (λi=>pm (rL k t i)) p (λi=>l (rL k t i)) d where
 inj i j hi hj e:=by
  have:=B.inj _ _ (vW h ht hi) (vW h ht hj) e;rw[<- RT (i:=i) h,this,RT h]
 rng i hi:=B.rng _ (vW h ht hi)
 km:=B.km
 d0:=B.d0
 det:=by rw[B.det,Ac (f:=pm) (g:=λi=>pm (rL k t i)) λj hj=>by rw[tQ hj]]
 eqs i hi c:=by
  have e:=B.eqs (rL k t i) (vW h ht hi) c;have e1:bF k (λj=>a (pm (rL k t i)) (p j)*l (rL k t j) c)=bF k (λj=>a (pm (rL k t i)) (p j)*l j c):=aN λj hj=>by rw[tQ hj]
  rw[e1];by_cases hk:i < k
  ·rw[tQ hk] at e ⊢;exact e
  ·rw[if_neg hk];rw[if_neg (by have:=vX h (show k<=i by lia);lia)] at e;exact e
 unit i hi j hj:=by
  rw[B.unit _ (vW h ht hi) j hj];by_cases hk:i < k
  ·rw[tQ hk]
  ·have:=vX h (show k<=i by lia);rw[if_neg (),if_neg ()]
theorem lZ.rot (E:lZ a m k P p l d) (h:k<=t) (ht:t < m):lZ a m k P p (λi=>l (rL k t i)) d where
 km:=E.km
 d0:=E.d0
 unit i hi j hj:=by
  rw[E.unit _ (vW h ht hi) j hj];by_cases hk:i < k
  ·rw[tQ hk]
  ·have:=vX h (show k<=i by lia);rw[if_neg (),if_neg ()]
 inc:=E.inc
 low:=E.low
 zero i h1 h2 c hc:=E.zero _ (vX h h1) (vW h ht h2) c hc
 lead j hj c hc:=by rw[tQ hj];exact E.lead j hj c hc
 there i hi:=eY.trans (λs hs=>eY.congr (λc=>by rw[U9 h]) (eY.row (a:=λi=>l (rL k t i)) (i:=Gg k t s) (Vb h ht hs))) (E.there i hi)
 back i hi:=E.back _ (vW h ht hi)
end
section
variable {rows fs ls:LR9} {n P w a:Nat} {ps:List Nat}
theorem Po:lJ k k i=i:=by unfold lJ;split <;> (try split) <;> lia
theorem A5.rot (h:A5 rows n P (fs++ls) ps) (hf:fs.9=ps.9) (ht:t < ls.9):A5 rows n P (fs++ls.getD t [] :: ls.eraseIdx t) ps:=by
 obtain len|wide|pm|l|d|B|E|v:=h;rw[aj] at len;have h1:ps.9<=ps.9+t:=()
 have h2:ps.9+t < rows.9:=()
 have ef:∀i,i < rows.9->∀c,bV (fs++ls.getD t [] :: ls.eraseIdx t) i c=bV (fs++ls) (rL ps.9 (ps.9+t) i) c:=λi hi c=>by
  by_cases z:i < ps.9
  ·rw[tQ z,yH (),yH ()]
  ·obtain ⟨j,rfl⟩:∃j,i=fs.9+j:=#[i - fs.9,()];rw[vK];cases j with
   | zero =>
    rw[show rL ps.9 (ps.9+t) (fs.9+0)=fs.9+t by unfold rL;rw[if_neg (),if_pos ()];lia,vK];rfl
   | succ j =>
    by_cases y:j < t
    ·rw[show rL ps.9 (ps.9+t) (fs.9+(j+1))=fs.9+j by unfold rL;rw[if_neg (),if_neg (),if_pos ()];lia,vK];show bV (ls.eraseIdx t) j c=_
     unfold bV;rw[aa (l:=ls.eraseIdx t),List.getElem?_eraseIdx_of_lt y,<- aa]
    ·rw[show rL ps.9 (ps.9+t) (fs.9+(j+1))=fs.9+(j+1) by unfold rL;rw[if_neg (),if_neg (),if_neg ()],vK];show bV (ls.eraseIdx t) j c=_
     unfold bV;rw[aa (l:=ls.eraseIdx t),List.getElem?_eraseIdx_of_ge (),<- aa]
 refine #[?_,λxs hx=>?_,λi=>pm (rL ps.9 (ps.9+t) i),λi=>l (rL ps.9 (ps.9+t) i),d,B.rot h1 h2,E.rot h1 h2,λi hi c=>?_]
 ·rw[aj,a8,Sw ht];lia
 ·rcases av.mp hx with hx | hx
  ·exact wide xs (av.mpr (.inl hx))
  ·rcases aD.mp hx with rfl | hx
   ·exact wide _ (av.mpr (.inr (getD_in ht)))
   ·exact wide xs (av.mpr (.inr (UM hx)))
 ·rw[ef i hi c,v _ (vW h1 h2 hi) c];by_cases z:i < ps.9
  ·dsimp only
   rw[tQ z]
  ·rw[if_neg z,if_neg (by have:=vX h1 (show ps.9<=i by lia);lia)]
def pX (P:Nat) (h:List Rat):List Rat:=h.map λy=>1 / h.getD P 0*y
def Ay (P:Nat) (u r:List Rat):List Rat:=List.zipWith (λx y=>x - y) r (u.map λy=>r.getD P 0*y)
theorem A5.lean (h:A5 rows n P (fs++ls) ps) (hf:fs.9=ps.9) (ht:t < ls.9) (hP:P < n) (hne:(ls.getD t []).getD P 0≠0):A5 rows n (P+1) ((fs.map (Ay P (pX P (ls.getD t [])) )++[pX P (ls.getD t [])])++(ls.eraseIdx t).map (Ay P (pX P (ls.getD t [])))) (ps++[P]):=by
 have R:=h.rot hf ht;have len:=R.len;have wide:=R.wide;generalize ls.getD t []=hd at *
 generalize ls.eraseIdx t=l2 at *
 rw[aj,a8] at len;have whd:hd.9=n:=wide _ (av.mpr (.inr (.head _)));have wu:(pX P hd).9=n:=by unfold pX;rw[ag];exact whd
 have ek:bV (fs++hd :: l2) ps.9=λc=>hd.getD c 0:=by
  have:=vK (X:=fs) (Y:=hd :: l2) (i:=0);rw[show fs.9+0=ps.9 by lia] at this;rw[this];rfl
 have wl:∀r,r.9=n->(Ay P (pX P hd) r).9=n:=λr hr=>by unfold Ay;rw[aZ,ag,wu,hr];lia
 have vl:∀r,r.9=n->∀c,(Ay P (pX P hd) r).getD c 0=r.getD c 0 - r.getD P 0*(1 / hd.getD P 0*hd.getD c 0):=λr hr c=>by
  unfold Ay;rw[Ub (by rw[ag,wu,hr]),Om];unfold pX;rw[Om]
 refine R.step (t:=ps.9) (ah _) (by rw[aj,a8];lia) (by rw[ek];exact hne) ?_ ?_ λi hi c=>?_
 ·rw[aj,aj,ag,ag,bg];lia
 ·intro xs hx;rcases av.mp hx with hx | hx
  ·rcases av.mp hx with hx | hx
   ·obtain r|hr|rfl:=aA.mp hx;exact wl r (wide r (av.mpr (.inl hr)))
   ·rw[bh.mp hx];exact wu
  ·obtain r|hr|rfl:=aA.mp hx;exact wl r (wide r (av.mpr (.inr (.tail _ hr))))
 ·rw[Po,ek]
  dsimp only
  have lf:(fs.map (Ay P (pX P hd))).9=ps.9:=by rw[ag];exact hf
  have key:∀{X:LR9} {s:Nat} (hs:s < X.9) (_:∀r∈X,r.9=n),bV (X.map (Ay P (pX P hd))) s c=bV X s c - bV X s P*(1 / hd.getD P 0*hd.getD c 0):=λ{X s} hs hX=>by
   unfold bV;have e1:(X.map (Ay P (pX P hd))).getD s []=Ay P (pX P hd) X[s]:=by rw[aa,aB,ae hs];rfl
   have e2:X.getD s []=X[s]:=by rw[aa,ae hs];rfl
   rw[e1,e2];exact vl _ (hX _ (aF hs)) c
  rcases lD i ps.9 with z | z | z
  ·rw[if_neg (),cz,yH (),yH (),key () λr hr=>wide r (av.mpr (.inl hr))]
  ·rw[if_pos z,cz,show i=(fs.map (Ay P (pX P hd))).9+0 by lia,vK];show (pX P hd).getD c 0=_
   unfold pX;rw[Om]
  ·rw[if_neg ()];obtain ⟨j,rfl⟩:∃j,i=ps.9+1+j:=#[i - ps.9 - 1,()]
   have e1:bV (fs++hd :: l2) (ps.9+1+j)=bV l2 j:=by
    have:=vK (X:=fs) (Y:=hd :: l2) (i:=j+1);rw[show fs.9+(j+1)=ps.9+1+j by lia] at this;rw[this];rfl
   have e2:bV ((fs.map (Ay P (pX P hd))++[pX P hd])++l2.map (Ay P (pX P hd))) (ps.9+1+j)=bV (l2.map (Ay P (pX P hd))) j:=by
    have:=vK (X:=fs.map (Ay P (pX P hd))++[pX P hd]) (Y:=l2.map (Ay P (pX P hd))) (i:=j);rw[aj,lf,bg] at this;exact this
   rw[e1,e2,key () λr hr=>wide r (av.mpr (.inr (.tail _ hr)))]
end
theorem we {α β:Type} {F:α->β->Prop}:∀{l1:List α} {l2:List β} (_:Paired F l1 l2) (i:Nat),Paired F (l1.eraseIdx i) (l2.eraseIdx i)
 | _,_,.nil,_=>.nil
 | _,_,.cons _ r,0=>r
 | _,_,.cons h r,i+1=>.cons h (we r i)
theorem TU:c∈QE xs i↔c < i/\xs.getD c 0≠0:=by
 unfold QE;rw[Pb,o8];simp
theorem bu.toE {K:FG9} (h:bu K H0 H l rows):∃us,H l=some (.lst us)/\Paired (pS K (λq=>H0 q=none/\q≠l) H) rows us:=by
 obtain us|g|pr|nn:=h;exact #[us,g,tV (λxs v hv #[q,e,a,b]=>#[q,e,#[a,λz=>nn (by rw[<- z,<- e];exact hv)],b]) pr]
theorem CV {α:Type} {v:α}:∀{l:List α},l.Nodup->v∉l->∀j,(l.set j v).Nodup
 | [],_,_,_=>Sv
 | a :: l,h,hn,0=>by
  rw[fG] at h;rw[List.set_cons_zero,fG];exact #[λz=>hn (.tail _ z),h.2]
 | a :: l,h,hn,j+1=>by
  rw[fG] at h;rw[List.set_cons_succ,fG];refine #[λz=>?_,CV h.2 (λz=>hn (.tail _ z)) j];rcases cx z with z | z
  ·exact h.1 z
  ·exact hn (by rw[z];exact .head _)
structure lH (K:FG9) (A:Addr->Prop) (H:Hp) (n:Nat) (C:V->Rat->Prop) (m p l b q0:Addr) (us ws vs:List V):Prop where
 bag:ji H b
 inn:Inner H b q0
 gm:H m=some (.lst us)
 gp:H p=some (.lst ws)
 gl:H l=some (.lst vs)
 lm:us.9=n
 row:∀x∈us++vs++ws,iU K A H n (C x) x
 nd:(us++vs++ws).Nodup
section
variable {K:FG9}
theorem lH.same (h:lH K A H n C m p l b q0 us ws vs) (e:aH H H'):lH K A H' n C m p l b q0 us ws vs :=
 #[h.bag.same e,(e.upto (p:=b)).2 _ h.inn,e _ _ h.gm,e _ _ h.gp,e _ _ h.gl,h.lm,λx hx=>(h.row x hx).same e,h.nd]
theorem lH.upto (h:lH K A H n C m p l b q0 us ws vs) (M:J9 A m p l b q0) (u:cY b H H') (B':ji H' b):lH K A H' n C m p l b q0 us ws vs :=
 #[B',u.2 _ h.inn,u.other M.mb h.gm,u.other M.pb h.gp,u.other M.lb h.gl,h.lm,λx hx=>(h.row x hx).upto u h.bag M.ab,h.nd]
theorem lH.weak (h:lH K A H n C m p l b q0 us ws vs) (w:∀x∈us++vs++ws,∀y,C x y->C' x y):lH K A H n C' m p l b q0 us ws vs :=
 #[h.bag,h.inn,h.gm,h.gp,h.gl,h.lm,λx hx=>(h.row x hx).weak (λ_ z=>z) (w x hx),h.nd]
theorem lH.put (h:lH K A H n C m p l b q0 us ws vs) (M:J9 A m p l b q0) (aq:A q) (hq:H q=some (.lst zs)) (hv:bO K H y v) (hc:C (.ref q) y) (j:Nat):lH K A (upd H q (.lst (zs.set j v))) n C m p l b q0 us ws vs:=by
 have ne:∀{z},¬A z->z≠q:=λh e=>h (by rw[e];exact aq)
 refine #[h.bag.upd h.inn (ne M.ab).symm (ne M.aq).symm,h.inn.upd (ne M.ab).symm,by rw[bG (ne M.am)];exact h.gm,by rw[bG (ne M.ap)];exact h.gp,by rw[bG (ne M.al)];exact h.gl,h.lm,λx hx=>?_,h.nd];by_cases e:x=.ref q
 ·subst e;exact (h.row _ hx).put hq hv hc j
 ·obtain q1|qs|rfl|a1|r1|l1|c1:=h.row x hx;exact #[q1,qs,rfl,a1,r1.updL hq (λz=>e (by rw[z])),l1,c1]
theorem lH.set (h:lH K A H n C m p l b q0 us ws vs) (M:J9 A m p l b q0) (hx:iU K A H n (C v) v) (hn:v∉us++vs++ws) (j:Nat):lH K A (upd H m (.lst (us.set j v))) n C m p l b q0 (us.set j v) ws vs:=by
 have mem:∀x∈us.set j v++vs++ws,x=v\/x∈us++vs++ws:=λx hx=>by
  rcases av.mp hx with hx | hx
  ·rcases av.mp hx with hx | hx
   ·rcases cx hx with hx | hx
    ·exact .inr (by simp [hx])
    ·exact .inl hx
   ·exact .inr (by simp [hx])
  ·exact .inr (by simp [hx])
 refine #[h.bag.upd h.inn M.mb M.mq,h.inn.upd M.mb,aK,by rw[bG M.mp.symm];exact h.gp,by rw[bG M.ml.symm];exact h.gl,by rw[eH];exact h.lm,λx hx'=>?_,?_]
 ·rcases mem x hx' with rfl | hx'
  ·exact hx.other h.gm M.am
  ·exact (h.row x hx').other h.gm M.am
 ·have nd:=h.nd;rw[cz] at nd hn ⊢;obtain n1|n2|n3:=gQ.mp nd;refine gQ.mpr #[?_,n2,λa ha c hc=>?_]
  ·rcases bZ j us.9 with z | z
   ·exact CV n1 (λz'=>hn (av.mpr (.inl z'))) j
   ·rw[List.set_eq_of_length_le z];exact n1
  ·rcases cx ha with ha | rfl
   ·exact n3 a ha c hc
   ·exact λz=>hn (av.mpr (.inr (by rw[z];exact hc)))
end
theorem KZ (h0:0 < M) (h1:M<=2^800) (hW:W<=2^140) (h:Fr M W x):i5 x :=
 JG h0 (af h1 (ak () ())) (af hW (ak () ())) h
theorem Qs {t V c:Nat} (ht:t<=3) (hV:V<=2^20) (hc:c<=9):c*(9^t*V)<=2^140:=by
 have h1:9^t<=9^3:=ak () ht;have h2:c*(9^t*V)<=9*(9^3*2^20):=aw hc (aw h1 hV);exact af h2 (af (show 9*(9^3*2^20)<=2^40 by decide) (ak () ()))
theorem Au {α:Type} {l:List α} {v:α} (h:l.Nodup) (hn:v∉l):(l++[v]).Nodup:=gQ.mpr #[h,by simp,λa ha c hc=>by rw[bh.mp hc];exact λz=>hn (by rw[<- z];exact ha)]
section
variable {g:TG}
theorem C9 (G:Hp->β->V->Prop) (C:β->Prop) (hB:ji H b) (hl:n<=1000) (hG:∀{H' H'' c x},G H' c x->cY b H' H''->ji H' b->G H'' c x)
  (hA:∀{H' c x},G H' c x->∃q,x=V.ref q/\H' q≠none)
  (hs:∀(i:Nat) H' NY NN,i < n->cY b H H'->ji H' b->(∀y c H2,cY b H' H2->ji H2 b->C c->G H2 c y->(∃q,y=V.ref q/\H' q=none)->NY y H2)->rH σ₀ g tf te (.int i) H' NY NN)
  (hd:∀ys cs H' p,H p=none->cY b H H'->ji H' b->H' p=some (.lst ys)->cs.9=n->ys.Nodup->(∀c∈cs,C c)->Paired (G H') cs ys->(∃H2,H2 p=none/\Paired (G H2) cs ys)->Q (.ref p) H'):rO (IM 0 n) σ₀ g tf te Q H:=by
 refine rC (λi ys H'=>cY b H H'/\ji H' b/\∃cs,cs.9=i/\ys.Nodup/\(∀c∈cs,C c)/\Paired (G H') cs ys) mR #[(aH.refl _).upto,hB,[],rfl,Sv,(λ_ z=>nomatch z),.nil] ?_ ?_
 ·rintro i ys H' hi hlen ⟨u,B,cs,lc,nd,hc,pr⟩;rw[yZ];refine hs i H' _ _ hi u B λy c H2 u2 B2 cc gy #[q,ey,nq]=>#[u.trans u2,B2,cs++[c],by simp [lc],Au nd (λz=>by obtain c'|_|gc:=dN pr z;obtain q'|e'|h':=hA gc;rw[ey] at e';cases e';exact h' nq),E7 hc cc,bM (Paired.imp' (λ_ _ z=>hG z u2 B) pr) (.cons gy .nil)]
 ·rintro ys H' hy ⟨u,B,cs,lc,nd,hc,pr⟩ p hp;have s:aH H' (upd H' p (.lst ys)):=aH.new hp;exact hd ys cs _ p (u.none B hp) (u.same s) (B.same s) aK lc nd hc (Paired.imp' (λ_ _ z=>hG z s.upto B) pr) #[H',hp,pr]
end
structure J7 (K:FG9) (A:Addr->Prop) (n:Nat) (C:Rat->Prop) (m p l b q0:Addr) (us ws vs:List V) (H0 H:Hp):Prop where
 mix:lH K A H n (λ_=>C) m p l b q0 us ws vs
 gp:H p=some (.lst ws)
 gl:H l=some (.lst vs)
 kp:jT A b m H0 H
section
variable {K:FG9}
theorem J7.same (h:J7 K A n C m p l b q0 us ws vs H0 H) (e:aH H H'):J7 K A n C m p l b q0 us ws vs H0 H':=#[h.mix.same e,e _ _ h.gp,e _ _ h.gl,h.kp.same e]
theorem J7.upto (h:J7 K A n C m p l b q0 us ws vs H0 H) (M:J9 A m p l b q0) (u:cY b H H') (B:ji H' b):J7 K A n C m p l b q0 us ws vs H0 H':=#[h.mix.upto M u B,u.other M.pb h.gp,u.other M.lb h.gl,h.kp.upto u]
theorem J7.row (h:J7 K A n C m p l b q0 us ws vs H0 H) (hx:x∈ws\/x∈vs):iU K A H n C x:=h.mix.row x (by rcases hx with hx | hx <;> simp [hx])
theorem J7.put (h:J7 K A n C m p l b q0 us ws vs H0 H) (M:J9 A m p l b q0) (hx:V.ref q∈ws\/V.ref q∈vs) (hv:bO K H y v) (hc:C y) (j:Nat):∃zs,H q=some (.lst zs)/\zs.9=n/\J7 K A n C m p l b q0 us ws vs H0 (upd H q (.lst (zs.set j v))):=by
 obtain q'|zs|qs|e|a|g|lz|_:=(h.row hx).at;cases e;have ne:∀{z},¬A z->z≠q:=λh e=>h (by rw[e];exact a)
 exact #[zs,g,lz,h.mix.put M a g hv hc j,by rw[bG (ne M.ap)];exact h.gp,by rw[bG (ne M.al)];exact h.gl,h.kp.upd (.inl a)]
end
inductive FU (K:FG9) (vs:List V) (H:Hp) (Q:VK) (E9:XK):Prop
 | mk (b:Addr) (n w:Nat) (way first:Int):vs=[.ref b,.int n,.int way,.int first,.int w]->ji H b->n<=8->1<=w->w<=1000000->(∀r us H',H r=none->H' r=some (.lst us)->us.9=n->us.Nodup->(∀x∈us,iU K (λq=>H q=none/\q≠r) H' n (Dr (max w 6)) x)->ji H' b->cY b H H'->Q (.ref r) H')->FU K vs H Q E9
def PtF (n i o w c:Nat) (mv pt lk:LR9):Prop:=∃M V1:Nat,0 < M/\GF M V1 mv/\GF M V1 pt/\GF M V1 lk/\((w<=9/\M=2520/\V1=9^3*9)\/(9 < w/\M<=2^(c*((n+i+o)*n))/\V1=9^3*2^c))
inductive FV (K:FG9) (vs:List V) (H:Hp) (Q:VK) (E9:XK):Prop
 | mk (b:Addr) (n:Nat):vs=[.ref b,.int n]->ji H b->1<=n->n<=8->(∀r mv pt lk H',fz K H H' r mv pt lk->mv.9=n->pt.9=1->lk.9=1->eU mv pt lk->GF 1 1 mv->GF 1 1 pt->GF 1 1 lk->ji H' b->cY b H H'->Q (.ref r) H')->FV K vs H Q E9
theorem Es (M0:0 < M) (hM:M<=2^a) (hn:mv.9<=n0) (hV:(n0+1)*V1<=2^c) (fm:GF M V1 mv) (fp:GF M V1 pt) (h4:a<=400/\c<=40/\n0*(n0*(a+c)+4)<=1740/\n0*(n0*(n0*(a+c)+4)+a+c+4)<=8900000):uO mv pt a c:=by
 obtain h1|h2|h3|h5:=h4;have e1:mv.9*(a+c)<=n0*(a+c):=ay _ hn;have e2:mv.9*(mv.9*(a+c)+4)<=n0*(n0*(a+c)+4):=aw hn ();have e3:mv.9*(mv.9*(mv.9*(a+c)+4)+a+c+4)<=n0*(n0*(n0*(a+c)+4)+a+c+4):=aw hn ();exact #[M,V1,M0,hM,af (ay _ ()) hV,fm,fp,h1,h2,(),()]
theorem EE {rs:List Nat} {v v':Nat->jJ}:∀{k:Nat} (pre:List jJ),(∀j,j < k->∀r∈rs,v j r=v' j r)->jY rs (pre++jI v k)=jY rs (pre++jI v' k)
 | 0,_,_=>rfl
 | k+1,pre,h=>by
  show jY rs (pre++v k :: jI v k)=jY rs (pre++v' k :: jI v' k)
  rw[OC (h k ())];have:=EE (k:=k) (pre++[v' k]) λj hj=>h j ()
  simpa using this
theorem cw_map {τ:jJ->jJ} {v:Nat->jJ}:∀{k:Nat},(jI v k).map τ=jI (λj=>τ (v j)) k
 | 0=>rfl
 | k+1=>by show τ (v k) :: _=_;rw[cw_map];rfl
theorem OB {N:Nat} {W:Nat->Nat}:∀{rs:List Nat} {vs:List jJ},vs.9<=N->(∀v∈vs,∀r∈rs,Fr 1 (W r) (v r))->Fr 1 ((rs.map λr=>N*W r).foldr (λx y=>x*y) 1) (jY rs vs)
 | [],[],_,_=>by show Fr 1 1 1;exact (Fr.int (i:=1) ())
 | [],_ :: _,_,_=>by show Fr 1 _ 0;exact Fr.zero
 | r :: rs,vs,hl,h=>by
  have:=NZ (F:=λws=>jY rs ws) (r:=r) (B:=(rs.map λr=>N*W r).foldr (λx y=>x*y) 1) (W:=W r) (post:=vs) (pre:=[]) (s:=1) (λws h1 h2=>OB (by rw[cV] at h2;lia) λv hv r' hr'=>h v (by simpa using h1 v hv) r' (.tail _ hr')) (λw hw=>h w hw r (.head _)) (Fr.int (i:=1) ());refine this.mono ?_;show _<=N*W r*_
  rw[cD N];exact ay _ hl
section
variable {rows fs ls:LR9} {n r M W Wv Wb k P:Nat} {Pm Y Z B E a:Nat->Nat->Rat} {d:Rat} {ps:List Nat} {rs:LR9}
def V8 (rows:LR9) (n S:Nat):Prop:=2*S<=3990000/\∃J:Nat->LR9->List Nat->Prop,J 0 rows []/\(∀P rs ps,J P rs ps->(∀i,ps.9<=i->i < rs.9->bV rs i P=0)->J (P+1) rs ps) /\
 (∀P fs ls ps t,J P (fs++ls) ps->fs.9=ps.9->t < ls.9->P < n->(ls.getD t []).getD P 0≠0->J (P+1) ((fs.map (Ay P (pX P (ls.getD t [])) )++[pX P (ls.getD t [])])++(ls.eraseIdx t).map (Ay P (pX P (ls.getD t [])))) (ps++[P])) /\
 (∀P rs ps,J P rs ps->A5 rows n P rs ps)/\∀P rs ps,J P rs ps->P<=n->∀i,i < rows.9->∃D:Nat,0 < D/\D<=2^S/\∀c,Tp D (2^S) (bV rs i c)
theorem Rn.lws {w a:Nat} (F:Rn rows n w a) (hw:∀xs∈rows,xs.9=n):V8 rows n (min rows.9 n*(w+4)+a):=by
 obtain _|_|_|_|_|_|_|_|e:=id F;refine #[e,A5 rows n,A5.start hw,λ_ _ _ h z=>h.skip z,λ_ _ _ _ _ h hf ht hP hne=>h.lean hf ht hP hne,λ_ _ _ h=>h,λP rs ps h hP i hi=>?_];obtain D|D0|D1|D2:=h.sz F hP hi;exact #[D,D0,D1,λc=>(D2 c).mono (ak () ())]
end
section
variable {rows R R1 R2 mv pt:LR9} {n r M V1 W W' Wv Wb k P:Nat} {Pm Y Z B E a:Nat->Nat->Rat} {d:Rat} {ps ps1 ps2:List Nat} {rs:LR9}
theorem SD (h0:0 < M) (h3:∀xs∈rows,∀x∈xs,Tp M W x):∀i,i < rows.9->∀c,Fr 1 W (fv (rows.map js) i c):=λi hi c=>by
 have hx:=getD_in (e:=[]) hi;rw[za hi];unfold bV;generalize rows.getD i []=xs at hx ⊢;by_cases hc:c < xs.9
 ·have t:=h3 xs hx _ (getD_in (e:=0) hc);obtain s|e|b:=ve t h0 (p7 (xs:=xs)) (p9 (aA.mpr #[_,getD_in (e:=0) hc,rfl])) (yR h0 (h3 xs hx));rw[di,e];exact Fr.int b
 ·rw[aa,aP ()];show Fr 1 W (_*0)
  rw[eC];exact Fr.zero
theorem Ot {V:Nat} {f:Nat->Rat}:∀{k:Nat},(∀j,j < k->Fr 1 V (f j))->Fr 1 (k*V) (bF k f)
 | 0,_=>Fr.zero
 | k+1,h=>by
  rw[dm];exact (Ot λj hj=>h j ()).add (h k ())
theorem xl {f:Nat->Rat} {a:Nat}:∀{b:Nat},bF (a+b) f=bF a f+bF b λt=>f (a+t)
 | 0=>by show bF a f=bF a f+0;grind
 | b+1=>by
  show bF (a+b) f+f (a+b)=_+(bF b _+f (a+b))
  rw[xl];grind
end
theorem K2 (h:∀i,i < rows.9->∀c,Tp M W (bV rows i c)):∀xs∈rows,∀x∈xs,Tp M W x:=λxs hx x hx'=>by
 obtain i|hi|rfl:=aX hx;obtain c|hc|rfl:=aX hx';have:=h i hi c;unfold bV at this;rw[aa (l:=rows),ae hi] at this;have e:(some rows[i]).getD []=rows[i]:=rfl;rw[e,aa,ae hc] at this;exact this
inductive zE (K:FG9) (vs:List V) (H:Hp) (Q:VK) (E9:XK):Prop
 | mk (p:Addr) (n S:Nat) (H0:Hp) (rows:LR9):vs=[.ref p,.int n]->bu K H0 H p rows->rows.9<=100->n<=100->(∀xs∈rows,xs.9=n)->V8 rows n S->(∀r R ps H',H r=none->aH H H'->bu K H H' r R->bS rows n R ps->ps.9<=rows.9->Q (.ref r) H')->zE K vs H Q E9
theorem Nh:typeLookup (.type "list_reverseiterator") "__len__"=pure none:=by
 rw[typeLookup_type,builtinLookup_eq_fast]
 kernel_rfl
theorem PJ:typeLookup (.type "list_reverseiterator") "__length_hint__"=pure (some (.builtin "list_reverseiterator.__length_hint__")):=by
 rw[typeLookup_type,builtinLookup_eq_fast]
 kernel_rfl
theorem PD (hit:s.heap.IsRevIter it l i) (q:Q false s):wpAny (model prog w) A (Builtin.List.listLengthHint (.ref it)) Q E s:=by
 unfold Builtin.List.listLengthHint;refine wpAny_bind (wpAny_specialOf hit.typeIs Nh ?_);show wpAny _ A (specialOf (Value.ref it) (Str.ofString "__length_hint__") >>= _) Q E s
 refine wpAny_bind (wpAny_specialOf hit.typeIs PJ ?_);generalize hid:("list_reverseiterator.__length_hint__":String)=id0
 dsimp only
 rw[show splitId id0=some ("list_reverseiterator","__length_hint__") from by subst hid;decide +kernel];subst hid;refine wpAny_bind (wpAny_isInstance (T:="list_reverseiterator") (b:=true) hit.typeIs (by rw[isSubtype_type];kernel_rfl) ?_);refine wpAny_ite_split (λz=>absurd z ()) (λ_=>?_);refine wpAny_ite_split (λ_=>?_) (λz=>absurd (by decide +kernel) z);exact wpAny_ite_split (λz=>absurd z (by decide +kernel)) (λ_=>wpAny_pure q)
theorem PK (hh:A.handled=none) (hit:s.heap.IsRevIter I l ((items.7:Int) - 1)) (hl:s.heap.IsList l items) (nI:l≠I) (nS:S≠I) (nL:S≠l) (hn:items.7<=sizeLine) (hS:s.heap.get? S=some { cls:=.type "list",data:=.seq [].toArray c0 })
  (hR:∀h' tk acc c,(∀b o,b≠S->b≠I->s.heap.get? b=some o->h'.get? b=some o)->h'.get? S=some { cls:=.type "list",data:=.seq acc c }->ItemsOf (λi v=>items[items.7 - 1 - i]?=some v) acc items.7->R (.ok (.ret res)) { s with heap:=h',toks:=tk }) :
  wpAny (model prog w) A.in1 (Builtin.List.listExtendWith (.ref S) (.ref I) res) (λfin s2=>match fin with | .done f=>R (.ok f) s2 | .again c=>c.quiet=true/\codeAny (model prog w) A c R s2) (λe s2=>R (.error e) s2) s:=by
 have W:=(Walks.listRev (prog:=prog) (w:=w) (A:=A.in1) hh I l nI items).toS;unfold Builtin.List.listExtendWith;refine wpAny_bind (wpAny_typeOf hit.typeIs ?_);rw[if_neg (by simp [Builtin.List.listSameRef,nS])];refine wpAny_bind (wpAny_pyIter_revIter hit ?_);refine wpAny_bind (wpAny_holding (PD hit ?_));refine wpAny_ite_split (λz=>absurd z (by decide +kernel)) (λ_=>?_);have h0:s.heap.IsRevIter I l ((items.7:Int) - 1 - ((0:Nat):Int)):=by simpa using hit
 refine wpAny_pure #[plainId_quiet F.plain_extend_loop _,codeAny_extend_loopS W hn S (by simp [nS,nL]) res items.size 0 s [].toArray c0 rfl (aW _) #[aW _,h0,hl] hS (ItemsOf.nil _) λs2 acc c hm h2 hi=>?_];rw[Moved.eq_with hm];exact hR s2.heap s2.toks acc c (λb o n1 n2 e=>hm.heap b o (by simp [n1,n2]) e) h2 hi
theorem PH (hh:A.handled=none) (hit:s.heap.IsRevIter I l ((items.7:Int) - 1)) (hl:s.heap.IsList l items) (nI:l≠I) (hn:items.7<=sizeLine)
  (hQ:∀h' tk acc c,(∀b o,b≠I->s.heap.get? b=some o->h'.get? b=some o)->h'.get? s.6=some { cls:=.type "list",data:=.seq acc c }->ItemsOf (λi v=>items[items.7 - 1 - i]?=some v) acc items.7->Q (.ref s.6) { s with heap:=h',toks:=tk }) :
  wpAny (model prog w) A (call (.type "list") [.ref I]) Q E s:=by
 refine callType_codes (Q₁:=λx s2=>x=.ref s.6/\s2={ s with heap:=s.heap.push { cls:=.type "list",data:=.seq [].toArray } }) F.called_list (F.typeCall_list_1 _) F.entry_list_init (code_list_new _ ⟨rfl,rfl⟩) λx s2 hx=>?_
 obtain rfl|rfl:=hx;have up:∀b o,s.heap.get? b=some o->(s.heap.push { cls:=.type "list",data:=.seq [].toArray }).get? b=some o:=λb o e=>Heap.get?_push_of_some _ e
 have hS:(s.heap.push { cls:=.type "list",data:=.seq [].toArray }).get? s.6=some { cls:=.type "list",data:=.seq [].toArray }:=Heap.get?_push_size _ rfl
 have lI:I≠s.6:=by
  obtain o|ho|_:=hit;exact cg (Heap.lt_size ho)
 have lL:l≠s.6:=by
  obtain o|ho|_:=hl;exact cg (Heap.lt_size ho)
 refine #[#[_,hS,rfl],F.args_list_init_2 _ _,?_];show wpAny _ A.in1.in1 (do let old <- Builtin.List.listItems (.ref s.6);Builtin.List.listUpdate (.ref s.6) (λ_=>[].toArray);letGo old.toList.reverse;Builtin.List.listExtendWith (.ref s.6) (.ref I) .none) _ _ _
 refine wpAny_bind ?_;unfold Builtin.List.listItems;refine wpAny_bind (wpAny_seqItems hS rfl (wpAny_pure ?_));refine wpAny_bind (m:=Builtin.List.listUpdate (.ref s.6) (λ_=>[].toArray)) (wpAny_updateSeq hS rfl ?_);have h3:=Heap.get?_update_self (Obj.mapSeq (λ_=>([].toArray:Array Value))) hS rfl;have o3:∀b o,b≠s.6->(s.heap.push { cls:=.type "list",data:=.seq [].toArray }).get? b=some o->((s.heap.push { cls:=.type "list",data:=.seq [].toArray }).update s.heap.objs.size (Obj.mapSeq (λ_=>([].toArray:Array Value)))).get? b=some o:=λb o nb e=>(Heap.get?_update_other _ _ (Ne.symm nb)).trans e
 refine wpAny_bind (wpAny_letGo ?_);refine PK (A:=A.in1) hh (hit.at λo e=>o3 _ _ lI (up _ _ e)) (hl.at λo e=>o3 _ _ lL (up _ _ e)) nI lI.symm lL.symm hn h3 λh' tk acc c hk h2 hi=>?_
 exact #[rfl,hQ h' tk acc c (λb o nb e=>hk b o (cg (Heap.lt_size e)) nb (o3 _ _ (cg (Heap.lt_size e)) (up _ _ e))) h2 hi]
section
variable {X:Cx}
def MU (K:FG9) (ta:TA):TE:=λσ H Q=>ta σ H λvs H1=>∃l xs,vs=[.ref l]/\bC K H1 l xs/\xs.9<=1000/\∀L H',aH H1 H'->H1 L=none->H' L=some (.lst xs.reverse)->Q (.ref L) H'
theorem FG:∀{xs:List V} {us:List Value},cS xs us->cS xs.reverse us.reverse
 | _,_,.nil=>.nil
 | _,_,.cons h r=>by
  rw[Li,Li];exact cS.append (FG r) (.cons h .nil)
theorem Jm (K:FG9) {e1:Expr} {ta:TA} {p p2 pos pos2:Pos} (hg:Gl X "list") (hm:X.mg "list"=none) (hg2:Gl X "reversed") (hm2:X.mg "reversed"=none) (ha:PA X [e1] ta) (hK:X.K=K:=by rfl) (hc:X.calm=true:=by rfl)
  (hs:starEach [e1] X.env=[(false,eval e1 X.env)]:=by rfl)
  (hs3:starEach [Expr.Call (.Name "reversed" p2) [e1] [] pos2] X.env=[(false,eval (.Call (.Name "reversed" p2) [e1] [] pos2) X.env)]:=by rfl) :
  PE X (.Call (.Name "list" p) [.Call (.Name "reversed" p2) [e1] [] pos2] [] pos) (MU K ta):=by
 subst hK;intro pins s σ H Q I h;refine wpAny_Call_Name_kw (k9 I hg hm boot_list ?_);refine PyProof.Rows.callWith_type1 ?_ (by rw[hs3];rfl) rfl;rw[hs3];show wpAny _ _ (spliced ((false,eval (.Call (.Name "reversed" p2) [e1] [] pos2) X.env) :: [])) _ _ s
 refine Calls.spliced_cons ?_;refine Call_ (k9 I hg2 hm2 boot_reversed (PyProof.Rows.callWith_type1 (iI (ha pos2 pins s σ H _ I h) λus s1 #[vs,H1,I1,r1,q1]=>?_) hs rfl));obtain l|xs|e|hl|hn|q:=q1;subst e;obtain u|rfl|ru:=vals1 r1;cases ru;obtain its|rv|pl|hz:=I1.list hl;have hlen:=rv.9;have pI:=pl.isList;refine call_reversed_list pI ?_;refine Calls.spliced_nil ?_;have kp:∀b o,s1.heap.get? b=some o->(s1.heap.push (revObj l ((its.5.7:Int) - 1))).get? b=some o:=λb o e=>Heap.get?_push_of_some _ e
 have nI:l≠s1.6:=by
  obtain o|ho|_:=pI;exact cg (Heap.lt_size ho)
 refine PH (I.ok.hd hc) (I:=s1.6) (l:=l) (items:=its.5) #[_,Heap.get?_push_size _ rfl,rfl,rfl] (pI.at λo e=>kp _ _ e) nI (by rw[aG];lia) λh' tk acc c hk hS hacc=>?_
 have sz:s1.6<=(s1.heap.push (revObj l ((its.5.7:Int) - 1))).objs.size:=by rw[Heap.size_push];exact oI _
 have nS:=I1.hok.fresh sz
 have ea:acc.toList=its.reverse:=by
  apply jk;intro j;rcases bZ j its.9 with z | z
  ·have hj:j < acc.toList.9:=by rw[Array.length_toList,hacc.1,aG];exact z
   have:=hacc.2 j acc.toList[j] (by rw[<- Array.getElem?_toList];exact ae hj);rw[ae hj,Bm z];simpa using this.symm
  ·rw[aP (by rw[Array.length_toList,hacc.1,aG];exact z),aP (by rw[bT];exact z)]
 have vs':cS xs.reverse acc.toList:=by rw[ea];exact FG rv
 have sl:xs.reverse.9<=sizeLine:=by rw[bT];exact hz
 refine #[.ref _,_,I1.laid (o:=.lst xs.reverse) (λb o e=>hk b o (cg (Heap.lt_size e)) (kp b o e)) sz ?_,rfl,q _ _ (aH.new nS) nS aK];exact #[sl,acc.toList,c,vs',by simpa using hS]
end
theorem GK {F G:List jJ->Rat} {r:Nat} {g:Nat->Rat} {c:Rat} (hF:∀ws:List jJ,F (ws.map λv i=>g i*v i)=c*G ws):∀(post pre:List jJ) (s:Rat),Bj F r (pre.map λv i=>g i*v i) (post.map λv i=>g i*v i) s=g r*c*Bj G r pre post s
 | [],_,_=>by show (0:Rat)=_*0;grind
 | v :: post,pre,s=>by
  have i1:=hF (pre++post);have i2:=GK (r:=r) hF post (pre++[v]) (-s);simp only[cO,jm,List.map_nil,Bj] at i1 i2 ⊢;rw[i1,i2];grind
theorem wO {g:Nat->Rat}:∀(rs:List Nat) (vs:List jJ),jY rs (vs.map λv i=>g i*v i)=(rs.map g).foldr (λx y=>x*y) 1*jY rs vs
 | [],[]=>by show (1:Rat)=1*1;grind
 | [],_ :: _=>by show (0:Rat)=1*0;grind
 | r :: rs,vs=>by
  have:=GK (r:=r) (F:=λws=>jY rs ws) (G:=λws=>jY rs ws) (c:=(rs.map g).foldr (λx y=>x*y) 1) (λws=>wO rs ws) vs [] 1;exact this
theorem D5 {g:Nat->Rat}:∀{rs:List Nat},(∀r∈rs,g r≠0)->(rs.map g).foldr (λx y=>x*y) 1≠0
 | [],_=>by show (1:Rat)≠0;decide
 | r :: rs,h=>by
  show g r*_≠0
  have h1:=h r (.head _);have h2:=D5 λr' hr'=>h r' (.tail _ hr')
  intro z;rcases jc.mp z with z | z
  ·exact h1 z
  ·exact h2 z
section
variable {rows R X K0:LR9} {due L:List Rat} {n m M W D E W0 W1:Nat} {ps:List Nat}
theorem C6 (hw:∀xs∈rows,xs.9=n) (hW:1<=W) (h0:0 < M) (h3:∀xs∈rows,∀x∈xs,Tp M W x) (RR:bS rows n R ps):∃pm:Nat->Nat,(∀i j,i < ps.9->j < ps.9->pm i=pm j->i=j)/\(∀t,t < ps.9->pm t < rows.9)/\ps.9<=rows.9/\jY (mL pm ps.9) (jI (λj i=>bV rows i (ps.getD j 0)) ps.9)≠0:=by
 have ent:=SD h0 h3;obtain ls|ps2|d|I:=Ct hw hW (by rw[ag];exact ent) n (ah _);obtain _|_|⟨pm,B⟩|E:=I;rw[ag] at B E
 have RF:Fz rows.9 n (bV rows) ps2.9 (λj=>ps2.getD j 0) (λi c=>fv ls i c / d):=Fz.other (E.done λi hi c hc=>xS (n:=n) (λzs hz=>by
  obtain xs|hx|rfl:=aA.mp hz;rw[sO];exact hw xs hx) hc) Dq Ds
 obtain e1|e2|e3:=RF.uniq RR.2.2 (λ_ hi=>eY.row hi) (λ_ hi=>eY.row hi);have km:=B.km;have dt:=B.det;have d0:=B.d0
 have e4:jY (mL pm ps2.9) ([]++jI (λj r=>fv (rows.map js) r (ps2.getD j 0)) ps2.9)=jY (mL pm ps2.9) ([]++jI (λj i=>uq rows i*bV rows i (ps.getD j 0)) ps2.9):=EE [] λj hj r hr=>by
  obtain t|ht|rfl:=mZ hr;rw[za (B.rng t ()),e2 j hj];rfl
 have e5:jI (λj i=>uq rows i*bV rows i (ps.getD j 0)) ps2.9=(jI (λj i=>bV rows i (ps.getD j 0)) ps2.9).map λv i=>uq rows i*v i:=(cw_map (τ:=λv i=>uq rows i*v i)).symm
 refine #[pm,λi j hi hj e=>B.inj i j () () e,λt ht=>B.rng t (),(),?_];rw[<- e1];intro z;apply d0;rw[dt];have e4:jY (mL pm ps2.9) (jI (λj r=>fv (rows.map js) r (ps2.getD j 0)) ps2.9)=jY (mL pm ps2.9) (jI (λj i=>uq rows i*bV rows i (ps.getD j 0)) ps2.9):=e4;rw[e4,e5,wO,z,eC]
theorem RS (hd:due.9=X.9) (hw:∀xs∈X,xs.9=n) (RR:bS (c8 X due) (n+1) R ps) (hn:n∉ps) (hi:i < X.9):due.getD i 0=bF ps.9 λj=>bV R j n*bV X i (ps.getD j 0):=by
 obtain j1|j2:=yr hd hw hi;have sp:=RR.2.2.span i (by rw[lU hd];exact hi);have:=RR.2.2.coef sp n;rw[<- j2,this];refine aN λj hj=>?_
 have lo:=RR.2.2.low j hj;have ne:ps.getD j 0≠n:=λz=>hn (by rw[<- z];exact getD_in hj)
 rw[j1 _ ()];exact di _ _
theorem Kv (RR:bS X (n+1) R ps) (hy:y∈iG R ps n):y=0\/∃j,j < ps.9/\y=bV R j n:=by
 obtain c|hc|rfl:=aX hy;have lc:(iG R ps n).9=n:=kj;have e:(iG R ps n)[c]=(iG R ps n).getD c 0:=by rw[aa,ae hc];rfl
 rw[e];by_cases hp:c∈ps
 ·obtain j|hj|ej:=aX hp
  right
  refine #[j,hj,?_];have ej':ps.getD j 0=c:=by rw[aa,ae hj];exact ej
  have:=Nc (R:=R) (ps:=ps) (n:=n) (j:=ps.9) (c:=c) ();unfold iG;rw[this,iQ hj λi hi ne=>if_neg λz=>?_,if_pos ej'];rcases bZ i j with y | y
  ·have:=RR.2.2.inc i j y hj
   lia
  ·have:=RR.2.2.inc j i () hi
   lia
 ·exact .inl (Pz hp)
theorem Uh (hl:vs.9<=N) (h:∀v∈vs,∀r∈rs,Fr 1 Wx (v r)):∃z:Int,jY rs vs=(z:Rat)/\z.natAbs<=(N*Wx)^rs.9:=by
 have f:=yt hl h;obtain z|ez:=oV f;rw[ez] at f;exact #[z,ez,pR f]
theorem Nl {pm w:Nat->Nat} {X Y s:Nat} (hX:1<=X) (hY:1<=Y) (h1:∀r,r≠s->w r<=X) (h2:w s<=Y):∀k,(∀i j,i < k->j < k->pm i=pm j->i=j)->((∃t,t < k/\pm t=s)->((mL pm k).map w).foldr (λx y=>x*y) 1<=X^k*Y)/\((∀t,t < k->pm t≠s)->((mL pm k).map w).foldr (λx y=>x*y) 1<=X^k)
 | 0,_=>#[λ#[t,h,_]=>absurd h (dw _),λ_=>ah _]
 | k+1,inj=>by
  obtain i1|i2:=Nl (pm:=pm) (w:=w) hX hY h1 h2 k λi j hi hj=>inj i j () ()
  have mul:((mL pm (k+1)).map w).foldr (λx y=>x*y) 1=w (pm k)*((mL pm k).map w).foldr (λx y=>x*y) 1:=rfl;refine #[λ#[t,ht,et]=>?_,λh=>?_]
  ·rw[mul];by_cases e:pm k=s
   ·have:=i2 λt' ht' z=>by
     have:=inj t' k () () (z.trans e.symm)
     lia
    rw[e]
    calc w s*_<=Y*X^k:=aw h2 this
     _=X^k*Y:=bQ _ _
     _<=X^(k+1)*Y:=ay _ (ak hX (oI _))
   ·have:=i1 #[t,by rcases bZ t k with z | z;exact z;exact absurd (by rw[show k=t by lia];exact et) e,et]
    calc w (pm k)*_<=X*(X^k*Y):=aw (h1 _ e) this
     _=X^(k+1)*Y:=by rw[ft,<- cD,bQ X]
  ·rw[mul,ft,bQ (X^k)];exact aw (h1 _ (h k ())) (i2 λt ht=>h t ())
theorem PM {X Y s:Nat} (hX:1<=X) (hY:1<=Y) (h1:∀r,r≠s->w r<=X) (h2:w s<=Y) (hk:k<=n) (inj:∀i j,i < k->j < k->pm i=pm j->i=j):((mL pm k).map w).foldr (λx y=>x*y) 1<=X^n*Y:=by
 obtain a|b:=Nl (pm:=pm) (w:=w) hX hY h1 h2 k inj;have up:X^k<=X^n:=ak hX hk;by_cases e:∃t,t < k/\pm t=s
 ·exact af (a e) (ay _ up)
 ·exact af (b λt ht z=>e #[t,ht,z]) (af up (cJ _ hY))
theorem LC (he:ps.9<=n->ps.9<=K0.9+1->ps.9<=e) (hK:∀xs∈K0,xs.9=n) (hL:L.9=n) (n15:n<=15) (D0:0 < D) (E0:0 < E) (w0:1<=W0) (tk:∀xs∈K0,∀x∈xs,Tp D W0 x) (tl:∀x∈L,Tp E W1 x) (RR:bS (c8 (K0++[L]) (List.replicate K0.9 0++[1])) (n+1) R ps) (hn:n∉ps) :
  ∃q:Nat,0 < q/\q<=(16*W0)^e*(16*(W1+E))/\∀y∈iG R ps n,Tp q ((16*W0)^e*(16*(W1+E))) y:=by
 have hw:∀xs∈K0++[L],xs.9=n:=λxs hx=>by
  rcases av.mp hx with hx | hx
  ·exact hK xs hx
  ·rw[bh.mp hx];exact hL
 have hd:(List.replicate K0.9 (0:Rat)++[1]).9=(K0++[L]).9:=by simp
 have lX:(K0++[L]).9=K0.9+1:=by simp
 have due:∀i,i < K0.9+1->(List.replicate K0.9 (0:Rat)++[1]).getD i 0=if i=K0.9 then 1 else 0:=λi hi=>by
  rw[aa];by_cases ee:i=K0.9
  ·rw[a7 (by simp;lia),if_pos ee];simp [ee]
  ·rw[bA (by simp;lia),if_neg ee,gR,if_pos ()];rfl
 have tX:∀i c,Tp (if i=K0.9 then E else D) (if i=K0.9 then W1 else W0) (bV (K0++[L]) i c):=λi c=>by
  by_cases ee:i=K0.9
  ·rw[if_pos ee,if_pos ee,ee];have:=vK (X:=K0) (Y:=[L]) (i:=0);rw[Nat.add_zero] at this;rw[this];exact jd tl c
  ·rw[if_neg ee,if_neg ee];by_cases h:i < K0.9
   ·rw[yH h];unfold bV;rw[aa (l:=K0),ae h];exact jd (tk _ (aF h)) c
   ·unfold bV;rw[aa (l:=K0++[L]),aP (by rw[lX];lia)];exact jd (by intro x z;cases z) c
 have tj:∀xs∈c8 (K0++[L]) (List.replicate K0.9 0++[1]),∀x∈xs,Tp (D*E) (W0*E+W1*D+D*E) x:=K2 λi hi c=>by
  rw[lU hd] at hi;obtain j1|j2:=yr hd hw hi;by_cases hc:c < n
  ·rw[j1 c hc];obtain z|ee|b:=tX i c;by_cases h:i=K0.9
   ·rw[if_pos h] at ee b;exact #[z*D,by rw[jb,aQ,<- ee,aI];grind,by rw[cX,bx];have:=ay D b;lia]
   ·rw[if_neg h] at ee b;exact #[z*E,by rw[jb,aQ,<- ee,aI];grind,by rw[cX,bx];have:=ay E b;lia]
  ·by_cases hc2:c=n
   ·rw[hc2,j2,due i ()]
    split
    ·exact #[(D*E:Nat),by rw[rP,aI],by rw[bx];lia]
    ·exact #[0,by rw[j9];rfl,aW _]
   ·rw[xR (Et hw) ()];exact #[0,by rw[j9];rfl,aW _]
 obtain pm|pinj|plt|kn1|dne:=C6 (Et hw) (W:=W0*E+W1*D+D*E) (by have:=aM D0 E0;lia) (aM D0 E0) tj RR;rw[lU hd,lX] at plt kn1
 have pl:∀j,j < ps.9->ps.getD j 0 < n:=λj hj=>by
  have lo:=RR.2.2.low j hj;have ne:ps.getD j 0≠n:=λz=>hn (by rw[<- z];exact getD_in hj)
  lia
 have kn:ps.9<=n:=by
  have inc:∀j,j < ps.9->j<=ps.getD j 0:=by
   intro j
   induction j with
   | zero=>intro _;exact aW _
   | succ j ih =>
    intro hj;have:=ih ();have:=RR.2.2.inc j (j+1) () hj
    lia
  rcases iH ps.9 with z | z
  ·lia
  ·have:=inc (ps.9 - 1) ();have:=pl (ps.9 - 1) ()
   lia
 obtain ⟨g,eg⟩:∃g:Nat->Rat,g=λi=>((if i=K0.9 then E else D:Nat):Rat):=#[_,rfl]
 have gne:∀i,g i≠0:=λi z=>by
  rw[eg] at z;have z:(((if i=K0.9 then E else D:Nat):Int):Rat)=0:=by rw[aI];exact z
  have:=oG z
  split at this <;> lia
 have rlt:∀r∈mL pm ps.9,r < K0.9+1:=λr hr=>by
  obtain t|ht|rfl:=mZ hr;exact plt t ht
 obtain ⟨v,ev⟩:∃v:Nat->jJ,v=λj i=>g i*bV (K0++[L]) i (ps.getD j 0):=#[_,rfl]
 obtain ⟨wt,ew⟩:∃wt:Nat->Nat,wt=λi=>if i=K0.9 then W1+E else W0:=#[_,rfl]
 have vint:∀j r,Fr 1 (wt r) (v j r):=λj r=>by
  obtain z|ee|b:=tX r (ps.getD j 0);rw[ev,eg,ew];show Fr 1 _ (_*_)
  rw[di,ee];refine (Fr.int b).mono ?_
  dsimp only
  split <;> lia
 have bnd:∀{vs:List jJ},vs.9<=16->(∀w∈vs,∀r∈mL pm ps.9,Fr 1 (wt r) (w r))->∃z:Int,jY (mL pm ps.9) vs=(z:Rat)/\z.natAbs<=(16*W0)^e*(16*(W1+E)):=λ{vs} hl h=>by
  have f:=OB hl h;obtain z|ez:=oV f;rw[ez] at f;refine #[z,ez,af (pR f) (PM (s:=K0.9) () () (λr hr=>?_) ?_ (he kn kn1) pinj)]
  ·rw[ew];dsimp only;rw[if_neg hr];exact ah _
  ·rw[ew];dsimp only;rw[if_pos rfl];exact ah _
 have den:jY (mL pm ps.9) (jI v ps.9)≠0:=by
  have e1:jY (mL pm ps.9) ([]++jI v ps.9)=jY (mL pm ps.9) ([]++jI (λj i=>g i*bV (c8 (K0++[L]) (List.replicate K0.9 0++[1])) i (ps.getD j 0)) ps.9):=EE [] λj hj r hr=>by
   have hr:=rlt r hr;obtain j1|_:=yr hd hw (i:=r) (by rw[lX];exact hr);rw[j1 _ (pl j hj),ev]
  have e2:jI (λj i=>g i*bV (c8 (K0++[L]) (List.replicate K0.9 0++[1])) i (ps.getD j 0)) ps.9=(jI (λj i=>bV (c8 (K0++[L]) (List.replicate K0.9 0++[1])) i (ps.getD j 0)) ps.9).map λv i=>g i*v i:=(cw_map (τ:=λv i=>g i*v i)).symm
  have e1:jY (mL pm ps.9) (jI v ps.9)=jY (mL pm ps.9) (jI (λj i=>g i*bV (c8 (K0++[L]) (List.replicate K0.9 0++[1])) i (ps.getD j 0)) ps.9):=e1;rw[e1,e2,wO];intro z;rcases jc.mp z with z | z
  ·exact D5 (λr _=>gne r) z
  ·exact dne z
 obtain q|eq|bq:=bnd (vs:=jI v ps.9) (by rw[cw_len];lia) λw hw r _=>by
  obtain t|_|rfl:=cw_in hw;exact vint t r
 have q0:q≠0:=λz=>den (by rw[eq,z];rfl)
 refine #[q.natAbs,(),bq,λy hy=>?_];rcases Kv RR hy with rfl | ⟨i,hi,rfl⟩
 ·exact #[0,by rw[j9];rfl,aW _]
 ·have hW:∀r∈mL pm ps.9,g r*(if r=K0.9 then 1 else 0)=bF ps.9 λj=>bV R j n*v j r:=λr hr=>by
   have hr:=rlt r hr;rw[<- due r hr,RS hd hw RR hn (i:=r) (by rw[lX];exact hr),<- cF];refine aN λj hj=>?_
   rw[ev]
   dsimp only
   grind
  have cr:=xT (v:=v) (c:=λj=>bV R j n) (W:=λr=>g r*(if r=K0.9 then 1 else 0)) hi hW
  obtain z|ez|bz:=bnd (vs:=BU v i ps.9++(λr=>g r*(if r=K0.9 then 1 else 0)) :: jI v i) (by
   have:=congrArg List.length (cw_split (v:=v) hi);rw[aj,a8,cw_len] at this;rw[aj,a8]
   lia) λw hw r _=>by
    rcases av.mp hw with hw | hw
    ·obtain s|_|rfl:=C5 hw;exact vint s r
    ·rcases aD.mp hw with rfl | hw
     ·dsimp only
      by_cases ee:r=K0.9
      ·rw[if_pos ee,rQ,eg,ew]
       dsimp only
       rw[if_pos ee,if_pos ee,<- aI];exact Fr.int (by rw[bx];lia)
      ·rw[if_neg ee,eC];exact Fr.zero
     ·obtain s|_|rfl:=cw_in hw;exact vint s r
  rw[ez,eq] at cr;have key:bV R i n*(q:Rat)=(z:Rat):=cr.symm;rcases xh q with h | h
  ·have hq:((q.natAbs:Nat):Rat)=(q:Rat):=by rw[<- aI,<- h]
   exact #[z,by rw[hq,key],bz]
  ·have hq:((q.natAbs:Nat):Rat)=-(q:Rat):=by rw[<- aI,<- cU];congr 1;lia
   exact #[-z,by rw[hq,cU,<- key];grind,by rw[pe];exact bz]
theorem NC (hK:∀xs∈K0,xs.9=n) (hL:L.9=n) (n15:n<=15) (D0:0 < D) (E0:0 < E) (w0:1<=W0) (tk:∀xs∈K0,∀x∈xs,Tp D W0 x) (tl:∀x∈L,Tp E W1 x) (RR:bS (c8 (K0++[L]) (List.replicate K0.9 0++[1])) (n+1) R ps) (hn:n∉ps) :
  ∃q:Nat,0 < q/\q<=(16*W0)^n*(16*(W1+E))/\∀y∈iG R ps n,Tp q ((16*W0)^n*(16*(W1+E))) y :=
 LC (λh _=>h) hK hL n15 D0 E0 w0 tk tl RR hn
end
def ia (mv:LR9):Nat->List Rat->List Rat
 | 0,x=>x
 | t+1,x=>rV mv (ia mv t x)
section
variable {mv pt lk pus:LR9} {st pu go:List Rat} {n t T c:Nat}
theorem jf (h:st.9=mv.9):∀t,(ia mv t st).9=mv.9
 | 0=>h
 | _+1=>D8
theorem Ey {x y:List Rat} (h:x.9=y.9) (e:∀c,c < x.9->x.getD c 0=y.getD c 0):x=y:=by
 apply fO h;intro c h1 h2;have:=e c h1;rwa [aa,aa,ae h1,ae h2] at this
theorem Vs (wm:∀xs∈mv,xs.9=mv.9) (h:st.9=mv.9) (hc:c < mv.9):(rV mv st).getD c 0=bF mv.9 λj=>bV mv c j*st.getD j 0:=by
 have e:(rV mv st).getD c 0=bJ mv[c] st:=by
  unfold rV;rw[aa,aB,ae hc];rfl
 have wc:=wm _ (aF hc);rw[e,cQ (),wc];refine aN λj _=>?_
 unfold bV;rw[aa (l:=mv),ae hc];rfl
theorem NR (D:eU mv pt lk) (h:st.9=mv.9) (hp:pu.9=pt.9) (hc:c < mv.9):(ja mv pt st pu).getD c 0=bF mv.9 (λj=>bV mv c j*st.getD j 0)+bF pt.9 λi=>pu.getD i 0*bV pt i c:=by
 have wc:=D.mw _ (aF hc)
 have e:(ja mv pt st pu).getD c 0=bJ (mv[c]++pt.map λxs=>xs.getD c 0) (st++pu):=by
  unfold ja;rw[aa,bp,ae hc,sv hc];rfl
 rw[e,uk (),cQ (),cQ (by rw[ag];lia),wc,ag];congr 1
 ·refine aN λj _=>?_
  unfold bV;rw[aa (l:=mv),ae hc];rfl
 ·refine aN λi hi=>?_
  rw[di];congr 1;unfold bV;rw[aa,aB,aa (l:=pt),ae hi];rfl
theorem gM:∀t,(kry mv pt t).9=t*pt.9
 | 0=>by rw[Nat.zero_mul];rfl
 | t+1=>by
  show (pt++(kry mv pt t).map (rV mv)).9=_
  rw[aj,ag,gM t,dm,yY]
theorem AR:∀{pus:LR9},(∀xs∈pus,xs.9=i)->pus.flatten.9=pus.9*i:=AS
theorem yL (D:eU mv pt lk) (ls:st.9=mv.9):∀k,k<=pus.9->(∀xs∈pus,xs.9=pt.9)->∀c,c < mv.9->(qi mv pt st pus k).getD c 0=(ia mv k st).getD c 0+bF (kry mv pt k).9 λi=>((pus.take k).reverse.flatten).getD i 0*bV (kry mv pt k) i c:=by
 intro k
 induction k with
 | zero =>
  intro _ _ c _;show st.getD c 0=st.getD c 0+0
  grind
 | succ k ih =>
  intro hk hp c hc;have hk':k < pus.9:=hk;have e:=ae hk';have hl:=hp _ (aF hk');have ls':=qE (pt:=pt) (pus:=pus) ls (k:=k) ()
  have lf:((pus.take k).reverse.flatten).9=(kry mv pt k).9:=by
   rw[gM,AS (i:=pt.9) λxs hx=>hp xs (bN (dZ.mp hx)),bT,bY,O9 ()]
  rw[sP e,NR D ls' hl hc]
  have er:(pus.take (k+1)).reverse.flatten=pus[k]++(pus.take k).reverse.flatten:=by
   rw[take_snoc e,List.reverse_append];simp
  have ek:kry mv pt (k+1)=pt++(kry mv pt k).map (rV mv):=rfl;rw[er,ek,aj,ag,xl]
  have p1:(bF pt.9 λi=>(pus[k]++(pus.take k).reverse.flatten).getD i 0*bV (pt++(kry mv pt k).map (rV mv)) i c)=bF pt.9 λi=>pus[k].getD i 0*bV pt i c:=aN λi hi=>by
   rw[yH hi,aa,bA (),aa]
  have p2:(bF (kry mv pt k).9 λi=>(pus[k]++(pus.take k).reverse.flatten).getD (pt.9+i) 0*bV (pt++(kry mv pt k).map (rV mv)) (pt.9+i) c)=bF mv.9 λj=>bV mv c j*bF (kry mv pt k).9 λi=>((pus.take k).reverse.flatten).getD i 0*bV (kry mv pt k) i j:=by
   have q1:∀i,i < (kry mv pt k).9->(pus[k]++(pus.take k).reverse.flatten).getD (pt.9+i) 0*bV (pt++(kry mv pt k).map (rV mv)) (pt.9+i) c=bF mv.9 λj=>bV mv c j*(((pus.take k).reverse.flatten).getD i 0*bV (kry mv pt k) i j):=λi hi=>by
    rw[vK,NI rfl D.mw (dX rfl D.pw k) hi,aa,a7 (),hl,VX,<- aa,<- cF];exact aN λj _=>by grind
   rw[aN q1,fN];exact aN λj _=>cF
  rw[p1,p2];have p3:(ia mv (k+1) st).getD c 0=bF mv.9 λj=>bV mv c j*(ia mv k st).getD j 0:=Vs D.mw (jf ls k) hc
  rw[p3]
  have p4:(bF mv.9 λj=>bV mv c j*(qi mv pt st pus k).getD j 0)=(bF mv.9 λj=>bV mv c j*(ia mv k st).getD j 0)+bF mv.9 λj=>bV mv c j*bF (kry mv pt k).9 λi=>((pus.take k).reverse.flatten).getD i 0*bV (kry mv pt k) i j:=by
   rw[<- mK];refine aN λj hj=>?_
   rw[ih () hp j hj];grind
  rw[p4];grind
end
section
variable {mv pt lk pus R:LR9} {st pu go w pr L:List Rat} {n t T c u k:Nat} {ps:List Nat}
theorem MX (D:eU mv pt lk) (ls:st.9=mv.9):qi mv pt st (List.replicate T (List.replicate pt.9 0)) T=ia mv T st:=by
 have l1:=qE (pt:=pt) (pus:=List.replicate T (List.replicate pt.9 0)) ls (k:=T) (by rw[aV];exact ah _);refine Ey (by rw[l1,jf ls]) λc hc=>?_
 rw[l1] at hc;rw[yL D ls T (by rw[aV];exact ah _) (λxs hx=>by rw[(kf.mp hx).2,aV]) c hc,cZ λi _=>?_,ke]
 have z:(((List.replicate T (List.replicate pt.9 (0:Rat))).take T).reverse.flatten).getD i 0=0:=by
  rw[aa];cases e:(((List.replicate T (List.replicate pt.9 (0:Rat))).take T).reverse.flatten)[i]? with
  | none=>rfl
  | some y =>
   have:=ar e;obtain l|hl|hy:=eI.mp this;have hl:=bN (dZ.mp hl);rw[(kf.mp hl).2] at hy;exact (kf.mp hy).2
 rw[z,j9]
def cL (mv:LR9) (T:Nat) (st go:List Rat):List Rat:=List.zipWith (λx y=>x - y) go (ia mv T st)
theorem oE (ls:st.9=mv.9) (lg:go.9=mv.9):(cL mv T st go).9=mv.9:=by
 unfold cL;rw[aZ,jf ls,lg,eF]
theorem Dt {x y:List Rat} (h:x.9=y.9) (hc:c < x.9):(List.zipWith (λx y=>x - y) x y).getD c 0=x.getD c 0 - y.getD c 0:=by
 rw[aa,bp,aa (l:=x),aa (l:=y),ae hc,ae ()];rfl
theorem KR:∀u,∃Z,kry mv pt (u+1)=kry mv pt u++Z
 | 0=>#[pt++[],rfl]
 | u+1=>by
  obtain Z|e:=KR u;refine #[Z.map (rV mv),?_];show pt++(kry mv pt (u+1)).map (rV mv)=(pt++(kry mv pt u).map (rV mv))++_
  rw[e,cO,cz]
theorem AK {u:Nat}:∀s,∃Z,kry mv pt (u+s)=kry mv pt u++Z
 | 0=>#[[],by rw[rZ];rfl]
 | s+1=>by
  obtain Z|e:=AK (u:=u) s;obtain Y|e':=KR (mv:=mv) (pt:=pt) (u+s);exact #[Z++Y,by rw[<- Nat.add_assoc,e',e,cz]]
def Ia (w:List Rat) (u k:Nat):LR9:=(List.range u).map λt=>(w.drop (t*k)).take k
theorem wV:∀{u:Nat} {w:List Rat},w.9=u*k->(Ia w u k).flatten=w
 | 0,w,h=>by
  rw[Nat.zero_mul] at h;rw[List.length_eq_zero_iff.mp h];rfl
 | u+1,w,h=>by
  have e:Ia w (u+1) k=Ia (w.take (u*k)) u k++[w.drop (u*k)]:=by
   unfold Ia;rw[Bg,cO];congr 1
   ·refine List.map_congr_left λt ht=>?_
    have ht:=o8.mp ht;have:t*k+k<=u*k:=by rw[<- dm];exact ay _ ht
    rw[List.drop_take,List.take_take,O9 ()]
   ·show [(w.drop (u*k)).take k]=_
    rw[aE (by rw[MH,h,dm];lia)]
  rw[e,fA,wV (by rw[bY,h,dm];lia)];simp
theorem VL (h:w.9=u*k):∀xs∈Ia w u k,xs.9=k:=λxs hx=>by
 obtain t|ht|rfl:=aA.mp hx;have ht:=o8.mp ht;have:t*k+k<=u*k:=by rw[<- dm];exact ay _ ht
 rw[bY,MH]
 lia
def Ae (w:List Rat) (T u k:Nat):LR9:=List.replicate (T - u) (List.replicate k 0)++(Ia w u k).reverse
theorem Qp (hu:u<=T):(Ae w T u k).9=T:=by
 unfold Ae Ia;rw[aj,aV,bT,ag,bU]
 lia
theorem RX (h:w.9=u*k):∀xs∈Ae w T u k,xs.9=k:=λxs hx=>by
 rcases av.mp hx with hx | hx
 ·rw[(kf.mp hx).2,aV]
 ·exact VL h xs (dZ.mp hx)
theorem Nq:(List.replicate T (List.replicate k (0:Rat))).flatten=List.replicate (T*k) 0:=by
 rw[List.flatten_replicate_replicate]
theorem JS (D:eU mv pt lk) (ls:st.9=mv.9) (lg:go.9=mv.9) (hu:u<=T) (hw:w.9=(kry mv pt u).9) (e:Pf (kry mv pt u) w mv.9=cL mv T st go):qi mv pt st (Ae w T u pt.9) T=go:=by
 have hw':w.9=u*pt.9:=by rw[hw,gM]
 have lp:=Qp (w:=w) (k:=pt.9) hu;have l1:=qE (pt:=pt) (pus:=Ae w T u pt.9) ls (k:=T) ();refine Ey (by rw[l1,lg]) λc hc=>?_
 rw[l1] at hc;rw[yL D ls T () (RX hw') c hc,aE ()]
 have er:(Ae w T u pt.9).reverse.flatten=w++List.replicate ((T - u)*pt.9) 0:=by
  unfold Ae;rw[List.reverse_append,lK,fA,wV hw',List.reverse_replicate,Nq]
 obtain Z|eZ:=AK (mv:=mv) (pt:=pt) (u:=u) (T - u);rw[show u+(T - u)=T by lia] at eZ;rw[er,eZ,aj,xl]
 have p1:(bF (kry mv pt u).9 λi=>(w++List.replicate ((T - u)*pt.9) 0).getD i 0*bV (kry mv pt u++Z) i c)=(cL mv T st go).getD c 0:=by
  rw[<- e,yJ hc,hw];exact aN λi hi=>by rw[yH hi,aa,bA (),aa]
 have p2:(bF Z.9 λi=>(w++List.replicate ((T - u)*pt.9) 0).getD ((kry mv pt u).9+i) 0*bV (kry mv pt u++Z) ((kry mv pt u).9+i) c)=0:=cZ λi _=>by
  have z:(w++List.replicate ((T - u)*pt.9) (0:Rat)).getD ((kry mv pt u).9+i) 0=0:=by
   rw[aa,a7 (),gR]
   split <;> rfl
  rw[z,j9]
 rw[p1,p2,ke];unfold cL;rw[Dt (by rw[lg,jf ls]) ()];grind
theorem LG (wp:∀xs∈pt,xs.9=mv.9) (RRu:bS (kry mv pt u) mv.9 R ps) (RRT:bS (kry mv pt T) mv.9 R ps') (lp:pr.9=mv.9) (h:∀xs∈kry mv pt u,bJ xs pr=0):∀xs∈kry mv pt T,bJ xs pr=0:=λxs hx=>by
 have wu:=dX (mv:=mv) rfl wp u;have wT:=dX (mv:=mv) rfl wp T;obtain i|hi|rfl:=aX hx;have s1:eY (kry mv pt u).9 (bV (kry mv pt u)) (bV (kry mv pt T) i):=eY.trans (λt ht=>RRu.2.2.back t (by rw[<- RRu.1,RRT.1];exact ht)) (RRT.2.2.span i hi);obtain v|hv:=s1
 have fn:∀{X:LR9} {i:Nat} (h:i < X.9) (c:Nat),X[i].getD c 0=bV X i c:=λ{X i} h c=>by
  unfold bV;rw[aa (l:=X),ae h];rfl
 have w1:=wT _ (aF hi);rw[cQ (),w1]
 have e1:(bF mv.9 λc=>(kry mv pt T)[i].getD c 0*pr.getD c 0)=bF (kry mv pt u).9 λt=>v t*bF mv.9 λc=>bV (kry mv pt u) t c*pr.getD c 0:=by
  have q:∀c,c < mv.9->(kry mv pt T)[i].getD c 0*pr.getD c 0=bF (kry mv pt u).9 λt=>v t*(bV (kry mv pt u) t c*pr.getD c 0):=λc _=>by
   rw[fn hi c,hv c,di,<- cF];exact aN λt _=>by grind
  rw[aN q,fN];exact aN λt _=>cF
 rw[e1];refine cZ λt ht=>?_
 have w2:=wu _ (aF ht);have:=h _ (aF ht);rw[cQ (),w2] at this
 have q:(bF mv.9 λc=>bV (kry mv pt u) t c*pr.getD c 0)=0:=by
  refine Eq.trans ?_ this;exact aN λc _=>by rw[fn ht c]
 rw[q,eC]
end
def En (l:Addr):Hp:=λq=>if q=l then some (.lst []) else none
theorem off_ne:En l l≠none:=by unfold En;rw[if_pos rfl];exact λz=>nomatch z
theorem NK (h:q≠l):En l q=none:=by unfold En;rw[if_neg h]
def IP (K:FG9) (l:Addr) (H:Hp) (R:LR9) (v:V):Prop:=∃q,v=V.ref q/\q≠l/\bu K (En l) H q R
section
variable {K:FG9} {H0 H H':Hp} {l p q:Addr} {R:LR9} {v:V} {mv pt:LR9} {u T:Nat}
theorem bu.off (h:bu K H0 H p R) (hl:H l=none):p≠l/\bu K (En l) H p R:=by
 obtain xs|g|r|n:=h;refine #[λz=>(by rw[z,hl] at g;cases g),xs,g,Paired.imp' (λ_ _ #[q,a,b,c]=>#[q,a,NK λz=>?_,c]) r,n];obtain _|gg|_:=c;rw[z,hl] at gg;cases gg
theorem IP.same (h:IP K l H R v) (s:aH H H'):IP K l H' R v:=by obtain q|a|b|c:=h;exact #[q,a,b,c.same s]
theorem IP.upd {ys zs:List V} (h:IP K l H R v) (g:H l=some (.lst ys)):IP K l (upd H l (.lst zs)) R v:=by obtain q|a|b|c:=h;exact #[q,a,b,c.updL g off_ne b]
def Bl (mv pt:LR9) (u:Nat):List (LR9):=(List.range u).map λs=>pt.map (ia mv s)
theorem yS:Bl mv pt (u+1)=Bl mv pt u++[pt.map (ia mv u)]:=by unfold Bl;rw[Bg,cO];rfl
theorem jS:∀u,(Bl mv pt u).flatten=kry mv pt u
 | 0=>rfl
 | u+1=>by
  have e:Bl mv pt (u+1)=pt :: (Bl mv pt u).map (List.map (rV mv)):=by
   unfold Bl;rw[List.range_succ_eq_map,jm,o9];congr 1
   ·exact iE pt
   ·rw[o9];refine List.map_congr_left λs _=>?_
    show pt.map (ia mv (s+1))=(pt.map (ia mv s)).map (rV mv)
    rw[o9];rfl
  rw[e,dC,<- List.map_flatten,jS u];rfl
end
inductive FR (K:FG9) (C:Addr) (vs:List V) (H:Hp) (Q:VK) (E9:XK):Prop
 | mk (x:Addr) (T:Nat) (H0:Hp) (mv pt lk:LR9):vs=[.ref x,.int T]->T<=100->mS K H0 H C x mv pt lk->eU mv pt lk->(∀r H',H r=none->aH H H'->bu K H H' r (List.replicate T (List.replicate pt.9 0))->Q (.ref r) H')->FR K C vs H Q E9
inductive FW (K:FG9) (C:Addr) (vs:List V) (H:Hp) (Q:VK) (E9:XK):Prop
 | mk (x s g:Addr) (T:Nat) (H0:Hp) (mv pt lk:LR9) (st go:List Rat):vs=[.ref x,.ref s,.ref g,.int T]->T<=99->mS K H0 H C x mv pt lk->eU mv pt lk->Ld mv pt lk->bK K H s st->st.9=mv.9->bK K H g go->go.9=mv.9->Cn mv pt st (List.replicate T (List.replicate pt.9 0))->(∀x∈go,i5 x)->(∀r H',H r=none->aH H H'->bK K H' r (cL mv T st go)->Q (.ref r) H')->FW K C vs H Q E9
structure UJ (mv pt:LR9) (L:List Rat) (D W0 E W1:Nat):Prop where
 d0:0 < D
 e0:0 < E
 w0:1<=W0
 w1:1<=W1
 tk:∀u,u<=mv.9->∀xs∈kry mv pt u,∀x∈xs,Tp D W0 x
 tl:∀x∈L,Tp E W1 x
 de:D*E<=2^4300000
 sw:∃w,W0*E+W1*D+D*E<=2^w/\w<=4300000/\(mv.9+1)*(w+4)<=8900000
theorem UJ.join (F:UJ mv pt L D W0 E W1) (hd:due.9=rows.9) (h1:∀xs∈rows,∀x∈xs,Tp (D*E) (W0*E+W1*D+D*E) x) (h2:∀x∈due,Tp (D*E) (W0*E+W1*D+D*E) x) (n8:mv.9<=8) (hm:min rows.9 n'<=mv.9+1):∃w,Dm (c8 rows due) n' w:=by
 obtain w|b1|b2|b3:=F.sw;have:=aM F.d0 F.e0;refine #[w,D*E,W0*E+W1*D+D*E,aM F.d0 F.e0,F.de,(),b1,λxs hx x hx'=>?_,b2,by rw[lU hd];lia,by rw[lU hd];exact af (ay _ hm) b3];unfold c8 at hx;obtain i|hi|rfl:=aX hx;rw[cW] at hx';rcases av.mp hx' with z | z
 ·exact h1 _ (aF _) x z
 ·rw[bh.mp z];exact h2 _ (aF _)
theorem Tp.up (h:Tp M W q) (k:Nat) (hx:W*k<=x):Tp (M*k) x q:=by
 obtain z|e|b:=h;exact #[z*k,by rw[jb,aQ,<- e,aI];grind,by rw[cX,bx];exact af (ay _ b) hx]
structure VP (mv pt:LR9) (st pu:List Rat):Prop where
 f2:∀xs∈mv,ye xs st
 part:∀kk,∀x∈nextK mv pt st pu kk,i5 x
 su:∀u∈pu,i5 u
 sp:∀row∈pt,∀y∈row,i5 y
 mul:∀u∈pu,∀row∈pt,∀y∈row,i5 (u*y)
inductive FT (K:FG9) (vs:List V) (H:Hp) (Q:VK) (E9:XK):Prop
 | mk (r s u:Addr) (H0:Hp) (mv pt lk:LR9) (st pu:List Rat):vs=[.ref r,.ref s,.ref u]->fz K H0 H r mv pt lk->eU mv pt lk->bK K H s st->bK K H u pu->st.9=mv.9->pu.9=pt.9->VP mv pt st pu->(∀t H',H t=none->aH H H'->bK K H' t (ja mv pt st pu)->Q (.ref t) H')->FT K vs H Q E9
structure Bd (mv pt:LR9) (M1 M2 V a1 a2 c:Nat):Prop where
 m1:0 < M1
 m2:0 < M2
 b1:M1<=2^a1
 b2:M2<=2^a2
 gm:GF M1 V mv
 gp:GF M2 V pt
 vc:(mv.9+4)*V<=2^c
section
variable {st pu go:List Rat} {M1 M2 V a1 a2 c N Np p t T ν:Nat}
theorem Bd.v1 (B:Bd mv pt M1 M2 V a1 a2 c):V<=2^c:=af (ck _ ()) B.vc
theorem rz (h0:0 < M) (h1:M<=2^a) (h2:W<=2^b) (hab:a+b<=3990000) (h:Fr M W x):i5 x:=by
 refine jV (Tp.of h (ah _)) h0 (af h1 (ak () ())) ?_;refine af (aw h2 h1) ?_;rw[<- ax];exact ak () ()
theorem Bd.next (B:Bd mv pt M1 M2 V a1 a2 c) (D:eU mv pt lk) (ls:st.9=mv.9) (lu:pu.9=pt.9) (N0:0 < N) (dv:M2*Np∣M1*N) (hs:∀x∈st,Fr N (2^p) x) (hu:∀x∈pu,Fr Np (2^p) x) (hN:N<=2^ν) (sz:a1+ν+c+p<=3900000) (sp2:a2+c<=3900000):VP mv pt st pu/\∀x∈ja mv pt st pu,Fr (M1*N) (2^(c+p)) x:=by
 have V1:=B.v1;have i4:=D.i4;have MN0:0 < M1*N:=aM B.m1 N0;have MN:M1*N<=2^(a1+ν):=by rw[ax];exact aw B.b1 hN
 have Np0:0 < Np:=by
  rcases iH Np with z | z
  ·rw[z,yW] at dv;have:=VW dv
   lia
  ·exact z
 have NpMN:Np<=M1*N:=af (ck _ B.m2) (iD MN0 dv)
 have one:∀u∈pu,∀row∈pt,∀y∈row,Fr (M1*N) (V*2^p) (u*y):=λu hu' row hr y hy=>by
  have:=(B.gp row hr y hy).mul (hu u hu');rw[di];exact this.dvd dv
 have part:∀kk,kk<=pt.9->∀x∈nextK mv pt st pu kk,Fr (M1*N) (2^(c+p)) x:=λkk hkk x hx=>by
  obtain j|hj|e:=aX hx;rw[kx] at hj;have e2:=Aw (mv:=mv) (pt:=pt) (st:=st) (pu:=pu) (k:=kk) hj;rw[aa,ae (by rw[kx];exact hj)] at e2;have e3:x=bJ (mv[j]++(pt.map λxs=>xs.getD j 0).take kk) (st++pu.take kk):=by rw[<- e,<- e2];rfl
  have wj:=D.mw _ (aF hj);rw[e3,uk ()];have f1:=Fr.dot (B.gm _ (aF hj)) hs;rw[wj] at f1
  have f2:Fr (M1*N) (4*(V*2^p)) (bJ ((pt.map λxs=>xs.getD j 0).take kk) (pu.take kk)):=by
   have hc:∀y∈(pt.map λxs=>xs.getD j 0).take kk,Fr M2 V y:=λy hy=>by
    obtain xs|hxs|rfl:=aA.mp (bN hy);rw[aa];cases e:xs[j]? with
    | none=>exact Fr.zero
    | some z=>exact B.gp xs hxs z (ar e)
   have:=Fr.dot (ys:=pu.take kk) hc (λy hy=>hu y (bN hy));refine (this.dvd dv).mono (ay _ ?_);rw[bY,ag]
   lia
  refine (f1.add f2).mono ?_;rw[<- O5,ax,<- cD];exact ay _ B.vc
 have szb:∀{x:Rat},Fr (M1*N) (2^(c+p)) x->i5 x:=λh=>rz MN0 MN (ah _) () h
 have all:∀kk,∀x∈nextK mv pt st pu kk,Fr (M1*N) (2^(c+p)) x:=λkk x hx=>by
  rcases bZ pt.9 kk with z | z
  ·have e:nextK mv pt st pu kk=nextK mv pt st pu pt.9:=(uD () ()).trans (uD (ah _) ()).symm;rw[e] at hx;exact part _ (ah _) x hx
  ·exact part kk z x hx
 refine #[#[λxs hx=>#[a1,c,ν,p,#[M1,V,B.m1,B.b1,V1,B.gm xs hx],#[N,2^p,N0,hN,ah _,hs],()],λkk x hx=>szb (all kk x hx),λu hu'=>?_,λrow hr y hy=>?_,λu hu' row hr y hy=>szb ((one u hu' row hr y hy).mono (by rw[ax];exact ay _ V1))],λx hx=>?_]
 ·exact rz Np0 (af NpMN MN) (ah _) () (hu u hu')
 ·exact rz B.m2 B.b2 V1 () (B.gp row hr y hy)
 ·rw[<- uD (k:=pt.9) (ah _) ()] at hx;exact all _ x hx
end
section
variable {mv pt lk pus:LR9} {st pu go:List Rat} {M1 M2 V a1 a2 c N Np p t T ν k:Nat}
def Lg (mv pt pus:LR9) (st:List Rat):Prop:=∃M1 M2 V a1 a2 c N Np p ν,Bd mv pt M1 M2 V a1 a2 c/\0 < N/\N<=2^ν/\M2*Np∣N/\(∀x∈st,Fr N (2^p) x)/\(∀xs∈pus,∀x∈xs,Fr Np (2^p) x)/\a1*(pus.9+1)+ν+c*(pus.9+1)+p<=3900000/\a2+c<=3900000
theorem gi (h:M<=2^a) (hN:N<=2^ν):M^t*N<=2^(a*t+ν):=by
 rw[ax,rR];exact aw (mW h t) hN
theorem Bd.states (B:Bd mv pt M1 M2 V a1 a2 c) (D:eU mv pt lk) (ls:st.9=mv.9) (wp:∀xs∈pus,xs.9=pt.9) (N0:0 < N) (hN:N<=2^ν) (dv:M2*Np∣N) (hs:∀x∈st,Fr N (2^p) x) (hu:∀xs∈pus,∀x∈xs,Fr Np (2^p) x) (sz:a1*(pus.9+1)+ν+c*(pus.9+1)+p<=3900000) (sp2:a2+c<=3900000):∀k,k<=pus.9->(∀x∈qi mv pt st pus k,Fr (M1^k*N) (2^(c*k+p)) x)/\∀pu,pus[k]?=some pu->VP mv pt (qi mv pt st pus k) pu:=by
 have key:∀k,k<=pus.9->(∀x∈qi mv pt st pus k,Fr (M1^k*N) (2^(c*k+p)) x)->∀pu,pus[k]?=some pu->VP mv pt (qi mv pt st pus k) pu/\∀x∈ja mv pt (qi mv pt st pus k) pu,Fr (M1*(M1^k*N)) (2^(c+(c*k+p))) x:=λk hk f pu hpu=>by
  have mp:=ar hpu;have kl:=(aJ.mp hpu).1;have e1:a1*(k+1)<=a1*(pus.9+1):=au _ ();have e2:c*(k+1)<=c*(pus.9+1):=au _ ();rw[iC,O4] at e1 e2;refine B.next D (qE ls hk) (wp pu mp) (aM (df B.m1) N0) ?_ f (λx hx=>(hu pu mp x hx).mono (ak () (Nat.le_add_left _ _))) (gi B.b1 hN) () sp2;exact d9 dv (d9 (bP _ _) (bP _ _))
 have fr:∀k,k<=pus.9->∀x∈qi mv pt st pus k,Fr (M1^k*N) (2^(c*k+p)) x:=by
  intro k
  induction k with
  | zero =>
   intro _ x hx;rw[Nat.pow_zero,rS,yW,Nat.zero_add];exact hs x hx
  | succ k ih =>
   intro hk x hx;have e:=ae (show k < pus.9 by lia);rw[sP e] at hx;have:=(key k () (ih ()) _ e).2 x hx;rw[<- cD,bQ M1,<- ft,show c+(c*k+p)=c*(k+1)+p by rw[iC];lia] at this;exact this
 exact λk hk=>#[fr k hk,λpu hpu=>(key k hk (fr k hk) pu hpu).1]
theorem Lg.nx (h:Lg mv pt pus st) (D:eU mv pt lk) (ls:st.9=mv.9) (wp:∀xs∈pus,xs.9=pt.9) (hk:k<=pus.9) (hpu:pus[k]?=some pu):VP mv pt (qi mv pt st pus k) pu:=by
 obtain M1|M2|V|a1|a2|c|N|Np|p|ν|B|N0|hN|dv|hs|hu|sz|sp2:=h;exact (B.states D ls wp N0 hN dv hs hu sz sp2 k hk).2 pu hpu
theorem Lg.szn (h:Lg mv pt pus st) (D:eU mv pt lk) (ls:st.9=mv.9) (wp:∀xs∈pus,xs.9=pt.9) (hk:k<=pus.9):∀x∈qi mv pt st pus k,i5 x:=λx hx=>by
 obtain M1|M2|V|a1|a2|c|N|Np|p|ν|B|N0|hN|dv|hs|hu|sz|sp2:=h;have e1:a1*k<=a1*(pus.9+1):=au _ ();have e2:c*k<=c*(pus.9+1):=au _ ();exact rz (aM (df B.m1) N0) (gi B.b1 hN) (ah _) () ((B.states D ls wp N0 hN dv hs hu sz sp2 k hk).1 x hx)
def UK (mv:LR9) (st:List Rat) (T:Nat):Prop:=∃M1 V a1 c N p ν,0 < M1/\M1<=2^a1/\GF M1 V mv/\(mv.9+4)*V<=2^c/\0 < N/\N<=2^ν/\(∀x∈st,Fr N (2^p) x)/\a1*(T+1)+ν+c*(T+1)+p<=3900000
theorem ND (gm:GF M1 V mv) (wm:∀xs∈mv,xs.9=mv.9) (vc:(mv.9+4)*V<=2^c) (ls:st.9=mv.9) (hs:∀x∈st,Fr N (2^p) x):∀t,∀x∈ia mv t st,Fr (M1^t*N) (2^(c*t+p)) x:=by
 intro t
 induction t with
 | zero =>
  intro x hx;rw[Nat.pow_zero,rS,yW,Nat.zero_add];exact hs x hx
 | succ t ih =>
  intro x hx;obtain row|hr|rfl:=aA.mp (show x∈mv.map λxs=>bJ xs (ia mv t st) from hx);have f:=Fr.dot (gm row hr) ih;rw[<- cD,bQ M1,<- ft] at f;refine f.mono ?_;rw[wm row hr,<- cD,show c*(t+1)+p=c+(c*t+p) by rw[iC];lia,ax 2 c];exact ay _ (af (ay V (show mv.9<=mv.9+4 by lia)) vc)
theorem UK.fit (h:UK mv st T) (wm:∀xs∈mv,xs.9=mv.9) (ls:st.9=mv.9) (ht:t<=T):(∀xs∈mv,ye xs (ia mv t st))/\∀x∈ia mv t st,i5 x:=by
 obtain M1|V|a1|c|N|p|ν|m0|m1|gm|vc|N0|hN|hs|sz:=h;have f:=ND gm wm vc ls hs t;have V1:V<=2^c:=af (ck _ ()) vc;have e1:a1*t<=a1*T:=au _ ht;have e2:c*t<=c*T:=au _ ht;rw[iC,iC,O4,O4] at sz;exact #[λxs hx=>#[a1,c,a1*t+ν,c*t+p,#[M1,V,m0,m1,V1,gm xs hx],#[M1^t*N,2^(c*t+p),aM (df m0) N0,gi m1 hN,ah _,f],()],λx hx=>rz (aM (df m0) N0) (gi m1 hN) (ah _) () (f x hx)]
def O3 (mv pt:LR9) (T:Nat):Prop:=∃M1 M2 V a1 a2 c,Bd mv pt M1 M2 V a1 a2 c/\a1*(T+1)+a2+c*(T+2)<=3900000
theorem O3.row (h:O3 mv pt T) (wm:∀xs∈mv,xs.9=mv.9) (wp:∀xs∈pt,xs.9=mv.9):∀xs∈pt,UK mv xs T:=λxs hx=>by
 obtain M1|M2|V|a1|a2|c|B|sz:=h;refine #[M1,V,a1,c,M2,c,a2,B.m1,B.b1,B.gm,B.vc,B.m2,B.b2,λx hx'=>(B.gp xs hx x hx').mono B.v1,?_];rw[iC c T 2] at sz;rw[iC c T 1]
 lia
end
inductive Kr (K:FG9) (vs:List V) (H:Hp) (Q:VK) (E9:XK):Prop
 | mk (r s p:Addr) (H0 H1:Hp) (mv pt lk pus:LR9) (st:List Rat):vs=[.ref r,.ref s,.ref p]->fz K H0 H r mv pt lk->eU mv pt lk->bK K H s st->st.9=mv.9->bu K H1 H p pus->pus.9<=100->(∀xs∈pus,xs.9=pt.9)->Lg mv pt pus st->(∀t H',H t=none->aH H H'->bK K H' t (qi mv pt st pus pus.9)->Q (.ref t) H')->Kr K vs H Q E9
inductive CK (K:FG9) (vs:List V) (H:Hp) (Q:VK) (E9:XK):Prop
 | mk (r s:Addr) (T:Nat) (H0:Hp) (mv pt lk:LR9) (st:List Rat):vs=[.ref r,.ref s,.int T]->T<=100->fz K H0 H r mv pt lk->eU mv pt lk->bK K H s st->st.9=mv.9->UK mv st T->(∀t H',H t=none->aH H H'->bK K H' t (ia mv T st)->Q (.ref t) H')->CK K vs H Q E9
inductive CL (K:FG9) (vs:List V) (H:Hp) (Q:VK) (E9:XK):Prop
 | mk (r:Addr) (T:Nat) (H0:Hp) (mv pt lk:LR9):vs=[.ref r,.int T]->T<=20->fz K H0 H r mv pt lk->eU mv pt lk->O3 mv pt T->(∀q H',H q=none->aH H H'->bu K H H' q (kry mv pt T)->Q (.ref q) H')->CL K vs H Q E9
theorem Mn (hc:X.calm=true):o5 X (.builtin "max") (λxs H Q=>∃(p:Addr) (ns:List Int),xs=[.ref p]/\bC X.K H p (ns.map V.int)/\0 < ns.9/\∀M,M∈ns->(∀a,a∈ns->a<=M)->Q (.int M) H):=by
 intro pins s σ H xs us Q I r h;obtain p|ns|rfl|hp|hne|q:=h;obtain u|rfl|ru:=vals1 r;cases ru;obtain its|r2|pl|_:=I.list hp;have hi:=intsAre_of r2;have hl:=pl.isList;obtain xs|e:=hi.allInts.items
 have hns:ns=xs.toList.map (·.1):=by
  rw[<- hi.numsOf,<- nums_intItems,<- e]
 have hsz:0 < xs.7:=by
  have h3:=hne;rw[hns,ag,Array.length_toList] at h3;exact h3
 rw[e] at hl;refine max_intList (I.ok.hd hc) hl hsz λv h' tk hv hk=>?_
 obtain t|rfl:=intItems_at hv;obtain h1|h2:=argBest_gt (numAt xs) (xs.7 - 1);refine #[.int _,H,I.kept hk,#[_,rfl],q _ ?_ λa ha=>?_]
 ·rw[hns,numAt_eq];exact getD_in (by rw[ag,Array.length_toList];lia)
 ·rw[hns] at ha;obtain j|hj|rfl:=mem_getD ha;rw[ag,Array.length_toList] at hj;rw[<- numAt_eq];exact h2 j ()
theorem CQ {α β:Type} {f:α->β}:∀{l1:List α} {l2:List β},Paired (λa b=>b=f a) l1 l2->l2=l1.map f
 | _,_,.nil=>rfl
 | _,_,.cons h r=>by rw[h,CQ r];rfl
def StP (mv pt:LR9) (T:Nat):Prop:=T<=12/\(T<=3\/((∀xs∈mv++pt,∀x∈xs,x.den<=9/\x.num.natAbs < 1000)/\(5 < mv.9->T<=mv.9)/\(3<=mv.9->mv.9<=5->T<=mv.9+1)))
def UE (x:Rat):Int:=(x.den:Int)+(x.num.natAbs:Int) / 1000*9
theorem Q4 (h:UE x<=9):x.den<=9/\x.num.natAbs < 1000:=by
 unfold UE at h;have:=x.den_pos
 lia
inductive Cy (K:FG9) (vs:List V) (H:Hp) (Q:VK) (E9:XK):Prop
 | mk (b r:Addr) (H0:Hp) (mv pt lk:LR9):vs=[.ref b,.ref r]->ji H b->H0 b≠none->fz K H0 H r mv pt lk->eU mv pt lk->(∀xs∈mv++pt,∀x∈xs,i5 x)->(∀(T:Nat) H',StP mv pt T->ji H' b->cY b H H'->Q (.int T) H')->Cy K vs H Q E9
inductive FO (K:FG9) (vs:List V) (H:Hp) (Q:VK) (E9:XK):Prop
 | mk (b r:Addr) (T w:Nat) (H0:Hp) (mv pt lk:LR9):vs=[.ref b,.ref r,.int T,.int w]->T<=100->1<=w->w<=1000->ji H b->H0 b≠none->fz K H0 H r mv pt lk->eU mv pt lk->(∀p pus H',H p=none->bu K H H' p pus->pus.9=T->(∀xs∈pus,xs.9=pt.9/\∀x∈xs,Dr (max w 6) x)->ji H' b->cY b H H'->Q (.ref p) H')->FO K vs H Q E9
section
variable {st pr go:List Rat}
theorem Lg.sznP (h:Lg mv pt pus st):∀xs∈pus,∀x∈xs,i5 x:=λxs hx x hx'=>by
 obtain M1|M2|V|a1|a2|c|N|Np|p|ν|B|N0|hN|dv|hs|hu|sz|sp2:=h
 have Np0:0 < Np:=by
  rcases iH Np with z | z
  ·rw[z,yW] at dv;have:=VW dv
   lia
  ·exact z
 have le:Np<=N:=af (ck _ B.m2) (iD N0 dv);exact rz Np0 (af le hN) (ah _) () (hu xs hx x hx')
end
inductive CG (K:FG9) (vs:List V) (H:Hp) (Q:VK) (E9:XK):Prop
 | mk (r s g p:Addr) (T:Nat) (H0 H1:Hp) (mv pt lk pus:LR9) (st go:List Rat):vs=[.ref r,.ref s,.ref g,.int T,.ref p]->T<=100->fz K H0 H r mv pt lk->eU mv pt lk->bK K H s st->st.9=mv.9->bK K H g go->bu K H1 H p pus->pus.9=T->(∀xs∈pus,xs.9=pt.9)->Lg mv pt pus st->qi mv pt st pus T=go->(∀H',aH H H'->Q (.bl true) H')->CG K vs H Q E9
structure V6 (mv pt:LR9) (T:Nat) (st go pr:List Rat):Prop where
 ad:O3 mv pt T
 al:UK mv st T
 sg:∀x∈go,i5 x
 sr:∀x∈pr,i5 x
 f1:∀xs∈kry mv pt T,ye pr xs
 f2:ye pr (cL mv T st go)
inductive zy (K:FG9) (vs:List V) (H:Hp) (Q:VK) (E9:XK):Prop
 | mk (r s g p:Addr) (T:Nat) (H0:Hp) (mv pt lk:LR9) (st go pr:List Rat):vs=[.ref r,.ref s,.ref g,.int T,.ref p]->T<=20->fz K H0 H r mv pt lk->eU mv pt lk->bK K H s st->st.9=mv.9->bK K H g go->go.9=mv.9->bK K H p pr->pr.9=mv.9->V6 mv pt T st go pr->(∀xs∈kry mv pt T,bJ xs pr=0)->bJ pr (cL mv T st go)=1->(∀H',aH H H'->Q (.bl true) H')->zy K vs H Q E9
structure CtF (mv pt:LR9) (T:Nat) (st go:List Rat) (D W0 E W1:Nat):Prop where
 cf:Cn mv pt st (List.replicate T (List.replicate pt.9 0))
 sg:∀x∈go,i5 x
 co:UJ mv pt (cL mv T st go) D W0 E W1
 en:∀(pus:LR9) (q:Nat),0 < q->q<=(16*W0)^mv.9->pus.9=T->(∀xs∈pus,∀x∈xs,Tp (E*q) (D*(mv.9*(W1*(16*W0)^mv.9))) x)->Lg mv pt pus st
def Ph (v:Nat):Rat:=#[1,v+1,Nat.succ_ne_zero v,by simp]
theorem RH (h:v < 3):Fr 6 1 (Ph v):=by
 have e:(Ph v).num.natAbs<=1:=ah _;have f:=Fr.own (Ph v) e
 have d:(Ph v).den∣6:=by
  show v+1∣6
  rcases (show v=0\/v=1\/v=2 by lia) with rfl | rfl | rfl <;> decide
 exact f.dvd d
def Wa (pt:LR9) (T w:Nat) (pus:LR9):Prop:=pus.9=T/\∀xs∈pus,xs.9=pt.9/\∀x∈xs,Dr (max w 6) x
def V9 (mv pt:LR9) (T w:Nat) (st go:List Rat):Prop:=(∀x∈go,Dr (max w 6) x)\/∃pus,Wa pt T w pus/\(go=qi mv pt st pus T\/∃a v,v < 3/\go=(qi mv pt st pus T).set a ((qi mv pt st pus T).getD a 0+Ph v))
inductive FX (K:FG9) (vs:List V) (H:Hp) (Q:VK) (E9:XK):Prop
 | mk (b r s:Addr) (T w:Nat) (H0:Hp) (mv pt lk:LR9) (st:List Rat):vs=[.ref b,.ref r,.ref s,.int T,.int w]->T<=100->1<=w->w<=1000->ji H b->H0 b≠none->fz K H0 H r mv pt lk->eU mv pt lk->bK K H s st->s≠b->st.9=mv.9->(∀pus,Wa pt T w pus->Lg mv pt pus st)->(∀g go H',H g=none->bK K H' g go->go.9=mv.9->V9 mv pt T w st go->ji H' b->cY b H H'->Q (.ref g) H')->FX K vs H Q E9
theorem NP (ws vs:List V) (M1 M2 M3:Nat):∃μ:V->Nat,(∀x∈ws,μ x=M2)/\(∀x∈vs,x∉ws->μ x=M3)/\(∀x,x∉ws->x∉vs->μ x=M1)/\∀x,μ x=M1\/μ x=M2\/μ x=M3:=by
 classical
 refine #[λx=>if x∈ws then M2 else if x∈vs then M3 else M1,λx h=>if_pos h,λx h h'=>?_,λx h h'=>?_,λx=>?_]
 ·show (if x∈ws then M2 else if x∈vs then M3 else M1)=M3
  rw[if_neg h',if_pos h]
 ·show (if x∈ws then M2 else if x∈vs then M3 else M1)=M1
  rw[if_neg h,if_neg h']
 ·show (if x∈ws then M2 else if x∈vs then M3 else M1)=M1\/(if x∈ws then M2 else if x∈vs then M3 else M1)=M2\/(if x∈ws then M2 else if x∈vs then M3 else M1)=M3
  by_cases h:x∈ws
  ·rw[if_pos h];exact .inr (.inl rfl)
  ·rw[if_neg h];by_cases h':x∈vs
   ·rw[if_pos h'];exact .inr (.inr rfl)
   ·rw[if_neg h'];exact .inl rfl
theorem lH.apart {K:FG9} (h:lH K A H n C m p l b q0 us ws vs):(∀x∈us,x∉ws/\x∉vs)/\∀x∈vs,x∉ws:=by
 obtain n1|n2|n3:=gQ.mp h.nd;obtain n4|n5|n6:=gQ.mp n1;exact #[λx hx=>#[λz=>n3 x (av.mpr (.inl hx)) x z rfl,λz=>n6 x hx x z rfl],λx hx z=>n3 x (av.mpr (.inr hx)) x z rfl]
theorem lH.fr3 {K:FG9} (h:lH K A H n (λ_=>Dr (2^c)) m p l b q0 us ws vs):∃M1 M2 M3,0 < M1/\0 < M2/\0 < M3/\M1<=2^(c*(n*n))/\M2<=2^(c*(ws.9*n))/\M3<=2^(c*(vs.9*n))/\(∀x∈us,iU K A H n (Fr M1 (2^c)) x)/\(∀x∈ws,iU K A H n (Fr M2 (2^c)) x)/\∀x∈vs,iU K A H n (Fr M3 (2^c)) x:=by
 have one:∀l:List V,(∀x∈l,x∈us++vs++ws)->∃M,0 < M/\M<=2^(c*(l.9*n))/\∀x∈l,iU K A H n (Fr M (2^c)) x:=λl hl=>by
  obtain ra|pa|la|ha:=Aa λx hx=>h.row x (hl x hx)
  obtain M|m0|m1|m2:=PL (c:=c) (n:=n) (rows:=ra) ha;exact #[M,m0,by rw[la] at m1;exact m1,Jj pa λqs hq=>#[(ha qs hq).1,m2 qs hq]]
 obtain M1|a1|a2|a3:=one us λx hx=>by simp [hx]
 obtain M2|b1|b2|b3:=one ws λx hx=>by simp [hx]
 obtain M3|c1|c2|c3:=one vs λx hx=>by simp [hx]
 rw[h.lm] at a2;exact #[M1,M2,M3,a1,b1,c1,a2,b2,c2,a3,b3,c3]
inductive CD (K:FG9) (xs:List V) (H:Hp) (Q:VK) (E9:XK):Prop
 | mk (b m p l q0:Addr) (n V1:Nat) (μ:V->Nat) (A:Addr->Prop) (us ws vs:List V):xs=[.ref b,.ref m,.ref p,.ref l]->J9 A m p l b q0->lH K A H n (λx=>Fr (μ x) V1) m p l b q0 us ws vs->n<=8->ws.9<=4->vs.9<=4->(∀x,0 < μ x)->(∀x,μ x<=2^800)->(∃M,∀x,x∉ws->x∉vs->μ x=M)->V1<=2^20->(∀q,H q=none->A q)->(∀r us' H',H' r=some (.tup [.ref m,.ref p,.ref l])->lH K A H' n (λx=>Fr (μ x) (9^3*V1)) m p l b q0 us' ws vs->jT A b m H H'->Q (.ref r) H')->CD K xs H Q E9
def Wt (n i o w c:Nat) (mv pt lk:LR9):Prop:=∃M1 M2 M3 V1:Nat,0 < M1/\0 < M2/\0 < M3/\GF M1 V1 mv/\GF M2 V1 pt/\GF M3 V1 lk/\((w<=9/\M1=2520/\M2=2520/\M3=2520/\V1=9^3*9)\/(9 < w/\M1<=2^(c*(n*n))/\M2<=2^(c*(i*n))/\M3<=2^(c*(o*n))/\V1=9^3*2^c))
inductive CA (K:FG9) (vs:List V) (H:Hp) (Q:VK) (E9:XK):Prop
 | mk (b:Addr) (n i o w c:Nat):vs=[.ref b,.int n,.int i,.int o,.int w]->ji H b->n<=8->i<=4->o<=4->1<=w->w<=1000000->max w 6<=2^c->c<=20->c*((n+i+o)*n)<=800->(∀r mv pt lk H',fz K H H' r mv pt lk->mv.9=n->pt.9=i->lk.9=o->eU mv pt lk->Wt n i o w c mv pt lk->ji H' b->cY b H H'->Q (.ref r) H')->CA K vs H Q E9
def Rg (mv pt:LR9) (w:Nat):Prop:=(w<=9/\Bd mv pt 1 1 (9^3) 0 0 14)\/(w<=9/\mv.9<=5/\Bd mv pt 2520 2520 (9^3*9) 12 12 16)\/(w=1000/\mv.9<=2/\∃M1 M2,Bd mv pt M1 M2 (9^3*2^20) 80 160 33)
def Pq (K:FG9):Sp:=λvs H Q _=>∃b:Addr,vs=[.ref b]/\ji H b /\
 ∀t r (w a c:Nat) mv pt lk H',H' t=some (.tup [.ref r,.int w])->fz K H H' r mv pt lk->eU mv pt lk->Ld mv pt lk->uO mv pt a c->Rg mv pt w->1<=w->w<=1000->ji H' b->cY b H H'->Q (.ref t) H'
theorem JC {M V:Nat} (h:GF M V l) (k:Nat):GF (k*M) V l:=λxs hx x hx'=>(h xs hx x hx').scaleL k
theorem Wt.n {n i o w c:Nat} (h:Wt n i o w c mv pt lk):PtF n i o w c mv pt lk:=by
 obtain M1|M2|M3|V1|a1|a2|a3|f1|f2|f3|hc:=h;rcases hc with ⟨w9,rfl,rfl,rfl,e⟩ | ⟨w9,e1,e2,e3,e⟩
 ·exact #[2520,V1,(),f1,f2,f3,.inl #[w9,rfl,e]]
 ·refine #[M1*M2*M3,V1,aM (aM a1 a2) a3,?_,?_,?_,.inr #[w9,?_,e]]
  ·have:=JC f1 (M2*M3);rwa [show M2*M3*M1=M1*M2*M3 by rw[bQ (M2*M3),cD]] at this
  ·have:=JC f2 (M1*M3);rwa [show M1*M3*M2=M1*M2*M3 by rw[cD,bQ M3,cD]] at this
  ·exact JC f3 (M1*M2)
  ·refine af (aw (aw e1 e2) e3) ?_;rw[<- ax,<- ax,show c*((n+i+o)*n)=c*(n*n)+c*(i*n)+c*(o*n) by rw[O5,O5,iC,iC]];exact ah _
def zd (n a1 a2:Nat):Nat:=a1*(n - 1)+a2
def zw (n a1 a2 c:Nat):Nat:=zd n a1 a2+c*n
def zq (n a1 a2 c:Nat):Nat:=n*(4+zw n a1 a2 c)
def ze (a1 a2 T b:Nat):Nat:=a1*T+a2+b
def zu (a1 a2 c T b g:Nat):Nat:=ze a1 a2 T b+(c*T+g+1)
abbrev ZS (n a1 a2 c T b g:Nat):Prop:=ze a1 a2 T b<=1800000/\c*T+g<=1800000/\zw n a1 a2 c+ze a1 a2 T b+zu a1 a2 c T b g+zd n a1 a2+2<=4300000/\(n+1)*(zw n a1 a2 c+ze a1 a2 T b+zu a1 a2 c T b g+zd n a1 a2+6)<=8900000/\a1*(T+1)+(a2+ze a1 a2 T b+zq n a1 a2 c)+c*(T+1)+(zd n a1 a2+3+zu a1 a2 c T b g+zq n a1 a2 c)<=3900000/\a2+c<=3900000/\a1*(T+1)+a2+c*(T+2)<=3900000
abbrev ZP (n a1 a2 c T b g:Nat):Prop:=2*(zq n a1 a2 c+5+zu a1 a2 c T b g)+zu a1 a2 c T b g<=3930000/\2*(zq n a1 a2 c+5+zu a1 a2 c T b g)+(a1*T+a2+c*(T+1))<=3930000
theorem MO {n n' a1 a2 c T T' b b' g:Nat} (hn:n<=n') (hT:T<=T') (hb:b<=b'):zd n a1 a2<=zd n' a1 a2/\zw n a1 a2 c<=zw n' a1 a2 c/\zq n a1 a2 c<=zq n' a1 a2 c/\ze a1 a2 T b<=ze a1 a2 T' b'/\zu a1 a2 c T b g<=zu a1 a2 c T' b' g/\a1*T<=a1*T'/\c*T<=c*T'/\a1*(T+1)<=a1*(T'+1)/\c*(T+1)<=c*(T'+1)/\c*(T+2)<=c*(T'+2):=by
 have e1:a1*(n - 1)<=a1*(n' - 1):=au _ ();have e2:c*n<=c*n':=au _ hn;have e3:a1*T<=a1*T':=au _ hT;have e4:c*T<=c*T':=au _ hT;have w:zw n a1 a2 c<=zw n' a1 a2 c:=by unfold zw zd;lia
 have q:zq n a1 a2 c<=zq n' a1 a2 c:=aw hn ();refine #[by unfold zd;lia,w,q,by unfold ze;lia,by unfold zu ze;lia,e3,e4,au _ (),au _ (),au _ ()]
theorem kB {n n' a1 a2 c T T' b b' g:Nat} (hn:n<=n') (hT:T<=T') (hb:b<=b') (h:ZS n' a1 a2 c T' b' g):ZS n a1 a2 c T b g:=by
 obtain h1|h2|h3|h4|h5|h6|h7:=h;obtain m1|m2|m3|m4|m5|m6|m7|m8|m9|m10:=MO (a1:=a1) (a2:=a2) (c:=c) (g:=g) hn hT hb;refine #[(),(),(),af (aw () ()) h4,(),h6,()]
theorem vO {n n' a1 a2 c T T' b b' g:Nat} (hn:n<=n') (hT:T<=T') (hb:b<=b') (h:ZP n' a1 a2 c T' b' g):ZP n a1 a2 c T b g:=by
 obtain h1|h2:=h;obtain m1|m2|m3|m4|m5|m6|m7|m8|m9|m10:=MO (a1:=a1) (a2:=a2) (c:=c) (g:=g) hn hT hb;exact #[(),()]
section
variable {mv pt lk pus:LR9} {st pu go pr:List Rat} {M1 M2 V a1 a2 c B b g p t T w:Nat}
theorem Bd.kry (X:Bd mv pt M1 M2 V a1 a2 c) (D:eU mv pt lk):∀t,∀xs∈kry mv pt t,∀x∈xs,Fr (M1^(t - 1)*M2) (2^(c*t)) x:=by
 intro t
 induction t with
 | zero=>intro xs hx;exact nomatch hx
 | succ t ih =>
  intro xs hx x hx';rcases av.mp (show xs∈pt++(L2.kry mv pt t).map (rV mv) from hx) with hx | hx
  ·refine Fr.up (X.gp xs hx x hx') (bP _ _) (af X.v1 (ak () ?_));exact cJ _ ()
  ·obtain ys|hy|rfl:=aA.mp hx;obtain row|hr|rfl:=aA.mp (show x∈mv.map λzs=>bJ zs ys from hx');rcases t with _ | t
   ·exact nomatch hy
   have f:=Fr.dot (X.gm row hr) (ih ys hy);rw[show M1*(M1^(t+1 - 1)*M2)=M1^(t+1+1 - 1)*M2 by rw[<- cD,show t+1 - 1=t by lia,show t+1+1 - 1=t+1 by lia,ft,bQ M1]] at f;refine f.mono ?_;rw[D.mw row hr,<- cD,show c*(t+1+1)=c+c*(t+1) by rw[iC c (t+1)];lia,ax 2 c];exact ay _ (af (ay V (show mv.9<=mv.9+4 by lia)) X.vc)
theorem Bd.lack (X:Bd mv pt M1 M2 V a1 a2 c) (D:eU mv pt lk) (ls:st.9=mv.9) (hs:∀x∈st,Fr B (2^g) x) (hg:∀x∈go,Fr (M1^T*(M2*B)) (2^(c*T+g)) x):∀x∈cL mv T st go,Fr (M1^T*(M2*B)) (2^(c*T+g+1)) x:=λx hx=>by
 unfold cL at hx;obtain j|hj|e:=aX hx;rw[cW] at e;rw[<- e,show 2^(c*T+g+1)=2^(c*T+g)+2^(c*T+g) by rw[ft];lia];exact (hg _ (aF _)).sub ((ND X.gm D.mw X.vc ls hs T _ (aF _)).dvd (Nat.mul_dvd_mul_left _ (bP _ _)))
theorem Bd.end (X:Bd mv pt M1 M2 V a1 a2 c) (D:eU mv pt lk) (ls:st.9=mv.9) (lp:pus.9=T) (wp:∀xs∈pus,xs.9=pt.9) (b0:0 < B) (b1:B<=2^b) (hs:∀x∈st,Fr B (2^g) x) (hu:∀xs∈pus,∀x∈xs,Fr B (2^g) x) (Z:ZS mv.9 a1 a2 c T b g):Lg mv pt pus st/\∀k,k<=T->∀x∈qi mv pt st pus k,Fr (M1^k*(M2*B)) (2^(c*k+g)) x:=by
 obtain h1|h2|h3|h4|h5|h6|h7:=Z;have n0:0 < M2*B:=aM X.m2 b0;have hN:M2*B<=2^(a2+b):=by rw[ax];exact aw X.b2 b1
 have hs':∀x∈st,Fr (M2*B) (2^g) x:=λx hx=>(hs x hx).scaleL _
 have sz:a1*(pus.9+1)+(a2+b)+c*(pus.9+1)+g<=3900000:=by
  rw[lp];unfold zu ze at h5
  lia
 exact #[#[M1,M2,V,a1,a2,c,M2*B,B,g,a2+b,X,n0,hN,yX _,hs',hu,sz,h6],λk hk=>(X.states D ls wp n0 hN (yX _) hs' hu sz h6 k ()).1]
theorem Gh (h:xs∈List.replicate T (List.replicate i (0:Rat))) (hx:x∈xs):x=0:=by
 rw[jr h] at hx;exact jr hx
theorem Bd.ctf (X:Bd mv pt M1 M2 V a1 a2 c) (D:eU mv pt lk) (ls:st.9=mv.9) (b0:0 < B) (b1:B<=2^b) (hs:∀x∈st,Fr B (2^g) x) (hg:∀x∈go,Fr (M1^T*(M2*B)) (2^(c*T+g)) x) (Z:ZS mv.9 a1 a2 c T b g):CtF mv pt T st go (M1^(mv.9 - 1)*M2) (2^(c*mv.9)*(M1^(mv.9 - 1)*M2)) (M1^T*(M2*B)) (2^(c*T+g+1)*(M1^T*(M2*B))):=by
 have Z':=Z;obtain h1|h2|h3|h4|h5|h6|h7:=Z;have n0:0 < M2*B:=aM X.m2 b0;have hN:M2*B<=2^(a2+b):=by rw[ax];exact aw X.b2 b1
 obtain ⟨Dd,eD⟩:∃d,M1^(mv.9 - 1)*M2=d:=#[_,rfl];obtain ⟨E,eE⟩:∃d,M1^T*(M2*B)=d:=#[_,rfl];have D0:0 < Dd:=by rw[<- eD];exact aM (df X.m1) X.m2
 have E0:0 < E:=by rw[<- eE];exact aM (df X.m1) n0
 have dD:Dd<=2^zd mv.9 a1 a2:=by rw[<- eD];exact gi X.b1 X.b2
 have dE:E<=2^ze a1 a2 T b:=by
  rw[<- eE,show ze a1 a2 T b=a1*T+(a2+b) by unfold ze;lia];exact gi X.b1 hN
 have dW:2^(c*mv.9)*Dd<=2^zw mv.9 a1 a2 c:=by
  rw[show zw mv.9 a1 a2 c=c*mv.9+zd mv.9 a1 a2 by unfold zw;lia,ax];exact au _ dD
 have dU:2^(c*T+g+1)*E<=2^zu a1 a2 c T b g:=by
  rw[show zu a1 a2 c T b g=c*T+g+1+ze a1 a2 T b by unfold zu;lia,ax 2 (c*T+g+1)];exact au _ dE
 have hl:=X.lack D ls hs hg;have hg':=hg;rw[eD,eE];rw[eE] at hl hg'
 have q2:(16*(2^(c*mv.9)*Dd))^mv.9<=2^zq mv.9 a1 a2 c:=by
  have:16*(2^(c*mv.9)*Dd)<=2^(4+zw mv.9 a1 a2 c):=by rw[ax];exact au _ dW
  refine af (mW this _) ?_;rw[<- rR,bQ];exact ah _
 refine #[λk hk=>?_,λx hx=>rz E0 dE (ah _) () (hg' x hx),#[D0,E0,aM (df ()) D0,aM (df ()) E0,λu hu xs hx x hx'=>?_,λx hx=>Tp.of (hl x hx) (ah _),?_,?_],λqs q q0 hq lq hp=>?_]
 ·have wz:∀xs∈List.replicate T (List.replicate pt.9 (0:Rat)),xs.9=pt.9:=λxs hx=>by rw[jr hx,aV]
  have lz:(List.replicate T (List.replicate pt.9 (0:Rat))).9=T:=aV ..;rw[lz] at hk;obtain _|f:=X.end D ls lz wz b0 b1 hs (λxs hx x hx'=>by rw[Gh hx hx'];exact Fr.zero) Z';have m1:a1*k<=a1*T:=au _ hk;have m2:c*k<=c*T:=au _ hk;exact #[M1^k*(M2*B),2^(c*k+g),aM (df X.m1) n0,af (gi X.b1 hN) (ak () (by unfold ze at h1;lia)),ak () (),f k hk,λxs hx x hx'=>by rw[Gh hx hx'];exact Fr.zero]
 ·have f:=X.kry D u xs hx x hx';rw[<- eD];refine Tp.of (Fr.up (M':=M1^(mv.9 - 1)*M2) (V':=2^(c*mv.9)) f (qh (Bf _ ()) _) (ak () (au _ hu))) (ah _)
 ·refine af (aw dD dE) ?_;rw[<- ax];exact ak () ()
 ·refine #[zw mv.9 a1 a2 c+ze a1 a2 T b+zu a1 a2 c T b g+zd mv.9 a1 a2+2,?_,h3,h4]
  have S:∀{x y k j:Nat},x<=2^k->y<=2^j->k+j<=zw mv.9 a1 a2 c+ze a1 a2 T b+zu a1 a2 c T b g+zd mv.9 a1 a2->x*y<=2^(zw mv.9 a1 a2 c+ze a1 a2 T b+zu a1 a2 c T b g+zd mv.9 a1 a2):=λhx hy hk=>by
   refine af (aw hx hy) ?_;rw[<- ax];exact ak () hk
  have s1:=S dW dE ();have s2:=S dU dD ();have s3:=S dD dE ();rw[ax _ _ 2];generalize 2^(zw mv.9 a1 a2 c+ze a1 a2 T b+zu a1 a2 c T b g+zd mv.9 a1 a2)=P at s1 s2 s3 ⊢
  lia
 ·have Np0:0 < E*q:=aM E0 q0;have hq':q<=2^zq mv.9 a1 a2 c:=af hq q2
  have hP:Dd*(mv.9*(2^(c*T+g+1)*E*(16*(2^(c*mv.9)*Dd))^mv.9))<=2^(zd mv.9 a1 a2+3+zu a1 a2 c T b g+zq mv.9 a1 a2 c):=by
   have n3:mv.9<=2^3:=D.n8;refine af (aw dD (aw n3 (aw dU q2))) ?_;rw[<- ax,<- ax,<- ax];exact ak () ()
  refine #[M1,M2,V,a1,a2,c,M2*(E*q),E*q,zd mv.9 a1 a2+3+zu a1 a2 c T b g+zq mv.9 a1 a2 c,a2+ze a1 a2 T b+zq mv.9 a1 a2 c,X,aM X.m2 Np0,?_,yX _,λx hx=>?_,λxs hx x hx'=>((hp xs hx x hx').fr Np0).mono hP,?_,h6]
  ·rw[ax,ax,cD];exact aw X.b2 (aw dE hq')
  ·refine Fr.up (hs x hx) ?_ (ak () (by unfold zu;lia));rw[<- eE];exact d9 (d9 (d9 (bP _ M2) (bP _ (M1^T))) (lE _ q)) (bP _ _)
  ·rw[lq];exact h5
theorem Bd.prf (X:Bd mv pt M1 M2 V a1 a2 c) (D:eU mv pt lk) (ls:st.9=mv.9) (b0:0 < B) (b1:B<=2^b) (hs:∀x∈st,Fr B (2^g) x) (hg:∀x∈go,Fr (M1^T*(M2*B)) (2^(c*T+g)) x) (Z:ZS mv.9 a1 a2 c T b g) (P:ZP mv.9 a1 a2 c T b g) (q0:0 < q) (hq:q<=(16*(2^(c*mv.9)*(M1^(mv.9 - 1)*M2)))^mv.9*(16*(2^(c*T+g+1)*(M1^T*(M2*B))+M1^T*(M2*B)))) (hp:∀y∈pr,Tp q ((16*(2^(c*mv.9)*(M1^(mv.9 - 1)*M2)))^mv.9*(16*(2^(c*T+g+1)*(M1^T*(M2*B))+M1^T*(M2*B)))) y):V6 mv pt T st go pr/\∀(L:List Rat) (B':Nat),0 < B'->B'<=2^b->(∀x∈L,Fr (M1^T*(M2*B')) (2^(c*T+g+1)) x)->ye pr L:=by
 have n0:∀{B'},0 < B'->0 < M1^T*(M2*B'):=λh=>aM (df X.m1) (aM X.m2 h)
 have hN:∀{B'},B'<=2^b->M1^T*(M2*B')<=2^ze a1 a2 T b:=λh=>by
  rw[show ze a1 a2 T b=a1*T+(a2+b) by unfold ze;lia];exact gi X.b1 (by rw[ax];exact aw X.b2 h)
 have ct:=X.ctf D ls b0 b1 hs hg Z;have hl:=X.lack D ls hs hg;obtain h1|h2|h3|h4|h5|h6|h7:=Z;obtain p1|p2:=P;have dD:M1^(mv.9 - 1)*M2<=2^zd mv.9 a1 a2:=gi X.b1 X.b2;have dE:=hN b1
 have W:(16*(2^(c*mv.9)*(M1^(mv.9 - 1)*M2)))^mv.9*(16*(2^(c*T+g+1)*(M1^T*(M2*B))+M1^T*(M2*B)))<=2^(zq mv.9 a1 a2 c+5+zu a1 a2 c T b g):=by
  have e1:16*(2^(c*mv.9)*(M1^(mv.9 - 1)*M2))<=2^(4+zw mv.9 a1 a2 c):=by
   rw[show zw mv.9 a1 a2 c=c*mv.9+zd mv.9 a1 a2 by unfold zw;lia,ax 2 4,ax];exact au _ (au _ dD)
  have e2:=mW e1 mv.9;rw[<- rR,bQ (4+zw mv.9 a1 a2 c)] at e2
  have e3:2^(c*T+g+1)*(M1^T*(M2*B))<=2^zu a1 a2 c T b g:=by
   rw[show zu a1 a2 c T b g=c*T+g+1+ze a1 a2 T b by unfold zu;lia,ax 2 (c*T+g+1)];exact au _ dE
  have e4:M1^T*(M2*B)<=2^(c*T+g+1)*(M1^T*(M2*B)):=ck _ (df ());generalize 2^(c*T+g+1)*(M1^T*(M2*B))=u at e3 e4 ⊢;rw[show zq mv.9 a1 a2 c+5+zu a1 a2 c T b g=mv.9*(4+zw mv.9 a1 a2 c)+(5+zu a1 a2 c T b g) by unfold zq;lia,ax];refine aw e2 ?_;rw[ax];generalize M1^T*(M2*B)=v at e4 ⊢
  lia
 have fp:qe (zq mv.9 a1 a2 c+5+zu a1 a2 c T b g) (zq mv.9 a1 a2 c+5+zu a1 a2 c T b g) pr:=#[q,_,q0,af hq W,W,λx hx=>(hp x hx).fr q0];have key:∀(L:List Rat) (B':Nat),0 < B'->B'<=2^b->(∀x∈L,Fr (M1^T*(M2*B')) (2^(c*T+g+1)) x)->ye pr L:=λL B' c0 c1 h=>#[_,_,ze a1 a2 T b,c*T+g+1,fp,#[_,_,n0 c0,hN c1,ah _,h],by unfold zu at p1 ⊢;lia]
 refine #[#[#[M1,M2,V,a1,a2,c,X,h7],#[M1,V,a1,c,B,g,b,X.m1,X.b1,X.gm,X.vc,b0,b1,hs,by unfold zu ze at h5;lia],ct.sg,λx hx=>rz q0 (af hq W) W () ((hp x hx).fr q0),λxs hx=>?_,key _ B b0 b1 hl],key];refine #[_,_,a1*T+a2,c*(T+1),fp,#[M1^T*M2,2^(c*T),aM (df X.m1) X.m2,gi X.b1 X.b2,ak () (au _ ()),λx hx'=>(X.kry D T xs hx x hx').dvd (qh (Bf _ ()) _)],()]
theorem UN (h:ZS n a1 a2 c T b (g+1)):ZS n a1 a2 c T b g:=by
 obtain h1|h2|h3|h4|h5|h6|h7:=h;have e:zu a1 a2 c T b g<=zu a1 a2 c T b (g+1):=by unfold zu;lia
 exact #[h1,(),(),af (au _ ()) h4,(),h6,h7]
structure Us (mv pt:LR9) (w T M1 M2 V a1 a2 c b1 b2:Nat):Prop where
 bd:Bd mv pt M1 M2 V a1 a2 c
 z1:ZS mv.9 a1 a2 c T b1 23
 zp:ZP mv.9 a1 a2 c T b1 23
 z2:ZS mv.9 a1 a2 c T b2 23
 dr:∀l:List Rat,(∀x∈l,Dr (max w 6) x)->∃B,0 < B/\6∣B/\(∀x∈l,Fr B (2^22) x)/\(l.9<=2*mv.9+T*pt.9->B<=2^b1)/\(l.9<=2*mv.9+2*(T*pt.9)->B<=2^b2)
end
def tS (ws col:List Rat):List Rat:=List.zipWith (λv w=>v / w) col ws
def kD (ws:List Rat) (T:Nat):List Rat:=(List.replicate T ws).flatten
def oM (rows:LR9) (ws:List Rat) (n:Nat):LR9:=xj ((cv rows n).map (tS ws)) rows n
def gF (rows:LR9) (ws x y:List Rat):Rat:=bF rows.9 λk=>bJ (rows.getD k []) x*bJ (rows.getD k []) y / ws.getD k 0
def Ur (rows:LR9) (ws:List Rat) (n:Nat) (g x:List Rat):Prop:=x.9=n/\g.length=n/\∀y:List Rat,y.9=n->bJ y g=gF rows ws y x
section
variable {rows more R:LR9} {ws wm x x1 x2 x' y g g1 g2:List Rat} {n:Nat} {ps:List Nat} {c:Rat}
theorem Ki {f:Nat->Rat}:∀k,(∀j,j < k->0<=f j)->0<=bF k f
 | 0,_=>Rat.le_refl
 | k+1,h=>by
  have h1:=Ki k λj hj=>h j ()
  have h2:=h k ();have e:bF (k+1) f=bF k f+f k:=rfl;rw[e];grind
theorem DG {f:Nat->Rat}:∀k,(∀j,j < k->0<=f j)->bF k f=0->∀j,j < k->f j=0
 | 0,_,_,j,hj=>absurd hj (dw _)
 | k+1,h,z,j,hj=>by
  have h1:=Ki k λj hj=>h j ()
  have h2:=h k ();have e:bF (k+1) f=bF k f+f k:=rfl;rw[e] at z;by_cases q:j=k
  ·rw[q];grind
  ·exact DG k (λj hj=>h j ()) (by grind) j ()
theorem S0 (hw:∀xs∈rows,xs.9=n) (hk:k < rows.9):(rows.getD k []).9=n:=by
 rw[aa,ae hk];exact hw _ (aF _)
theorem EH (hw:∀xs∈rows,xs.9=n) (hk:k < rows.9) (lx:x.9=n):bJ (rows.getD k []) x=bF n λb=>bV rows k b*x.getD b 0:=by
 have l:=S0 hw hk;rw[cQ (by rw[l,lx]),l];rfl
theorem KQ (hw:∀xs∈rows,xs.9=n) (lw:ws.9=rows.9) (lx:x.9=n) (ha:a < n):∃row,(oM rows ws n)[a]?=some row/\row.9=n/\bJ row x=bF rows.9 λk=>bV rows k a*(bJ (rows.getD k []) x / ws.getD k 0):=by
 refine #[(cv rows n).map λys=>bJ ys (tS ws (rows.map λxs=>xs.getD a 0)),?_,by rw[ag,cy],?_]
 ·unfold oM xj;rw[aB,aB,sv ha];rfl
 ·have e1:∀b,b < n->((cv rows n).map λys=>bJ ys (tS ws (rows.map λxs=>xs.getD a 0))).getD b 0=bF rows.9 λk=>bV rows k b*(bV rows k a / ws.getD k 0):=λb hb=>by
   rw[aa,aB,sv hb];show bJ (rows.map λxs=>xs.getD b 0) _=_
   have l1:(tS ws (rows.map λxs=>xs.getD a 0)).9=rows.9:=by
    unfold tS;rw[aZ,ag,lw,eF]
   rw[cQ (by rw[ag,l1]),ag];refine aN λk hk=>?_
   have at_:∀j,(rows.map λxs=>xs.getD j 0).getD k 0=bV rows k j:=λj=>by
    rw[getD_map hk];unfold bV;rw[aa (l:=rows),ae hk];rfl
   rw[at_];congr 1;unfold tS;rw[aa,bp,aB,ae hk,ae (show k < ws.9 by lia),aa (l:=ws),ae (show k < ws.9 by lia)];show (rows[k].getD a 0) / ws[k]=_
   unfold bV;rw[aa (l:=rows),ae hk];rfl
  rw[cQ (by rw[ag,cy,lx]),ag,cy,aN λb hb=>by rw[e1 b hb]]
  have e2:(λb=>(bF rows.9 λk=>bV rows k b*(bV rows k a / ws.getD k 0))*x.getD b 0)=λb=>bF rows.9 λk=>(bV rows k a / ws.getD k 0)*(bV rows k b*x.getD b 0):=by
   funext b;rw[di,<- cF];exact aN λk _=>by grind
  rw[e2,fN];refine aN λk hk=>?_
  rw[cF,<- EH hw hk lx,iB,iB];grind
theorem F3 (hw:∀xs∈rows,xs.9=n) (lg:g.length=n) (lx:x.9=n) (h:∀a,a < n->g.getD a 0=bF rows.9 λk=>bV rows k a*(bJ (rows.getD k []) x / ws.getD k 0)):Ur rows ws n g x:=by
 refine #[lx,lg,λy ly=>?_];rw[cQ (by rw[ly,lg]),ly,aN λa ha=>by rw[h a ha,<- cF]];rw[fN];refine aN λk hk=>?_
 have e:(λa=>y.getD a 0*(bV rows k a*(bJ (rows.getD k []) x / ws.getD k 0)))=λa=>(bJ (rows.getD k []) x / ws.getD k 0)*(bV rows k a*y.getD a 0):=by
  funext a;grind
 rw[e,cF,<- EH hw hk ly,iB,iB];grind
theorem rj:(oM rows ws n).9=n:=by unfold oM xj;rw[ag,ag,cy]
theorem wJ:∀xs∈oM rows ws n,xs.9=n:=λxs hx=>by
 unfold oM xj at hx;obtain ys|_|rfl:=aA.mp hx;rw[ag,cy]
theorem SX (hw:∀xs∈rows,xs.9=n) (lw:ws.9=rows.9) (lg:g.length=n) (RR:bS (c8 (oM rows ws n) g) (n+1) R ps) (hn:n∉ps):Ur rows ws n g (iG R ps n):=by
 have lx:(iG R ps n).9=n:=kj;refine F3 hw lg lx λa ha=>?_
 obtain row|er|_|ed:=KQ hw lw lx ha;rw[<- ed];exact (DK (by rw[rj,lg]) wJ RR hn er).symm
theorem SQ {a w:Rat} (h:0 < w):0<=a*a / w:=by
 have h1:0<=a*a:=by
  rcases Rat.le_total (a:=0) (b:=a) with z | z
  ·exact o7 z z
  ·have:0<=-a:=by grind
   have:=o7 this this;grind
 rw[iB];exact o7 h1 (Rat.le_of_lt (Rat.inv_pos.mpr h))
theorem Ke (hp:∀w∈ws,0 < w) (hk:k < ws.9):0 < ws.getD k 0:=by
 rw[aa,ae hk];exact hp _ (aF _)
theorem PB (hw:∀xs∈rows,xs.9=n) (lw:ws.9=rows.9) (hp:∀w∈ws,0 < w) (lg:g.length=n) (hz:∀pr:List Rat,pr.9=n->(∀xs∈rows,bJ xs pr=0)->bJ pr g=0) (RR:bS (c8 (oM rows ws n) g) (n+1) R ps):n∉ps:=λhn=>by
 obtain w|h1|h2:=zK (by rw[rj,lg]) wJ RR hn;rw[rj] at h1 h2;obtain ⟨pr,epr⟩:∃pr:List Rat,pr=(List.range n).map w:=#[_,rfl];have lp:pr.9=n:=by rw[epr,ag,bU]
 have ap:∀i,i < n->pr.getD i 0=w i:=λi hi=>by rw[epr,aa,aB,cB hi];rfl
 have d1:bJ pr g=1:=by
  rw[cQ (by rw[lp,lg]),lp,<- h2];exact aN λi hi=>by rw[ap i hi]
 have f0:gF rows ws pr pr=0:=by
  have e1:∀i,i < n->bF n (λb=>bV (oM rows ws n) i b*pr.getD b 0)=bF rows.9 λk=>bV rows k i*(bJ (rows.getD k []) pr / ws.getD k 0):=λi hi=>by
   obtain row|er|lr|ed:=KQ hw lw lp hi;rw[<- ed,cQ (by rw[lr,lp]),lr];refine aN λb _=>?_
   unfold bV;rw[aa (l:=oM rows ws n),er];rfl
  have e2:bF n (λi=>w i*bF n (λb=>bV (oM rows ws n) i b*pr.getD b 0))=0:=by
   have e:(λi=>w i*bF n (λb=>bV (oM rows ws n) i b*pr.getD b 0))=λi=>bF n λb=>pr.getD b 0*(w i*bV (oM rows ws n) i b):=by
    funext i;rw[<- cF];exact aN λb _=>by grind
   rw[e,fN];exact cZ λb hb=>by rw[cF,h1 b hb,eC]
  have S:Ur rows ws n ((List.range n).map λi=>bF rows.9 λk=>bV rows k i*(bJ (rows.getD k []) pr / ws.getD k 0)) pr:=F3 hw (by rw[ag,bU]) lp λa ha=>by
   rw[aa,aB,cB ha];rfl
  rw[<- S.2.2 pr lp,cQ (by rw[lp,S.2.1]),lp];refine Eq.trans (aN λi hi=>?_) e2;rw[e1 i hi,ap i hi];congr 1;rw[aa,aB,cB hi];rfl
 have z:=DG rows.9 (λk hk=>SQ (Ke hp ())) f0
 have zz:∀xs∈rows,bJ xs pr=0:=λxs hx=>by
  obtain k|hk|e:=aX hx;have:=z k hk;have wp:=Ke hp (k:=k) ();rw[aa,ae hk,yz,e,iB] at this
  have wi:(ws.getD k 0)⁻¹≠0:=λq=>by
   have:=Rat.inv_pos.mpr wp;grind
  rcases jc.mp this with q | q
  ·rcases jc.mp q with q | q <;> exact q
  ·exact absurd q wi
 rw[hz pr lp zz] at d1;exact absurd d1 ()
end
theorem Pw (hK:∀xs∈K0,xs.9=n) (n15:n<=15) (D0:0 < D) (tk:∀xs∈K0,∀x∈xs,Tp D (2^wl) x) (F:∃w,Dm (cv K0 n) K0.9 w):∃q:Nat,0 < q/\q<=2^((wl+4)*n)/\∀(E W1:Nat) (L:List Rat) (R:LR9) (ps:List Nat),0 < E->L.9=n->(∀x∈L,Tp E W1 x)->bS (c8 (cv K0 n) L) (K0.9+1) R ps->K0.9∉ps->∀y∈iG R ps K0.9,Tp (E*q) (D*(n*(W1*2^((wl+4)*n - wl)))) y:=by
 have lt:(cv K0 n).9=n:=cy;have wt:∀xs∈cv K0 n,xs.9=K0.9:=ie
 have tfn:∀i,i < n->∀j,bV (cv K0 n) i j=bV K0 j i:=λi hi j=>by
  unfold bV;rw[aa (l:=cv K0 n),sv hi];show (K0.map λxs=>xs.getD i 0).getD j 0=_
  rw[aa,aB,aa (l:=K0)];cases K0[j]? with
  | none=>show (0:Rat)=([]:List Rat).getD i 0;rw[aa];rfl
  | some xs=>rfl
 have tkf:∀j i,Tp D (2^wl) (bV K0 j i):=λj i=>by
  unfold bV;rw[aa (l:=K0)];by_cases hj:j < K0.9
  ·rw[ae hj];exact jd (tk _ (aF hj)) i
  ·rw[aP ()];show Tp D (2^wl) (([]:List Rat).getD i 0)
   exact jd (by intro x z;cases z) i
 have w0:1<=2^wl:=b8;obtain w|F:=F;obtain R0|ps|_|_|SR:=CN wt F;have RR0:=SR.rr
 obtain pm|pinj|plt|kn|dne:=C6 wt w0 D0 (K2 λi hi c=>by
  rw[tfn i ()];exact tkf c i) RR0
 rw[lt] at plt kn;have pl:∀j,j < ps.9->ps.getD j 0 < K0.9:=λj hj=>RR0.2.2.low j hj
 have Dne:(D:Rat)≠0:=λz=>by
  have:((D:Int):Rat)=0:=by rw[aI];exact z
  have:=oG this
  lia
 have rlt:∀r∈mL pm ps.9,r < n:=λr hr=>by
  obtain t|ht|rfl:=mZ hr;exact plt t ht
 obtain ⟨v,ev⟩:∃v:Nat->jJ,v=λj i=>(D:Rat)*bV K0 (ps.getD j 0) i:=#[_,rfl]
 have vint:∀j r,Fr 1 (2^wl) (v j r):=λj r=>by
  obtain z|ee|b:=tkf (ps.getD j 0) r;rw[ev];show Fr 1 (2^wl) ((D:Rat)*_)
  rw[di,ee];exact Fr.int b
 have den:jY (mL pm ps.9) (jI v ps.9)≠0:=by
  have e1:jY (mL pm ps.9) ([]++jI v ps.9)=jY (mL pm ps.9) ([]++jI (λj i=>(D:Rat)*bV (cv K0 n) i (ps.getD j 0)) ps.9):=EE [] λj hj r hr=>by
   rw[tfn r (rlt r hr),ev]
  have e2:jI (λj i=>(D:Rat)*bV (cv K0 n) i (ps.getD j 0)) ps.9=(jI (λj i=>bV (cv K0 n) i (ps.getD j 0)) ps.9).map λv i=>(λ_=>(D:Rat)) i*v i:=(cw_map (τ:=λv i=>(D:Rat)*v i)).symm
  have e1:jY (mL pm ps.9) (jI v ps.9)=jY (mL pm ps.9) (jI (λj i=>(D:Rat)*bV (cv K0 n) i (ps.getD j 0)) ps.9):=e1;rw[e1,e2,wO];intro z;rcases jc.mp z with z | z
  ·exact D5 (g:=λ_=>(D:Rat)) (λ_ _=>Dne) z
  ·exact dne z
 have p16:(16*2^wl:Nat)=2^(wl+4):=by rw[ax];lia
 obtain q|eq|bq:=Uh (N:=16) (Wx:=2^wl) (rs:=mL pm ps.9) (vs:=jI v ps.9) (by rw[cw_len];lia) λw hw r _=>by
  obtain t|_|rfl:=cw_in hw;exact vint t r
 rw[tR,p16,<- rR] at bq;have up:(wl+4)*ps.9<=(wl+4)*n:=au _ kn;have q0:q≠0:=λz=>den (by rw[eq,z];rfl)
 refine #[q.natAbs,(),af bq (ak () up),λE W1 L R ps' E0 hL tl RR hn y hy=>?_];have hd:L.9=(cv K0 n).9:=by rw[lt];exact hL
 obtain _|rfl:=(OQ hd wt RR hn).same RR0;have tlf:∀i,Tp E W1 (L.getD i 0):=λi=>jd tl i
 have Ene:(E:Rat)≠0:=λz=>by
  have:((E:Int):Rat)=0:=by rw[aI];exact z
  have:=oG this
  lia
 rcases Kv RR hy with rfl | ⟨i,hi,rfl⟩
 ·exact #[0,by rw[j9];rfl,aW _]
 ·have hW:∀r∈mL pm ps'.9,(E:Rat)*L.getD r 0=bF ps'.9 λj=>((E:Rat)*bV R j K0.9 / D)*v j r:=λr hr=>by
   have hr:=rlt r hr;rw[RS hd wt RR hn (i:=r) (by rw[lt];exact hr),<- cF];refine aN λj hj=>?_
   rw[tfn r hr,ev]
   dsimp only
   grind
  have cr:=xT (v:=v) (c:=λj=>(E:Rat)*bV R j K0.9 / D) (W:=λr=>(E:Rat)*L.getD r 0) hi hW
  have ex:jY (mL pm ps'.9) (BU v i ps'.9++(λr=>(E:Rat)*L.getD r 0) :: jI v i)=bF ps'.9 λt=>((E:Rat)*L.getD (pm t) 0)*jY (mL pm ps'.9) (BU v i ps'.9++(λr=>if r=pm t then 1 else 0) :: jI v i):=AU (W:=λ_=>0) (v:=λt r=>if r=pm t then 1 else 0) (c:=λt=>(E:Rat)*L.getD (pm t) 0) _ _ (λr hr=>by
   obtain t|ht|rfl:=mZ hr;rw[iQ ht λj hj ne=>by rw[if_neg λz=>ne (pinj j t hj ht z.symm),eC],if_pos rfl,rQ])
  have hlen:∀x:jJ,(BU v i ps'.9++x :: jI v i).9<=16:=λx=>by
   have:=congrArg List.length (cw_split (v:=v) hi);rw[aj,a8,cw_len] at this;rw[aj,a8]
   lia
  have unit:∀t,Fr 1 (2^((wl+4)*n - wl)) (jY (mL pm ps'.9) (BU v i ps'.9++(λr=>if r=pm t then 1 else 0) :: jI v i)):=λt=>by
   have mk:∀(u:jJ) (W:Nat),1<=W->W=2^wl->(∀r,Fr 1 W (u r))->Fr 1 (2^((wl+4)*ps'.9)) (jY (mL pm ps'.9) (BU v i ps'.9++u :: jI v i)):=λu W _ eW hu=>by
    subst eW
    have f2:=yt (W:=2^wl) (N:=16) (rs:=mL pm ps'.9) (hlen u) λw hw r _=>by
     rcases av.mp hw with hw | hw
     ·obtain s|_|rfl:=C5 hw;exact vint s r
     ·rcases aD.mp hw with rfl | hw
      ·exact hu r
      ·obtain s|_|rfl:=cw_in hw;exact vint s r
    rw[tR,p16,<- rR] at f2;exact f2
   have big:=mk (λr=>((2^wl:Nat):Rat)*(if r=pm t then 1 else 0)) _ w0 rfl λr=>by
    split
    ·rw[rQ,<- aI];exact Fr.int (by rw[bx];exact ah _)
    ·rw[eC];exact Fr.zero
   have sm:=mk (λr=>if r=pm t then 1 else 0) _ w0 rfl λr=>by
    split
    ·exact Fr.one w0
    ·exact Fr.zero
   have lin:jY (mL pm ps'.9) (BU v i ps'.9++(λr=>((2^wl:Nat):Rat)*(if r=pm t then 1 else 0)) :: jI v i)=0+((2^wl:Nat):Rat)*jY (mL pm ps'.9) (BU v i ps'.9++(λr=>if r=pm t then 1 else 0) :: jI v i):=AU (W:=λ_=>0) (v:=λ_ r=>if r=pm t then 1 else 0) (c:=λ_=>((2^wl:Nat):Rat)) (BU v i ps'.9) (jI v i) (k:=1) λr _=>by
    show _=0+_
    rw[Rat.zero_add]
   rw[Rat.zero_add] at lin;obtain z|ez:=oV sm;rw[ez] at lin ⊢;rw[lin,<- aI,<- aQ] at big;have b1:=pR big;rw[cX,bx] at b1;refine Fr.int ?_;have g0:wl<=(wl+4)*ps'.9:=af () (cJ _ (show 0 < ps'.9 by lia));have e1:2^((wl+4)*ps'.9)=2^wl*2^((wl+4)*ps'.9 - wl):=by rw[<- ax];congr 1;lia
   rw[e1] at b1;exact af (Nat.le_of_mul_le_mul_left b1 w0) (ak () ())
  have nf:Fr 1 (n*(W1*2^((wl+4)*n - wl))) (jY (mL pm ps'.9) (BU v i ps'.9++(λr=>(E:Rat)*L.getD r 0) :: jI v i)):=by
   rw[ex];refine (Ot (V:=W1*2^((wl+4)*n - wl)) λt ht=>?_).mono (ay _ kn);obtain z|ee|b:=tlf (pm t)
   have f1:Fr 1 W1 ((E:Rat)*L.getD (pm t) 0):=by
    rw[di,ee];exact Fr.int b
   have:=f1.mul (unit t);rwa [rS] at this
  obtain z|ez:=oV nf;rw[ez] at nf cr;have bz:=pR nf;rw[eq] at cr
  have key:bV R i K0.9*((E:Rat)*(q:Rat))=(D:Rat)*(z:Rat):=by
   rw[cr];grind
  have kq:(((E*q.natAbs:Nat):Rat))=(E:Rat)*((q.natAbs:Nat):Rat):=jb ..;rcases xh q with h | h
  ·have hq:((q.natAbs:Nat):Rat)=(q:Rat):=by rw[<- aI,<- h]
   refine #[D*z,?_,by rw[cX,bx];exact au _ bz];rw[kq,hq,key,aQ,aI]
  ·have hq:((q.natAbs:Nat):Rat)=-(q:Rat):=by rw[<- aI,<- cU];congr 1;lia
   refine #[-(D*z),?_,by rw[pe,cX,bx];exact au _ bz];rw[kq,hq,cU,aQ,aI,<- key];grind
def Wy (K:FG9) (a:Addr) (n:Nat):It :=
 #[λi H=>i < n/\∃xs x,bC K H a xs/\xs[n - 1 - i]?=some x,λi H x H'=>H'=H/\∀xs,bC K H a xs->xs[n - 1 - i]?=some x,λi _=>n<=i]
theorem MS {P:Program} {w:World} {K:FG9} {tg:Expr} (a it:Addr) (n:Nat):Turn P w K tg (Wy K a n) [it] it (λi h=>i<=n/\h.IsRevIter it a ((n:Int) - 1 - (i:Nat))) where
 mem:=by simp
 obj:=λi h st b hb=>by
  have e:b=it:=by simpa using hb
  subst e;obtain _|o|e|c|d:=st;exact #[o,e,λv z=>by rw[d] at z;cases z]
 keep:=λi h h' st k=>#[st.1,st.2.at λo e=>k it (by simp) o e]
 item:=by
  intro X hP hw hK hc i pins s σ H E I hf st hg;subst hP hw hK;obtain hi|xs|x|hq|hx:=hg;obtain its|rv|p|hz:=I.list hq;obtain u|hu|ru:=rv.get hx;obtain f0|f1|f2|f3|f4|f5:=hf it (by simp);have st2:=st.2;rw[show (n:Int) - 1 - (i:Nat)=((n - 1 - i:Nat):Int) by lia] at st2;refine wpAny_pyNext_rev_item st2 p.isList (x:=u) (by simpa using hu) λh' st' sb=>?_
  have I1:Inv X pins σ H { s with heap:=h' }:=I.turned (t':=s.toks) (λb o hb e=>(sb.2 b hb).trans e) f0 f1 f3 f4 f5;rw[show ((n - 1 - i:Nat):Int) - 1=(n:Int) - 1 - ((i+1:Nat):Int) by lia] at st';obtain o|e|c|d:=id st';exact #[u,rfl,KW (s:={ s with heap:=h' }) e c d () ⟨x,H,I1,ru,⟨rfl,λys hy=>by rw[I.list_inj hy hq];exact hx⟩,#[hi,st'],λb hb=>(hf b hb).1⟩]
 done:=by
  intro X hP hw hK hc i pins s σ H E I hf st hg;subst hP hw hK;obtain f0|f1|f2|f3|f4|f5:=hf it (by simp);have st2:=st.2;have:n<=i:=hg;have:=st.1;rw[show (n:Int) - 1 - (i:Nat)=-1 by lia] at st2;exact wpAny_pyNext_rev_end (I.ok.hd hc) st2 λh' eb=>#[rfl,I.turned (t':=s.toks) (λb o hb e=>eb b o hb e) f0 f1 f3 f4 f5]
 self:=λ_ _ _ _ _ st h=>wpAny_pyIter_revIter st.2 h
def VD (K:FG9) (ta:TA):TI:=λσ H R=>ta σ H λvs H1=>∃l xs,vs=[.ref l]/\bC K H1 l xs/\R (Wy K l xs.9) H1
theorem TK {X:Cx} {e1:Expr} {ta:TA} {p pos:Pos} {tg:Expr} (hg:Gl X "reversed") (hm:X.mg "reversed"=none) (ha:PA X [e1] ta) (hs:starEach [e1] X.env=[(false,eval e1 X.env)]:=by rfl) :
  PI X tg (.Call (.Name "reversed" p) [e1] [] pos) (VD X.K ta):=by
 intro pins s σ H R I h;refine Call_ (k9 I hg hm boot_reversed (PyProof.Rows.callWith_type1 (iI (ha pos pins s σ H _ I h) λus s1 #[vs,H1,I1,r1,q1]=>?_) hs rfl));obtain l|xs|e|qx|q:=q1;subst e;obtain u|rfl|ru:=vals1 r1;cases ru;obtain us|rx|px|_:=I1.list qx;have lx:=rx.9;have kp:∀b o,s1.heap.get? b=some o->(s1.heap.push (revObj l ((us.5.7:Int) - 1))).get? b=some o:=λb o e=>Heap.get?_push_of_some _ e
 have st:(s1.heap.push (revObj l ((us.5.7:Int) - 1))).IsRevIter s1.heap.objs.size l ((us.5.7:Int) - 1):=#[_,Heap.get?_push_size _ rfl,rfl,rfl];refine call_reversed_list px.isList (wpAny_pyIter_revIter st ?_);have I2:Inv X pins σ H1 { s1 with heap:=s1.heap.push (revObj l ((us.5.7:Int) - 1)) }:=I1.kept (t':=s1.toks) kp;refine #[_,[s1.6],_,_,H1,rfl,I2,MS l s1.heap.objs.size xs.9,#[aW _,?_],λb hb=>?_,q]
 ·have e:((us.5.7:Int) - 1)=(xs.9:Int) - 1 - ((0:Nat):Int):=by rw[aG];lia
  rw[<- e];exact st
 ·have hb':b=s1.6:=by simpa using hb
  subst hb';exact I1.fpOk (ah _) (I1.hok.fresh (ah _))
def IK (xs:List Rat):Prop:=∃M,IG M (xs.map nm)
theorem zZ (h0:0 < M) (h1:M<=2^4300000) (h2:W<=2^4300000) (h:∀x∈xs,Tp M W x):IK xs:=by
 refine #[M,(),?_,λy hy=>?_]
 ·show ((M:Nat):Int).natAbs < 2^4400000
  rw[bx];exact bc h1 (dg () ())
 ·obtain x|hx'|rfl:=aA.mp hy;have t:=h x hx';refine #[ik x,qC t,?_];obtain s|e|b:=ve t h0 (ik x) (y7 _) (qC t);have e2:(((nm x).1:Int):Rat)=(s:Rat):=by rw[<- e];exact jM x
  rw[du.mp e2];exact bc (af b h2) (dg () ())
inductive Ks (K:FG9) (vs:List V) (H:Hp) (Q:VK) (E9:XK):Prop
 | mk (p q:Addr) (xs ys:List Rat):vs=[.ref p,.ref q]->bK K H p xs->bK K H q ys->ys.9=xs.9->xs.9<=1000->IK xs/\IK ys->(∀r H',aH H H'->bO K H' (bJ xs ys) (.ref r)->Q (.ref r) H')->Ks K vs H Q E9
inductive Kq (K:FG9) (vs:List V) (H:Hp) (Q:VK) (E9:XK):Prop
 | mk (p q:Addr) (H0:Hp) (rows:LR9) (ys:List Rat):vs=[.ref p,.ref q]->bu K H0 H p rows->bK K H q ys->rows.9<=1000->ys.9<=1000->((∀xs∈rows,xs.9=ys.9/\(IK xs/\IK ys)))->(∀r H',H r=none->aH H H'->bK K H' r (rows.map λxs=>bJ xs ys)->Q (.ref r) H')->Kq K vs H Q E9
inductive zH (K:FG9) (vs:List V) (H:Hp) (Q:VK) (E9:XK):Prop
 | mk (p q:Addr) (w:Nat) (H0 H1:Hp) (one other:LR9):vs=[.ref p,.ref q,.int w]->bu K H0 H p one->bu K H1 H q other->one.9<=1000->other.9<=1000->w<=1000->((∀xs∈one,xs.9=other.9/\∀ys∈cv other w,IK ys/\IK xs))->(∀xs∈other,xs.9=w)->(∀r H',H r=none->aH H H'->bu K H H' r (xj one other w)->Q (.ref r) H')->zH K vs H Q E9
def Pu:Sp:=λ_ _ _ _=>False
theorem OS {K:FG9} {g:TG} (Pv:Nat->List V->Hp->Prop) (hz:xs.9<=sizeLine) (h0:Pv 0 [] H) (hl:∀i ys H,i<=xs.9->Pv i ys H->bC K H a xs)
  (hs:∀i x ys H,i < xs.9->xs[xs.9 - 1 - i]?=some x->ys.9<=i->Pv i ys H->rH σ₀ g tf te x H (λy H'=>Pv (i+1) (ys++[y]) H') (λH'=>Pv (i+1) ys H'))
  (hd:∀ys H,ys.9<=xs.9->Pv xs.9 ys H->∀p,H p=none->Q (.ref p) (upd H p (.lst ys))):rO (Wy K a xs.9) σ₀ g tf te Q H:=by
 refine #[λi m ys H=>m=xs.9 - i/\i<=xs.9/\ys.9<=i/\Pv i ys H,#[xs.9,by simp,aW _,aW _,h0],?_];rintro i m ys H ⟨rfl,hi,hy,p⟩;have q1:=hl i ys H hi p;by_cases hlt:i < xs.9
 ·refine .inr #[#[hlt,xs,xs[xs.9 - 1 - i]'(),q1,ae _],(),λy H'=>Pv (i+1) (ys++[y]) H',λH'=>Pv (i+1) ys H',λy H' p'=>#[xs.9 - (i+1),(),rfl,hlt,by rw[aj,bg];lia,p'],λH' p'=>#[xs.9 - (i+1),(),rfl,hlt,(),p'],λx H' y=>?_];obtain rfl|e1:=y;exact hs i x ys _ hlt (e1 xs q1) hy p
 ·have e:i=xs.9:=()
  subst e;exact .inl #[ah _,(),hd ys H hy p]
theorem QF (hy:0 < y):0 < (nm x).2*(nm y).1/\(lo ((nm x).1*(nm y).2) ((nm x).2*(nm y).1),hi ((nm x).1*(nm y).2) ((nm x).2*(nm y).1))=nm (x / y):=by
 have yn:0 < (nm y).1:=rW.mp hy;have hb:0 < (nm x).2*(nm y).1:=iF (ik x) yn
 have e1:(((nm x).1:Int):Rat)=x*(((nm x).2:Int):Rat):=by
  show (x.num:Rat)=x*(((x.den:Nat):Int):Rat)
  rw[jM,aI]
 have e2:(((nm y).1:Int):Rat)=y*(((nm y).2:Int):Rat):=by
  show (y.num:Rat)=y*(((y.den:Nat):Int):Rat)
  rw[jM,aI]
 have y0:y≠0:=λz=>by rw[z] at hy;exact absurd hy ()
 have e3:x / y*y=x:=kd y0;refine #[hb,mG hb ?_];rw[aQ,aQ,e1,e2];grind
inductive zA (K:FG9) (vs:List V) (H:Hp) (Q:VK) (E9:XK):Prop
 | mk (u v:V) (x y:Rat):vs=[u,v]->bO K H x u->bO K H y v->0 < y->i5 x->i5 y->(∀r H',aH H H'->bO K H' (x / y) (.ref r)->Q (.ref r) H')->zA K vs H Q E9
inductive Kl (K:FG9) (vs:List V) (H:Hp) (Q:VK) (E9:XK):Prop
 | mk (p q:Addr) (ws xs:List Rat):vs=[.ref p,.ref q]->bK K H p ws->bK K H q xs->ws.9=xs.9->xs.9<=1000->(∀w∈ws,0 < w/\i5 w)->(∀x∈xs,i5 x)->(∀r H',H r=none->aH H H'->bK K H' r (tS ws xs)->Q (.ref r) H')->Kl K vs H Q E9
inductive FY (vs:List V) (H:Hp) (Q:VK) (E9:XK):Prop
 | mk (p:Addr) (us:List V) (zss:List (List V)):vs=[.ref p]->H p=some (.lst us)->Paired (λzs u=>∃q,u=V.ref q/\H q=some (.lst zs)) zss us->zss.flatten.9<=1000->(∀r H',H r=none->aH H H'->H' r=some (.lst zss.flatten)->Q (.ref r) H')->FY vs H Q E9
def jl (mv pt:LR9) (ws:List Rat) (T:Nat) (x:List Rat):LR9:=(Bl mv pt T).reverse.map λrows=>tS ws (rows.map λr=>bJ r x)
inductive FP (K:FG9) (vs:List V) (H:Hp) (Q:VK) (E9:XK):Prop
 | mk (p q l:Addr) (us:List V) (Rs:List (LR9)) (ws x:List Rat):vs=[.ref p,.ref q,.ref l]->bK K H p x->bK K H q ws->H l=some (.lst us)->Paired (IP K l H) Rs us->Rs.9<=1000->ws.9<=1000->x.9<=1000->IK x->(∀w∈ws,0 < w/\i5 w)->(∀R∈Rs,R.9=ws.9/\∀xs∈R,xs.9=x.9/\IK xs/\i5 (bJ xs x))->(∀r H',H r=none->aH H H'->bu K H H' r (Rs.reverse.map λrows=>tS ws (rows.map λr=>bJ r x))->Q (.ref r) H')->FP K vs H Q E9
inductive Km (K:FG9) (vs:List V) (H:Hp) (Q:VK) (E9:XK):Prop
 | mk (q l:Addr) (n:Nat) (us:List V) (Rs:List (LR9)) (ws:List Rat):vs=[.ref q,.ref l,.int n]->bK K H q ws->H l=some (.lst us)->Paired (IP K l H) Rs us->n<=100->Rs.9<=100->Rs.flatten.9<=1000->(kD ws Rs.9).9=Rs.flatten.9->(∀xs∈Rs.flatten,xs.9=n/\∀x∈xs,i5 x)->(∀w∈ws,0 < w/\i5 w)->(∀ys∈cv Rs.flatten n,IK ys/\IK (tS (kD ws Rs.9) ys))->(∀r H0 H',H r=none->aH H H'->bu K H0 H' r (oM Rs.flatten (kD ws Rs.9) n)->Q (.ref r) H')->Km K vs H Q E9
inductive F2 (K:FG9) (C:Addr) (vs:List V) (H:Hp) (Q:VK) (E9:XK):Prop
 | mk (x:Addr) (u:Nat) (H0:Hp) (mv pt lk:LR9):vs=[.ref x,.int u]->u<=99->mS K H0 H C x mv pt lk->eU mv pt lk->O3 mv pt u->(∀r us H',H r=none->aH H H'->H' r=some (.lst us)->Paired (IP K r H') (Bl mv pt u) us->Q (.ref r) H')->F2 K C vs H Q E9
theorem nk (ws:List Rat) (T:Nat):(kD ws T).9=T*ws.9:=by
 unfold kD
 induction T with
 | zero=>simp
 | succ T ih=>rw[List.replicate_succ,dC,aj,ih,dm];lia
theorem zb (h:w∈kD ws T):w∈ws:=by
 unfold kD at h;obtain l|hl|hw:=eI.mp h;rw[jr hl] at hw;exact hw
theorem AO {K:FG9} {l:Addr} {H:Hp}:∀{Rs:List (LR9)} {us:List V},Paired (IP K l H) Rs us->∃zss:List (List V),Paired (λzs u=>∃q,u=V.ref q/\H q=some (.lst zs)) zss us/\Paired (λR zs=>Paired (dq K (En l) H) R zs) Rs zss
 | _,_,.nil=>#[[],.nil,.nil]
 | _,_,.cons h t=>by
  obtain zss|a|b:=AO t;obtain q|e|_|zs|g|r|_:=h;exact #[zs :: zss,.cons #[q,e,g] a,.cons r b]
theorem Ad {α β:Type} {F:α->V->Prop} {G:β->V->Prop} {b:β} (h:∀a y,F a y->G b y):∀{as:List α} {ys:List V},Paired F as ys->Paired G (List.replicate as.9 b) ys
 | _,_,.nil=>.nil
 | _,_,.cons x t=>.cons (h _ _ x) (Ad h t)
theorem Ky {α β:Type} {G:α->β->Prop} {a:α} {b:β} (h:G a b):∀n:Nat,Paired G (List.replicate n a) (List.replicate n b)
 | 0=>.nil
 | n+1=>.cons h (Ky h n)
theorem nF {α β:Type} {F:α->β->Prop}:∀{Rs:List (List α)} {zss:List (List β)},Paired (λR zs=>Paired F R zs) Rs zss->Paired F Rs.flatten zss.flatten
 | _,_,.nil=>.nil
 | _,_,.cons h t=>bM h (nF t)
theorem zg {C:Rat->Prop} (h:∀xs∈rows,xs.9=n/\∀x∈xs,C x):∀ys∈cv rows n,∀y∈ys,C y:=λys hy y hy'=>by
 obtain j|hj|rfl:=aA.mp hy;obtain xs|hx|rfl:=aA.mp hy';have:=h xs hx;exact this.2 _ (getD_mem (by rw[this.1];exact o8.mp hj))
theorem Oc (h0:0 < w) (h:Dr W w):Dr W (1 / w):=by
 have wn:0 < w.num:=rW.mp h0;have w0:w≠0:=λz=>by rw[z] at h0;exact absurd h0 ()
 have e:=RY (a:=(w.den:Int)) (b:=w.num) (q:=1 / w) wn (by rw[kg];exact Av w) (by
  have e1:(w.num:Rat)=w*((w.den:Nat):Rat):=jM w;have e2:1 / w*w=1:=kd w0;rw[aI,e1,<- Rat.mul_assoc,e2,rP])
 have e1:(w.den:Int)=(1 / w).num:=congrArg Prod.fst e;have e2:w.num=((1 / w).den:Int):=congrArg Prod.snd e;have h1:=h.1;have h2:=h.2;exact #[(),()]
def MI (a1 a2 T:Nat):Nat:=a1*T+a2
def Kd (a1 a2 T:Nat):Nat:=2*MI a1 a2 T+42
def Bi (a1 a2 c T:Nat):Nat:=2*(c*(T+1))+28+Kd a1 a2 T
def Mz (a1 a2 T b:Nat):Nat:=a1*T+a2+b+12
def Lj (a1 a2 c T b:Nat):Nat:=c*T+26+Mz a1 a2 T b
def zQ (n a1 a2 c T:Nat):Nat:=(Bi a1 a2 c T+4)*n
def UC (n a1 a2 c T b:Nat):Nat:=Kd a1 a2 T+3+Lj a1 a2 c T b+(zQ n a1 a2 c T - Bi a1 a2 c T)
abbrev Z65 (n a1 a2 c T b:Nat):Prop:=n<=8/\T<=14/\zQ n a1 a2 c T<=8900000/\Bi a1 a2 c T<=4200000/\Bi a1 a2 c T+Mz a1 a2 T b+Lj a1 a2 c T b+Kd a1 a2 T<=4200000/\n*(Bi a1 a2 c T+Mz a1 a2 T b+Lj a1 a2 c T b+Kd a1 a2 T+5)<=8900000/\2*Mz a1 a2 T b+zQ n a1 a2 c T<=3900000/\3+UC n a1 a2 c T b+Lj a1 a2 c T b<=3900000/\MI a1 a2 T+Mz a1 a2 T b+zQ n a1 a2 c T<=3900000/\3+c*(T+1)+MI a1 a2 T+UC n a1 a2 c T b<=3900000/\a1*(T+2)+a2+b+c*(T+3)+22<=3900000
def Rch (mv pt:LR9) (u:Nat) (go:List Rat):Prop:=∀pr:List Rat,pr.9=mv.9->(∀xs∈kry mv pt u,bJ xs pr=0)->bJ pr go=0
section
variable {M1 M2 V a1 a2 c T0 n0 b B u T E:Nat}
theorem p2 (h:a<=b):2^a<=2^b:=ak () h
theorem GS:kry mv pt (u+1)=kry mv pt u++pt.map (ia mv u):=by
 rw[<- jS,yS,fA,jS];simp
theorem Vt (X:Bd mv pt M1 M2 V a1 a2 c) (D:eU mv pt lk) (hu:u<=T0+1):∀xs∈kry mv pt u,∀x∈xs,Fr (M1^T0*M2) (2^(c*(T0+1))) x:=λxs hx x hx' =>
 Fr.up (X.kry D u xs hx x hx') (qh (Bf _ ()) _) (p2 (au _ hu))
theorem TZ (hw:∀xs∈rows,xs.9=n) (lw:wT.9=rows.9) (h64:rows.9<=64) (hf:∀xs∈rows,∀x∈xs,Fr D1 V1 x) (hi:∀w∈wT,Fr B (2^22) (1 / w)):(∀ys∈cv rows n,(∀y∈ys,Fr D1 V1 y)/\∀y∈tS wT ys,Fr (D1*B) (V1*2^22) y)/\∀xs∈oM rows wT n,∀x∈xs,Fr (D1*(D1*B)) (64*(V1*(V1*2^22))) x:=by
 have h1:∀ys∈cv rows n,(∀y∈ys,Fr D1 V1 y)/\∀y∈tS wT ys,Fr (D1*B) (V1*2^22) y:=λys hy=>by
  have t:=zg (C:=Fr D1 V1) (λxs hx=>#[hw xs hx,hf xs hx]) ys hy;refine #[t,λy hy'=>?_];unfold tS at hy';obtain i|h|e:=aX hy';rw[cW] at e;rw[<- e,show ∀a b:Rat,a / b=a*(1 / b) from λa b=>by rw[iB,iB,rP]];exact (t _ (aF _)).mul (hi _ (aF _))
 refine #[h1,λxs hx x hx'=>?_];unfold oM xj at hx;obtain pc|hp|rfl:=aA.mp hx;obtain ca|ha|rfl:=aA.mp hp;obtain cb|hb|rfl:=aA.mp hx';exact (Fr.dot (h1 cb hb).1 (h1 ca ha).2).mono (ay _ (by rw[ie cb hb];exact h64))
end
inductive Kj (K:FG9) (vs:List V) (H:Hp) (Q:VK) (E9:XK):Prop
 | mk (b:Addr) (m:Nat):vs=[.ref b,.int m,.int 1]->ji H b->m<=8->(∀r ws H',H r=none->bK K H' r ws->ws.9=m->(∀w∈ws,0 < w/\Dr 1000 w)->ji H' b->cY b H H'->Q (.ref r) H')->Kj K vs H Q E9
theorem TH {t b:Int} (h:z*(b:Rat)=(t:Rat)) (hb:0 < b) (ht:0 < t):0 < z:=by
 have h1:(0:Rat) < (b:Rat):=rW.mpr hb;have h2:(0:Rat) < (t:Rat):=rW.mpr ht;by_cases q:0 < z
 ·exact q
 ·have:=Rat.mul_le_mul_of_nonneg_right (Rat.not_lt.mp q) (Rat.le_of_lt h1);rw[h,j9] at this;exact absurd h2 (Rat.not_lt.mpr this)
theorem OE (lx:xs.9=n) (lg:gs.9=n) (n8:n<=8) (h1:∀x∈xs,Tp N (2^e) x) (h2:∀x∈gs,Tp D (2^f) x):Tp (N*D) (2^(3+e+f)) (bJ xs gs):=by
 rw[cQ (by rw[lx,lg]),lx];refine (Tp.sum λj _=>(jd h1 j).mul (jd h2 j)).mono ?_;rw[ax 2 (3+e),ax 2 3,cD];exact ay _ (show n<=2^3 by lia)
def lF (xs:List Rat):List Rat:=xs.map λx=>x*x
def BG (ws:List Rat) (rows:LR9):Rat:=(rows.map λxs=>bJ ws (lF xs)).sum
def BH (a b:LR9):LR9:=List.zipWith (λx y=>List.zipWith (λu v=>u - v) x y) a b
def IV (rows:LR9) (wT x:List Rat):List Rat:=tS wT (rows.map λr=>bJ r x)
section
variable {mv pt lk pus a b rows:LR9} {ws wT st go x y:List Rat} {T n m:Nat}
theorem U3 {a:Rat}:0<=a*a:=by
 rcases Rat.le_total (a:=0) (b:=a) with z | z
 ·exact o7 z z
 ·have:0<=-a:=by grind
  have:=o7 this this;grind
theorem GV:∀{x y:LR9},x.9=y.9->(∀z∈x,z.9=m)->(∀z∈y,z.9=m)->x.flatten=y.flatten->x=y:=by
 intro x
 induction x with
 | nil=>intro y h _ _ _;cases y with | nil=>rfl | cons _ _=>cases h
 | cons r x ih =>
  intro y h hx hy e;cases y with
  | nil=>cases h
  | cons s y =>
   rw[dC,dC] at e;obtain e1|e2:=List.append_inj e (by rw[hx r (.head _),hy s (.head _)]);rw[e1,ih (by simpa using h) (λz hz=>hx z (.tail _ hz)) (λz hz=>hy z (.tail _ hz)) e2]
theorem Ug:BG ws (r1++r2)=BG ws r1+BG ws r2:=by
 unfold BG;rw[cO,rX]
theorem OA:∀rows:LR9,BG ws rows.reverse=BG ws rows
 | []=>rfl
 | r :: rows=>by
  rw[Li,Ug,OA rows];show BG ws rows+(bJ ws (lF r)+0)=bJ ws (lF r)+BG ws rows
  grind
theorem K3:∀{rows:LR9},(∀xs∈rows,xs.9=ws.9)->bJ (kD ws rows.9) (lF rows.flatten)=BG ws rows
 | [],_=>rfl
 | xs :: rows,h=>by
  have e1:kD ws (xs :: rows).9=ws++kD ws rows.9:=by unfold kD;rw[a8,List.replicate_succ,dC]
  have e2:lF (xs :: rows).flatten=lF xs++lF rows.flatten:=by unfold lF;rw[dC,cO]
  have e3:bJ (ws++kD ws rows.9) (lF xs++lF rows.flatten)=bJ ws (lF xs)+bJ (kD ws rows.9) (lF rows.flatten):=by
   unfold bJ;rw[mX (by unfold lF;rw[ag];exact (h xs (.head _)).symm),rX]
  rw[e1,e2,e3,K3 λys hy=>h ys (.tail _ hy)];rfl
theorem JJ (hl:rows.9=T) (h:∀xs∈rows,xs.9=ws.9):BG ws rows=bF (T*ws.9) λk=>(kD ws T).getD k 0*(rows.reverse.flatten.getD k 0*rows.reverse.flatten.getD k 0):=by
 have h':∀xs∈rows.reverse,xs.9=ws.9:=λxs hx=>h xs (dZ.mp hx)
 have lf:rows.reverse.flatten.9=T*ws.9:=by rw[AR h',bT,hl]
 rw[<- OA,<- K3 h',bT,hl,cQ (by unfold lF;rw[nk,ag,lf]),nk];refine aN λk hk=>?_
 congr 1;unfold lF;rw[getD_map (),aa,ae ()];rfl
theorem Kc:∀{a b:LR9},a.9=b.9->(∀xs∈a,xs.9=m)->(∀xs∈b,xs.9=m)->(BH a b).flatten=List.zipWith (λu v=>u - v) a.flatten b.flatten
 | [],[],_,_,_=>rfl
 | x :: a,y :: b,h,ha,hb=>by
  have ih:=Kc (a:=a) (b:=b) (by simpa using h) (λz hz=>ha z (.tail _ hz)) (λz hz=>hb z (.tail _ hz));show (List.zipWith (λu v=>u - v) x y :: BH a b).flatten=_
  rw[dC,dC,dC,ih,mX (by rw[ha x (.head _),hb y (.head _)])]
theorem VJ (ha:∀xs∈a,xs.9=m) (hb:∀xs∈b,xs.9=m):∀xs∈BH a b,xs.9=m:=λxs hx=>by
 unfold BH at hx;obtain i|hi|rfl:=aX hx;rw[cW,aZ,ha _ (aF _),hb _ (aF _),eF]
theorem OG (h:a.9=b.9):(BH a b).9=a.9:=by unfold BH;rw[aZ,h,eF]
theorem EI (la:a.9=T) (lb:b.9=T) (ha:∀xs∈a,xs.9=m) (hb:∀xs∈b,xs.9=m) (hk:k < T*m):(BH a b).reverse.flatten.getD k 0=a.reverse.flatten.getD k 0 - b.reverse.flatten.getD k 0:=by
 have ha':∀xs∈a.reverse,xs.9=m:=λxs hx=>ha xs (dZ.mp hx)
 have hb':∀xs∈b.reverse,xs.9=m:=λxs hx=>hb xs (dZ.mp hx)
 have e:(BH a b).reverse=BH a.reverse b.reverse:=by
  unfold BH;exact List.reverse_zipWith (by rw[la,lb])
 have l1:a.reverse.flatten.9=T*m:=by rw[AR ha',bT,la]
 have l2:b.reverse.flatten.9=T*m:=by rw[AR hb',bT,lb]
 rw[e,Kc (by rw[bT,bT,la,lb]) ha' hb',Dt (by rw[l1,l2]) ()]
theorem GN (D:eU mv pt lk) (ls:st.9=mv.9) (lg:go.9=mv.9) (lp:pus.9=T) (wp:∀xs∈pus,xs.9=pt.9) (h1:qi mv pt st pus T=go) (ly:y.9=mv.9):bJ y (cL mv T st go)=bF (T*pt.9) λk=>pus.reverse.flatten.getD k 0*bJ ((kry mv pt T).getD k []) y:=by
 have ll:=oE (T:=T) ls lg;have wT:=dX (mv:=mv) (pt:=pt) rfl D.pw T;have kl:=gM (mv:=mv) (pt:=pt) T;have f:=yL (pus:=pus) (st:=st) D ls T () wp;rw[h1,aE ()] at f;rw[cQ (),ly]
 have q:∀c,c < mv.9->y.getD c 0*(cL mv T st go).getD c 0=bF (kry mv pt T).9 λi=>pus.reverse.flatten.getD i 0*(bV (kry mv pt T) i c*y.getD c 0):=λc hc=>by
  have e:(cL mv T st go).getD c 0=bF (kry mv pt T).9 λi=>pus.reverse.flatten.getD i 0*bV (kry mv pt T) i c:=by
   unfold cL;rw[Dt (by rw[lg,jf ls]) (),f c hc];grind
  rw[e,<- cF];exact aN λi _=>by grind
 rw[aN q,fN,kl];refine aN λi hi=>?_
 rw[cF,EH wT () ly]
theorem RE (hl:wT.9=rows.9) (hk:k < rows.9):(IV rows wT x).getD k 0=bJ (rows.getD k []) x / wT.getD k 0:=by
 unfold IV tS;rw[aa,bp,aB,ae hk,ae (show k < wT.9 by lia),aa (l:=rows),ae hk,aa (l:=wT),ae (show k < wT.9 by lia)];rfl
theorem Dx (hl:wT.9=rows.9):(IV rows wT x).9=rows.9:=by unfold IV tS;rw[aZ,ag,hl,eF]
theorem NA (lw:ws.9=pt.9):jl mv pt ws T x=Ae (IV (kry mv pt T) (kD ws T) x) T T pt.9:=by
 unfold jl Ae;rw[fY,List.replicate_zero,cV,List.map_reverse];congr 1;have lt:∀T,(kD ws T).9=(kry mv pt T).9:=λT=>by rw[nk,gM,lw]
 have fl:∀T:Nat,((Bl mv pt T).map λrows=>tS ws (rows.map λr=>bJ r x)).flatten=IV (kry mv pt T) (kD ws T) x:=by
  intro T
  induction T with
  | zero=>rfl
  | succ T ih =>
   have e7:kD ws (T+1)=kD ws T++ws:=by unfold kD;rw[rT,fA];simp
   rw[yS,cO,fA,ih,GS,e7];unfold IV tS;rw[cO,mX (by rw[ag,lt T])];simp
 have wl:(IV (kry mv pt T) (kD ws T) x).9=T*pt.9:=by rw[Dx (lt T),gM]
 refine GV (m:=pt.9) (by unfold Bl Ia;rw[ag,ag,ag]) (λz hz=>?_) (λz hz=>?_) (by rw[fl,wV wl])
 ·unfold Bl at hz;obtain R|hR|rfl:=aA.mp hz;obtain t|_|rfl:=aA.mp hR;unfold tS;rw[aZ,ag,ag,lw,eF]
 ·exact RX (T:=T) wl z (by unfold Ae;exact bB _ (dZ.mpr hz))
theorem kL:(jl mv pt ws T x).9=T:=by unfold jl Bl;rw[ag,bT,ag,bU]
theorem vZ (lw:ws.9=pt.9):∀xs∈jl mv pt ws T x,xs.9=pt.9:=λxs hx=>by
 unfold jl Bl at hx;obtain R|hR|rfl:=aA.mp hx;obtain t|_|rfl:=aA.mp (dZ.mp hR);unfold tS;rw[aZ,ag,ag,lw,eF]
theorem Gv (lw:ws.9=pt.9):(jl mv pt ws T x).reverse.flatten=IV (kry mv pt T) (kD ws T) x:=by
 rw[NA lw];unfold Ae;rw[fY,List.replicate_zero,cV,lK,wV (by rw[Dx (by rw[nk,gM,lw]),gM])]
theorem CO (D:eU mv pt lk) (ls:st.9=mv.9) (lg:go.9=mv.9) (lw:ws.9=pt.9) (h:Ur (kry mv pt T) (kD ws T) mv.9 (cL mv T st go) x):qi mv pt st (jl mv pt ws T x) T=go:=by
 have kl:=gM (mv:=mv) (pt:=pt) T;have lt:(kD ws T).9=(kry mv pt T).9:=by rw[nk,kl,lw]
 have wk:=dX (mv:=mv) (pt:=pt) rfl D.pw T;rw[NA lw];refine JS D ls lg (ah _) (Dx lt) ?_;have wl:(Pf (kry mv pt T) (IV (kry mv pt T) (kD ws T) x) mv.9).9=mv.9:=MQ;refine Ey (by rw[wl,h.2.1]) λc hc=>?_
 rw[wl] at hc;rw[yJ hc,Dx lt];obtain ⟨e,ee⟩:∃e:List Rat,e=(List.range mv.9).map λj=>if j=c then (1:Rat) else 0:=#[_,rfl]
 have le:e.9=mv.9:=by rw[ee,ag,bU]
 have ea:∀j,j < mv.9->e.getD j 0=if j=c then 1 else 0:=λj hj=>by rw[ee,aa,aB,cB hj];rfl
 have s:=h.2.2 e le;rw[cQ (by rw[le,h.2.1]),le,iQ hc λj hj ne=>by rw[ea j hj,if_neg ne,j9],ea c hc,if_pos rfl,rP] at s;rw[s];refine aN λk hk=>?_
 rw[RE lt hk,EH wk hk le,iQ hc λj hj ne=>by rw[ea j hj,if_neg ne,eC],ea c hc,if_pos rfl,rQ];rw[iB,iB];grind
theorem QW (D:eU mv pt lk) (ls:st.9=mv.9) (lg:go.9=mv.9) (lw:ws.9=pt.9) (hp:∀w∈ws,0 < w) (h:Ur (kry mv pt T) (kD ws T) mv.9 (cL mv T st go) x) (lp:pus.9=T) (wp:∀xs∈pus,xs.9=pt.9) (h1:qi mv pt st pus T=go):BG ws pus=bJ x (cL mv T st go)+BG ws (BH pus (jl mv pt ws T x)):=by
 have kl:=gM (mv:=mv) (pt:=pt) T;have lt:(kD ws T).9=(kry mv pt T).9:=by rw[nk,kl,lw]
 have wq:∀xs∈pus,xs.9=ws.9:=λxs hx=>by rw[lw];exact wp xs hx
 have wt:=vZ (mv:=mv) (T:=T) (x:=x) lw;have lt2:=kL (mv:=mv) (pt:=pt) (ws:=ws) (T:=T) (x:=x);have d1:=GN D ls lg lp wp h1 h.1;have d2:=GN D ls lg lt2 wt (CO D ls lg lw h) h.1;rw[Gv lw] at d2;have wd:=VJ wp wt
 have uw:∀k,k < T*pt.9->bJ ((kry mv pt T).getD k []) x=(kD ws T).getD k 0*(IV (kry mv pt T) (kD ws T) x).getD k 0:=λk hk=>by
  have w0:(kD ws T).getD k 0≠0:=λz=>by
   have:=Ke (ws:=kD ws T) (λw h=>hp w (zb h)) (k:=k) ();rw[z] at this;exact absurd this ()
  rw[RE lt (),di,kd w0]
 rw[aN λk hk=>by rw[uw k hk]] at d1 d2;rw[JJ lp wq,JJ (T:=T) (by rw[OG (by rw[lp,lt2]),lp]) (λxs hx=>by rw[lw];exact wd xs hx),lw];have e3:(λk=>(kD ws T).getD k 0*((BH pus (jl mv pt ws T x)).reverse.flatten.getD k 0*(BH pus (jl mv pt ws T x)).reverse.flatten.getD k 0))=λk=>(kD ws T).getD k 0*((BH pus (jl mv pt ws T x)).reverse.flatten.getD k 0*(BH pus (jl mv pt ws T x)).reverse.flatten.getD k 0):=rfl
 have e4:(bF (T*pt.9) λk=>(kD ws T).getD k 0*((BH pus (jl mv pt ws T x)).reverse.flatten.getD k 0*(BH pus (jl mv pt ws T x)).reverse.flatten.getD k 0))=bF (T*pt.9) λk=>((kD ws T).getD k 0*(pus.reverse.flatten.getD k 0*pus.reverse.flatten.getD k 0)+(IV (kry mv pt T) (kD ws T) x).getD k 0*((kD ws T).getD k 0*(IV (kry mv pt T) (kD ws T) x).getD k 0))+(-1)*(pus.reverse.flatten.getD k 0*((kD ws T).getD k 0*(IV (kry mv pt T) (kD ws T) x).getD k 0)+pus.reverse.flatten.getD k 0*((kD ws T).getD k 0*(IV (kry mv pt T) (kD ws T) x).getD k 0)):=aN λk hk=>by
  rw[EI lp lt2 wp wt hk,Gv lw];grind
 rw[e4,mK,mK,cF,mK];grind
theorem QU (la:a.9=T) (lb:b.9=T) (ha:∀xs∈a,xs.9=ws.9) (hb:∀xs∈b,xs.9=ws.9) (hp:∀w∈ws,0 < w):BG ws (BH a b)=0↔a=b:=by
 have wd:=VJ ha hb;rw[JJ (T:=T) (by rw[OG (by rw[la,lb]),la]) wd];have pw:∀k,k < T*ws.9->0 < (kD ws T).getD k 0:=λk hk=>Ke (λw h=>hp w (zb h)) (by rw[nk];exact hk)
 constructor
 ·intro z
  have nn:∀k,k < T*ws.9->0<=(kD ws T).getD k 0*((BH a b).reverse.flatten.getD k 0*(BH a b).reverse.flatten.getD k 0):=λk hk=>by
   exact o7 (Rat.le_of_lt (pw k hk)) U3
  have zz:=DG _ nn z;have ha':∀xs∈a.reverse,xs.9=ws.9:=λxs hx=>ha xs (dZ.mp hx)
  have hb':∀xs∈b.reverse,xs.9=ws.9:=λxs hx=>hb xs (dZ.mp hx)
  have l1:a.reverse.flatten.9=T*ws.9:=by rw[AR ha',bT,la]
  have l2:b.reverse.flatten.9=T*ws.9:=by rw[AR hb',bT,lb]
  have ef:a.reverse.flatten=b.reverse.flatten:=Ey (by rw[l1,l2]) λk hk=>by
   have hk:k < T*ws.9:=()
   have:=zz k hk;rcases jc.mp this with q | q
   ·have:=pw k hk;rw[q] at this;exact absurd this ()
   ·have q:(BH a b).reverse.flatten.getD k 0=0:=by rcases jc.mp q with q | q <;> exact q
    rw[EI la lb ha hb hk] at q;grind
  have:=GV (m:=ws.9) (by rw[bT,bT,la,lb]) ha' hb' ef;rw[<- lK a,this,lK]
 ·rintro rfl;exact cZ λk hk=>by rw[EI la lb ha hb hk];grind
end
def Su (ws:List Rat) (rows:LR9):Prop:=∃M A N B:Nat,0 < M/\0 < N/\1<=A/\1<=B/\(∀w∈ws,Tp M A w)/\(∀xs∈rows,∀x∈xs,Tp N B x)/\M*(N*N)<=2^3900000/\1024*(A*(B*B))<=2^3900000/\ws.9<=8/\rows.9<=20
theorem DA {M W:Nat}:∀{l:List Rat},(∀x∈l,Tp M W x)->Tp M (l.9*W) l.sum
 | [],_=>by rw[List.length_nil,Nat.zero_mul];exact Tp.zero
 | x :: l,h=>by
  rw[List.sum_cons,a8,dm,yY];exact (h x (.head _)).add (DA λy hy=>h y (.tail _ hy))
theorem IX (h1:∀x∈xs,Tp M A x) (h2:∀y∈ys,Tp N B y):Tp (M*N) (xs.9*(A*B)) (bJ xs ys):=by
 unfold bJ
 have t:=DA (M:=M*N) (W:=A*B) (l:=List.zipWith (λx y=>x*y) xs ys) λz hz=>by
  obtain i|hi|e:=aX hz;rw[cW] at e;rw[<- e];exact (h1 _ (aF _)).mul (h2 _ (aF _))
 exact t.mono (ay _ (by rw[aZ];lia))
theorem Su.num (h:Su ws rows) (hx:xs∈rows) (hx':x∈xs) (hw:w∈ws):i5 x/\i5 w/\i5 (x*x)/\i5 (w*(x*x)):=by
 obtain M|A|N|B|M0|N0|A1|B1|h1|h2|b1|b2|_|_:=h;have up:∀{k:Nat},k<=2^3900000->k<=2^3995000:=λh=>af h (p2 ())
 generalize (2:Nat)^3900000=P at b1 b2 up;have n1:N*N<=M*(N*N):=ck _ M0;have n2:N<=N*N:=ck _ N0;have m1:M<=M*(N*N):=cJ _ (aM N0 N0);have a1:B*B<=A*(B*B):=ck _ A1;have a2:B<=B*B:=ck _ B1;have a3:A<=A*(B*B):=cJ _ (aM B1 B1);have tx:=h2 xs hx x hx';have tw:=h1 w hw;exact #[jV tx N0 (up ()) (up ()),jV tw M0 (up ()) (up ()),jV (tx.mul tx) (aM N0 N0) (up ()) (up ()),jV (tw.mul (tx.mul tx)) (aM M0 (aM N0 N0)) (up ()) (up ())]
theorem Su.take (h:Su ws rows) (i k:Nat) (xs:List Rat) (hx:xs∈rows):i5 (BG ws (rows.take i)+bJ (ws.take k) ((lF xs).take k)):=by
 obtain M|A|N|B|M0|N0|A1|B1|h1|h2|b1|b2|l1|l2:=h
 have ts:∀ys∈rows,∀z∈lF ys,Tp (N*N) (B*B) z:=λys hy z hz=>by
  obtain y|hy'|rfl:=aA.mp hz;exact (h2 ys hy y hy').mul (h2 ys hy y hy')
 have t1:=DA (M:=M*(N*N)) (W:=8*(A*(B*B))) (l:=(rows.take i).map λxs=>bJ ws (lF xs)) λz hz=>by
  obtain ys|hy|rfl:=aA.mp hz;exact (IX h1 (ts ys (bN hy))).mono (ay _ l1)
 have t2:=IX (xs:=ws.take k) (ys:=(lF xs).take k) (λw hw=>h1 w (bN hw)) (λz hz=>ts xs hx z (bN hz));have e1:((rows.take i).map λxs=>bJ ws (lF xs)).9*(8*(A*(B*B)))<=20*(8*(A*(B*B))):=ay _ (by rw[ag,bY];lia);have e2:(ws.take k).9*(A*(B*B))<=8*(A*(B*B)):=ay _ (by rw[bY];lia);have up:∀{k:Nat},k<=2^3900000->k<=2^3995000:=λh=>af h (p2 ())
 generalize (2:Nat)^3900000=P at b1 b2 up;exact jV ((t1.mono e1).add (t2.mono e2)) (aM M0 (aM N0 N0)) (up ()) (up ())
inductive M5 (K:FG9) (vs:List V) (H:Hp) (Q:VK) (E9:XK):Prop
 | mk (p q:Addr) (ws:List Rat) (rows:LR9) (H0:Hp):vs=[.ref p,.ref q]->bK K H p ws->bu K H0 H q rows->(∀xs∈rows,xs.9=ws.9)->Su ws rows->(∀r H',aH H H'->bO K H' (BG ws rows) (.ref r)->Q (.ref r) H')->M5 K vs H Q E9
theorem O3.le (h:O3 mv pt T) (hu:u<=T):O3 mv pt u:=by
 obtain M1|M2|V|a1|a2|c|X|z:=h;have e1:a1*(u+1)<=a1*(T+1):=au _ ();have e2:c*(u+2)<=c*(T+2):=au _ ();exact #[M1,M2,V,a1,a2,c,X,()]
theorem QV:BG ws (rows++[xs])=BG ws rows+bJ ws (lF xs):=by
 unfold BG;rw[cO,rX];simp [ke]
def GB (ν p:Nat) (rows:LR9):Prop:=∃N:Nat,0 < N/\N<=2^ν/\∀xs∈rows,∀x∈xs,Fr N (2^p) x
section
variable {M1 M2 V a1 a2 c B ν p ν' p' T w m:Nat}
theorem GB.szn (h:GB ν p a) (h1:ν+p<=3900000):∀xs∈a,∀x∈xs,i5 x:=λxs hx x hx'=>by
 obtain N|N0|Nb|f:=h;exact jV (Tp.of (f xs hx x hx') (W:=2^(p+ν)) (by rw[ax];exact au _ Nb)) N0 (af Nb (p2 ())) (p2 ())
theorem Ue (h:GB ν p rows) (h1:ν+p<=1000*90) (l8:ws.9<=4) (l20:rows.9<=20) (hw:∀w∈ws,0 < w/\Dr 1000 w):Su ws rows:=by
 obtain N|N0|Nb|f:=h;obtain M|M0|Mb|g:=uK (c:=10) (l:=ws) (λx hx=>#[af (hw x hx).2.1 (),af (hw x hx).2.2 ()]) ();have Mb:M<=2^42:=af Mb (p2 ());refine #[M,2^64,N,2^(p+ν),M0,N0,b8,b8,λw h=>Tp.of (g w h) ?_,λxs hx x hx'=>Tp.of (f xs hx x hx') (by rw[ax];exact au _ Nb),?_,?_,(),l20]
 ·rw[show 64=22+42 from rfl,ax];exact au _ Mb
 ·refine af (aw Mb (aw Nb Nb)) ?_;rw[<- ax,<- ax];exact p2 ()
 ·rw[show 1024=2^10 from rfl,<- ax,<- ax,<- ax];exact p2 ()
theorem Bd.upA (X:Bd mv pt M1 M2 V a1 a2 c) (h1:a1<=a1') (h2:a2<=a2') (h3:c<=c'):Bd mv pt M1 M2 V a1' a2' c':=#[X.m1,X.m2,af X.b1 (p2 h1),af X.b2 (p2 h2),X.gm,X.gp,af X.vc (p2 h3)]
theorem Nn (R:Rg mv pt w) (D:eU mv pt lk) (S:StP mv pt T):∃M1 M2 V a1 a2 c b1 b2,Us mv pt w T M1 M2 V a1 a2 c b1 b2/\a1<=80/\a2<=160/\c<=33/\b1<=525:=by
 have i4:=D.i4;have n8:=D.n8;have small:w<=9->∀l:List Rat,(∀x∈l,Dr (max w 6) x)->∃B,0 < B/\6∣B/\(∀x∈l,Fr B (2^22) x)/\(l.9<=2*mv.9+T*pt.9->B<=2^12)/\(l.9<=2*mv.9+2*(T*pt.9)->B<=2^12):=λw9 l h=>#[2520,(),(),λx hx=>(OD #[af (h x hx).1 (),af (h x hx).2 ()] (yX _)).mono (),λ_=>(),λ_=>()]
 have wide:w=1000->∀t,T*pt.9<=t->mv.9<=2->∀l:List Rat,(∀x∈l,Dr (max w 6) x)->∃B,0 < B/\6∣B/\(∀x∈l,Fr B (2^22) x)/\(l.9<=2*mv.9+T*pt.9->B<=2^(45+10*t))/\(l.9<=2*mv.9+2*(T*pt.9)->B<=2^(45+20*t)):=λw9 t ht n2 l h=>by
  obtain B|h0|h1|h2:=uK (c:=10) (l:=l) (λx hx=>#[af (h x hx).1 (by rw[w9];decide),af (h x hx).2 (by rw[w9];decide)]) ()
  have up:∀k,3+(10*l.9+2)<=k->6*B<=2^k:=λk hk=>by
   refine af ?_ (ak () hk);rw[ax 2 3];exact aw () h1
  exact #[6*B,(),lE _ _,λx hx=>(h2 x hx).scaleL 6,λhl=>up _ (),λhl=>up _ ()]
 rcases R with ⟨w9,X⟩ | ⟨w9,n5,X⟩ | ⟨w9,n2,M1,M2,X⟩
 ·exact #[_,_,_,_,_,_,12,12,#[X,kB (n':=8) (T':=12) (b':=12) n8 S.1 (ah _) (),vO (n':=8) (T':=12) (b':=12) n8 S.1 (ah _) (),kB (n':=8) (T':=12) (b':=12) n8 S.1 (ah _) (),small w9],(),(),(),()]
 ·exact #[_,_,_,_,_,_,12,12,#[X,kB (n':=5) (T':=12) (b':=12) n5 S.1 (ah _) (),vO (n':=5) (T':=12) (b':=12) n5 S.1 (ah _) (),kB (n':=5) (T':=12) (b':=12) n5 S.1 (ah _) (),small w9],(),(),(),()]
 ·by_cases T3:T<=3
  ·have m:T*pt.9<=3*4:=aw T3 i4;exact #[_,_,_,_,_,_,165,285,#[X,kB (n':=2) (T':=3) (b':=165) n2 T3 (ah _) (),vO (n':=2) (T':=3) (b':=165) n2 T3 (ah _) (),kB (n':=2) (T':=3) (b':=285) n2 T3 (ah _) (),wide w9 12 m n2],(),(),(),()]
  ·obtain ⟨T12,z | ⟨hd,_⟩⟩:=S
   ·exact absurd z T3
   have m:T*pt.9<=12*4:=aw T12 i4
   have gf:∀l:LR9,(∀xs∈l,xs∈mv++pt)->GF 2520 1000 l:=λl hl xs hx x hx'=>by
    have:=hd xs (hl xs hx) x hx';exact (Fr.own x (dn this.2)).dvd (K6 this.1)
   have X2:Bd mv pt 2520 2520 1000 12 12 13:=#[(),(),(),(),gf mv λxs hx=>av.mpr (.inl hx),gf pt λxs hx=>av.mpr (.inr hx),af (ay _ (show mv.9+4<=6 by lia)) ()];exact #[_,_,_,_,_,_,525,1005,#[X2,kB (n':=2) (T':=12) (b':=525) n2 T12 (ah _) (),vO (n':=2) (T':=12) (b':=525) n2 T12 (ah _) (),kB (n':=2) (T':=12) (b':=1005) n2 T12 (ah _) (),wide w9 48 m n2],(),(),(),()]
end
section
variable {X:Cx} {tg l:Expr} {tl:TE}
def Og (K:FG9) (tl:TE):TI:=λσ H R=>tl σ H λx H1=>∃a,x=.ref a/\((∃xs,bC K H1 a xs)/\R (RD K a) H1\/(∃xs,j8 K H1 a xs)/\R (RC K a) H1)
theorem TJ (hl:PE X l tl):PI X tg l (Og X.K tl):=by
 intro pins s σ H R I h;refine iI (hl pins s σ H _ I h) λv s1 #[x,H1,I1,r1,q1]=>?_
 obtain a|e|q1:=q1;subst e;cases r1;rcases q1 with ⟨⟨xs,hq⟩,q⟩ | ⟨⟨xs,hq⟩,q⟩
 ·obtain its|rv|p|hz:=I1.list hq;refine wpAny_pyIter_list p.isList ?_;refine #[s1.6,[s1.6],_,_,H1,rfl,I1.kept (t':=s1.toks) λb o e=>Heap.get?_push_of_some _ e,Cs a _,#[_,Heap.get?_push_size _ rfl,rfl,rfl],λb hb=>?_,q];have e:b=s1.6:=by simpa using hb
  subst e;exact I1.fpOk (ah _) (I1.hok.fresh (ah _))
 ·obtain its|rv|p|hz:=I1.tuple hq;refine wpAny_pyIter_tuple (show s1.heap.IsTuple a its.toArray from p) ?_;refine #[s1.6,[s1.6],_,_,H1,rfl,I1.kept (t':=s1.toks) λb o e=>Heap.get?_push_of_some _ e,zf a _,#[_,Heap.get?_push_size _ rfl,rfl,rfl],λb hb=>?_,q];have e:b=s1.6:=by simpa using hb
  subst e;exact I1.fpOk (ah _) (I1.hok.fresh (ah _))
end
section
variable {X:Cx} {pins:List (Addr×Obj)} {σ:St} {H:Hp} {s:Shared} {A:Around} {E:Value->Shared->Prop} {Q:Value->Shared->Prop} {b:Bool} {tp:Addr} {dd:Option Addr} {its:List Value} {n:Nat} {sl:Array (Option Value)}
theorem JB (I:Inv X pins σ H s) (rx:RelV x u) (ty:vL X.K H x t) (htp:s.heap.get? tp=some #[.type "tuple",dd,.seq its.toArray n,sl]) (e:PySem.W.kitAny X.K t its=some b) (h:∀tk,Q (.bool b) { s with toks:=tk }) :
  wpAny (model X.prog X.w) A (call (.builtin "isinstance") [u,.ref tp]) Q E s:=by
 cases ty with
 | non=>cases (show u=Value.none from rx);exact dQ PySem.W.kitx_none I.kIn True.intro htp e (λz=>nomatch z) h
 | bl y=>cases (show u=Value.bool y from rx);exact dQ PySem.W.kitx_bool I.kIn True.intro htp e (λz=>nomatch z) h
 | int i=>obtain t|q:=(show ∃t,u=Value.int i t from rx);cases q;exact dQ PySem.W.kitx_int I.kIn True.intro htp e (λz=>nomatch z) h
 | str y=>obtain t|q:=(show ∃t,u=Value.str y t from rx);cases q;exact dQ PySem.W.kitx_str I.kIn True.intro htp e (λz=>nomatch z) h
 | flt y=>obtain t|q:=(show ∃t,u=Value.float y t from rx);cases q;exact dQ PySem.W.kitx_float I.kIn True.intro htp e (λz=>nomatch z) h
 | @lst a xs ea =>
  cases (show u=Value.ref a from rx);obtain _|_|n|_|h1:=(show iw X.prog X.w H s.heap a (.lst xs) from I.hok a _ ea);exact dQ xc I.kIn #[_,h1,rfl] htp e (λz=>nomatch z) h
 | @frz a ob xs ea =>
  cases (show u=Value.ref a from rx);obtain _|_|_|n|_|h1:=(show iw X.prog X.w H s.heap a (.frz ob (.lst xs)) from I.hok a _ ea);exact dQ xc I.kIn #[_,h1,rfl] htp e (λz=>nomatch z) h
 | @tup a xs ea =>
  cases (show u=Value.ref a from rx);obtain _|_|_|p:=(show iw X.prog X.w H s.heap a (.tup xs) from I.hok a _ ea);obtain o|h1|h2|_:=p;exact dQ uZ I.kIn #[o,h1,h2] htp e (λz=>nomatch z) h
 | @dK a kvs ea =>
  cases (show u=Value.ref a from rx);obtain _|_|vs|_|p:=(show iw X.prog X.w H s.heap a (.dK kvs) from I.hok a _ ea);obtain o|es|ep|h1|h2|_:=p;exact dQ xf I.kIn #[o,h1,h2.1] htp e (λz=>nomatch z) h
 | @dT a kvs ea =>
  cases (show u=Value.ref a from rx);obtain _|_|xs|_|o|es|ep|h1|h2|_:=(show iw X.prog X.w H s.heap a (.dT kvs) from I.hok a _ ea);exact dQ xf I.kIn #[o,h1,h2.1] htp e (λz=>nomatch z) h
 | @ins a C dx fs ea cl ha hn htk hm =>
  cases (show u=Value.ref a from rx);obtain mA|O|_:=wM I.hok ea;obtain od|J|_:=O.look;exact dQ (PySem.W.kitx_own (cl.get _) cl.hd ha hn htk hm) I.kIn J htp e (λz=>nomatch z) h
def Vn (K:FG9):List V->Hp->VK->Prop:=λvs H Q=>∃x tp,vs=[x,.ref tp]/\H tp=some (.tup [.ty "list",.ty "tuple"])/\((∃t b,vL K H x t/\PySem.W.kitAny K t [.type "list",.type "tuple"]=some b/\Q (.bl b) H)\/∃a xs,x=.ref a/\j8 K H a xs/\Q (.bl true) H)
theorem Mo:o5 X (.builtin "isinstance") (Vn X.K):=by
 intro pins s σ H vs us Q I r h;obtain x|tp|rfl|et|q1:=h;obtain u|v|rfl|ru|rv:=vals2 r;cases rv;obtain _|its|rits|o|ho|hoc|n|hod:=(show iw X.prog X.w H s.heap tp (.tup [.ty "list",.ty "tuple"]) from I.hok tp _ et);obtain oc|od|dt|sl:=o
 dsimp only at hoc hod
 subst hoc hod
 obtain rfl:its=[.type "list",.type "tuple"]:=by
  cases rits with
  | cons a r=>cases r with
   | cons a2 r2=>cases r2;cases a;cases a2;rfl
 rcases q1 with ⟨t,b,ty,ek,q⟩ | ⟨ad,xs,rfl,hs,q⟩
 ·exact JB I ru ty ho ek λtk=>#[.bl b,H,I.tok tk,rfl,q]
 ·cases ru;obtain _|_|⟨o,g1,g2,_⟩|_:=I.tuple hs;exact dQ uZ I.kIn #[o,g1,g2] ho (b:=true) rfl (λz=>nomatch z) λtk=>#[.bl true,H,I.tok tk,rfl,q]
end
inductive Ed where
 | fl (v:V)
 | row (qs:List Rat)
 | grid (rs:LR9)
def O1 (K:FG9) (H0 H:Hp):Ed->V->Prop
 | .fl v,x=>x=v
 | .row qs,x=>∃p,x=.ref p/\H0 p=none/\bK K H p qs
 | .grid rs,x=>∃p,x=.ref p/\H0 p=none/\bu K H0 H p rs
section
variable {K:FG9} {g:TG}
theorem C7 {F:Hp->α->V->Prop} (G:Hp->β->V->Prop) (f:α->β) (hx:j8 K H a xs) (pf:Paired (F H) as xs) (hl:as.9<=1000)
  (hF:∀{H H' c x},F H c x->aH H H'->F H' c x) (hG:∀{H H' c x},G H c x->aH H H'->G H' c x)
  (hs:∀(i:Nat) c x H' NY NN,as[i]?=some c->aH H H'->F H' c x->(∀y H2,aH H' H2->G H2 (f c) y->NY y H2)->rH σ₀ g tf te x H' NY NN)
  (hd:∀ys H' p,H p=none->aH H H'->H' p=some (.lst ys)->Paired (G H') (as.map f) ys->(∃H2,H2 p=none/\Paired (G H2) (as.map f) ys)->Q (.ref p) H'):rO (RC K a) σ₀ g tf te Q H:=by
 have lx:=pf.9;refine OR (K:=K) (xs:=xs) (λi ys H'=>aH H H'/\Paired (G H') ((as.take i).map f) ys) mR #[aH.refl _,.nil] (λi ys H' _ #[s,_]=>s.sqt hx) ?_ ?_
 ·rintro i x ys H' hx' hlen ⟨s,pr⟩;obtain c|ec|hc:=bW pf hx';refine hs i c x H' _ _ ec s (hF hc s) λy H2 s2 gy=>#[s.trans s2,?_]
  rw[take_snoc ec,cO];exact bM (Paired.imp' (λ_ _ z=>hG z s2) pr) (.cons gy .nil)
 ·rintro ys H' hy ⟨s,pr⟩ p hp;rw[aE ()] at pr;exact hd ys _ p (s.none hp) (s.trans (aH.new hp)) aK (Paired.imp' (λ_ _ z=>hG z (aH.new hp)) pr) #[H',hp,pr]
end
def Kp (S:Addr->Prop) (H H':Hp):Prop:=∀a o,H a=some o->(¬S a\/∀zs,o≠.lst zs)->H' a=some o
section
variable {K:FG9} {S S':Addr->Prop} {H H' H'':Hp} {p:Addr} {q:Rat} {qs:List Rat} {x:V}
theorem Kp.of (s:aH H H'):Kp S H H':=λa o h _=>s a o h
theorem Kp.mono (h:Kp S H H') (hs:∀a,S a->S' a):Kp S' H H':=λa o e c=>h a o e (c.elim (λn=>.inl λz=>n (hs a z)) .inr)
theorem Kp.trans (h:Kp S H H') (h':Kp S H' H''):Kp S H H'':=λa o e c=>h' a o (h a o e c) c
theorem Kp.upd {ys:List V} {o:HO} (hl:H p=some (.lst ys)) (hS:S p):Kp S H (upd H p o):=λa o' e c=>by
 by_cases z:a=p
 ·subst z;rw[hl] at e;cases e;exact c.elim (λn=>absurd hS n) λn=>absurd rfl (n ys)
 ·rw[bG z];exact e
theorem Kp.sqt (h:Kp S H H') (s:j8 K H a xs):j8 K H' a xs:=by
 rcases s with (e | ⟨o,e⟩) | e
 ·exact .inl (.inl (h _ _ e (.inr λ_ z=>nomatch z)))
 ·exact .inl (.inr #[o,h _ _ e (.inr λ_ z=>nomatch z)])
 ·exact .inr e
theorem Kp.numR (h:Kp S H H') (m:xa K H x n):xa K H' x n:=by obtain p|e|s:=m;exact #[p,e,h.sqt s]
theorem Kp.num (h:Kp S H H') (n:bO K H q x):bO K H' q x:=by obtain p|e|s:=n;exact #[p,e,h.sqt s]
theorem Kp.row (h:Kp S H H') (n:¬S p) (r:bK K H p qs):bK K H' p qs:=by
 obtain xs|g|pr:=r;exact #[xs,h _ _ g (.inl n),Paired.imp' (λ_ _ z=>h.num z) pr]
end
def MF (K:FG9) (W:Addr->Prop) (H:Hp):Ed->V->Prop
 | .fl v,x=>x=v
 | .row qs,x=>∃p,x=.ref p/\W p/\bK K H p qs
 | .grid rs,x=>∃p us,x=.ref p/\W p/\H p=some (.lst us)/\V.ref p∉us/\Paired (λqs v=>∃q,v=V.ref q/\W q/\bK K H q qs) rs us
theorem MF.kp {K:FG9} (h:MF K W H d x) (k:Kp S H H') (n:∀a,W a->¬S a):MF K W H' d x:=by
 cases d with
 | fl v=>exact h
 | row qs=>obtain p|a|b|c:=h;exact #[p,a,b,k.row (n p b) c]
 | grid rs =>
  obtain p|us|a|b|c|d|e:=h;exact #[p,us,a,b,k _ _ c (.inl (n p b)),d,Paired.imp' (λ_ _ #[q,a,b,c]=>#[q,a,b,k.row (n q b) c]) e]
theorem O1.elW {K:FG9} (h:O1 K H0 Hf d x) (s:aH Hf H):MF K (λa=>H0 a=none/\Hf a≠none) H d x:=by
 cases d with
 | fl v=>exact h
 | row qs =>
  obtain p|a|b|c:=h;exact #[p,a,#[b,by obtain _|g|_:=c;rw[g];exact λz=>nomatch z],c.same s]
 | grid rs =>
  obtain p|a|b|us|c|d|e:=h;exact #[p,us,a,#[b,by rw[c];exact λz=>nomatch z],s _ _ c,e,Paired.imp' (λ_ _ #[q,a,b,c]=>#[q,a,#[b,by obtain _|g|_:=c;rw[g];exact λz=>nomatch z],c.same s]) d]
structure Ww (mv pt:LR9) (ws:List Rat) (T:Nat) (due:List Rat) (N X:Nat):Prop where
 lw:ws.9=pt.9
 wp:∀w∈ws,0 < w/\i5 w
 ad:O3 mv pt T
 t40:T<=20
 rk:∀xs∈kry mv pt T,IK xs/\∀x∈xs,i5 x
 rc:∀ys∈cv (kry mv pt T) mv.9,IK ys/\IK (tS (kD ws T) ys)
 sw:∃w,Dm (c8 (oM (kry mv pt T) (kD ws T) mv.9) due) (mv.9+1) w
 sb:∃w,Dm (DF (oM (kry mv pt T) (kD ws T) mv.9) mv.9 due) (mv.9+1) w
 ok:∀R ps,bS (c8 (oM (kry mv pt T) (kD ws T) mv.9) due) (mv.9+1) R ps->mv.9∉ps->∀y∈iG R ps mv.9,Tp N X y
 n0:0 < N
 nb:N<=2^3900000
 xb:X<=2^3900000
 rd:IK due
 pz:∀xs∈kry mv pt T,∀x:List Rat,x.9=mv.9->(∀y∈x,Tp N X y)->i5 (bJ xs x)
def Rv (mv pt:LR9) (ws:List Rat) (T:Nat) (due pr:List Rat):Prop:=∃R ps,bS (c8 (oM (kry mv pt T) (kD ws T) mv.9) due) (mv.9+1) R ps/\mv.9∉ps/\pr=iG R ps mv.9
theorem Rv.uniq (h:Rv mv pt ws T due p) (h':Rv mv pt ws T due p'):p=p':=by
 obtain R|ps|r|_|e:=h;obtain R'|ps'|r'|_|e':=h';obtain a|b:=bS.uniq r r' (λ_ hi=>eY.row hi) (λ_ hi=>eY.row hi);subst a;subst b;rw[e,e']
theorem Qj (wp:∀xs∈pt,xs.9=mv.9) (lL:L.9=mv.9) (hu:u<=T) (lw:ws.9=(kry mv pt u).9) (e:Pf (kry mv pt u) ws mv.9=L):Rch mv pt T L:=λpr lpr h2=>by
 obtain Z|eZ:=AK (mv:=mv) (pt:=pt) (u:=u) (T - u);rw[show u+(T - u)=T by lia] at eZ;rw[cQ (),lpr];have wu:=dX (mv:=mv) rfl wp u
 have e1:(bF mv.9 λc=>pr.getD c 0*L.getD c 0)=bF ws.9 λi=>ws.getD i 0*bF mv.9 λc=>bV (kry mv pt u) i c*pr.getD c 0:=by
  have q:∀c,c < mv.9->pr.getD c 0*L.getD c 0=bF ws.9 λi=>ws.getD i 0*(bV (kry mv pt u) i c*pr.getD c 0):=λc hc=>by
   rw[<- e,yJ hc,<- cF];exact aN λi _=>by grind
  rw[aN q,fN];exact aN λi _=>cF
 rw[e1];refine cZ λi hi=>?_
 ·rw[lw] at hi;have w1:=wu _ (aF hi);have:=h2 _ (by rw[eZ];exact dM _ (aF hi));rw[cQ (),w1] at this
  have q:(bF mv.9 λc=>bV (kry mv pt u) i c*pr.getD c 0)=0:=by
   refine Eq.trans (aN λc _=>?_) this;unfold bV;rw[aa (l:=kry mv pt u),ae hi];rfl
  rw[q,eC]
inductive MZ (K:FG9) (vs:List V) (H:Hp) (Q:VK) (E9:XK):Prop
 | mk (p q:Addr) (n w w':Nat) (H0:Hp) (rows:LR9) (row:List Rat):vs=[.ref p,.int n,.ref q]->bu K H0 H p rows->bK K H q row->row.9=n->rows.9<=90->n<=90->(∀xs∈rows,xs.9=n)->Dm (c8 (cv rows n) row) (rows.9+1) w->Dm (c8 (rows++[row]) (List.replicate rows.9 0++[1])) (n+1) w'->(∀R ps,bS (c8 (cv rows n) row) (rows.9+1) R ps->rows.9∈ps)->(∀t x R' ps' H',bS (c8 (rows++[row]) (List.replicate rows.9 0++[1])) (n+1) R' ps'->n∉ps'->H' t=some (.tup [.str (Str.ofString "out"),.ref x])->H x=none->aH H H'->bK K H' x (iG R' ps' n)->Q (.ref t) H')->MZ K vs H Q E9
section
variable {M1 M2 V a1 a2 c T0 n0 b B u T E:Nat}
theorem QI (X:Bd mv pt M1 M2 V a1 a2 c) (D:eU mv pt lk) (Z:Z65 n0 a1 a2 c T0 b) (zB:(n0+1)*(Bi a1 a2 c T0+Mz a1 a2 T0 b+Lj a1 a2 c T0 b+Kd a1 a2 T0+1+4)<=8900000) (hn:mv.9<=n0) (hu:u<=T0+1) (lw:ws.9=pt.9) (hw:∀w∈ws,0 < w/\Dr 1000 w) (E0:0 < E) (hE:E<=2^Mz a1 a2 T0 b):∃q:Nat,0 < q/\q<=2^zQ n0 a1 a2 c T0/\∀go:List Rat,go.9=mv.9->(∀x∈go,Fr E (2^(c*T0+26)) x)->Ww mv pt ws u go (E*q) (2^UC n0 a1 a2 c T0 b):=by
 obtain n8|t14|z1|z2|z3|z4|z5|z6|z7|z8|z9:=Z;have i4:=D.i4;have kl:=gM (mv:=mv) (pt:=pt) u;have kl2:u*pt.9<=15*4:=aw () i4;have wk:=dX (mv:=mv) (pt:=pt) rfl D.pw u;have lwt:(kD ws u).9=(kry mv pt u).9:=by rw[nk,kl,lw]
 have hk:=Vt X D hu
 obtain Bw|b0|b1|hB:=uK (c:=10) (l:=ws.map λw=>1 / w) (λx hx=>by
  obtain w|h|rfl:=aA.mp hx;have:=Oc (hw w h).1 (hw w h).2;exact #[af this.1 (),af this.2 ()]) ()
 have b1:Bw<=2^42:=af b1 (p2 (by rw[ag,lw];lia));obtain ⟨D1,eD⟩:∃d,M1^T0*M2=d:=#[_,rfl];rw[eD] at hk;have D10:0 < D1:=by rw[<- eD];exact aM (df X.m1) X.m2
 have D1b:D1<=2^MI a1 a2 T0:=by rw[<- eD];exact gi X.b1 X.b2
 obtain ⟨Vk,eV⟩:∃v,2^(c*(T0+1))=v:=#[_,rfl];rw[eV] at hk;have V1:1<=Vk:=by rw[<- eV];exact b8
 obtain f1|f2:=TZ (n:=mv.9) wk lwt () hk (λw h=>hB _ (aA.mpr #[w,zb h,rfl]));obtain ⟨Dl,eL⟩:∃d,D1*(D1*Bw)=d:=#[_,rfl];rw[eL] at f2;have L0:0 < Dl:=by rw[<- eL];exact aM D10 (aM D10 b0)
 have Lb:Dl<=2^Kd a1 a2 T0:=by
  rw[<- eL,show Kd a1 a2 T0=MI a1 a2 T0+(MI a1 a2 T0+42) by unfold Kd;lia,ax,ax];exact aw D1b (aw D1b b1)
 have tk:∀xs∈oM (kry mv pt u) (kD ws u) mv.9,∀x∈xs,Tp Dl (2^Bi a1 a2 c T0) x:=λxs hx x hx'=>by
  refine Tp.of (f2 xs hx x hx') ?_;rw[<- eV,show Bi a1 a2 c T0=6+(c*(T0+1)+(c*(T0+1)+22))+Kd a1 a2 T0 by unfold Bi;lia,ax 2 (6+_),ax 2 6,ax 2 (c*(T0+1)),ax 2 (c*(T0+1))];exact au _ Lb
 have SW:∀m:Nat,m<=mv.9->m*(Bi a1 a2 c T0+4)<=8900000:=λm hm=>af (by rw[bQ];exact au _ (af hm hn)) z1
 obtain ⟨G,eG⟩:∃g,oM (kry mv pt u) (kD ws u) mv.9=g:=#[_,rfl];have lG:G.9=mv.9:=by rw[<- eG];exact rj
 have wG:∀xs∈G,xs.9=mv.9:=by rw[<- eG];exact wJ
 have tt:cv (cv G mv.9) mv.9=G:=by
  have:=Cr wG;rwa [lG] at this
 rw[eG] at tk;have lt:(cv G mv.9).9=mv.9:=cy;have tkt:∀xs∈cv G mv.9,∀x∈xs,Tp Dl (2^Bi a1 a2 c T0) x:=zg λxs hx=>#[wG xs hx,tk xs hx]
 obtain q|q0|qb|hq:=Pw (K0:=cv G mv.9) (n:=mv.9) (D:=Dl) (wl:=Bi a1 a2 c T0) (λxs hx=>by rw[ie xs hx,lG]) () L0 tkt #[Bi a1 a2 c T0,Dl,2^Bi a1 a2 c T0,L0,af Lb (p2 ()),b8,ah _,by rw[tt];exact tk,(),by rw[tt,lG,lt];lia,by rw[tt,lG,lt];exact SW _ ()];rw[tt,lt] at hq;have Qm:(Bi a1 a2 c T0+4)*mv.9<=zQ n0 a1 a2 c T0:=au _ hn;have qb:q<=2^zQ n0 a1 a2 c T0:=af qb (p2 Qm);refine #[q,q0,qb,λgo lg hg=>?_];have Nb:E*q<=2^(Mz a1 a2 T0 b+zQ n0 a1 a2 c T0):=by rw[ax];exact aw hE qb
 have N0:0 < E*q:=aM E0 q0
 have tg:∀x∈go,Tp E (2^Lj a1 a2 c T0 b) x:=λx hx=>Tp.of (hg x hx) (by
  rw[show Lj a1 a2 c T0 b=c*T0+26+Mz a1 a2 T0 b from rfl,ax 2 (c*T0+26)];exact au _ hE)
 have up:∀{a b:Nat},a<=b->(2:Nat)^a<=2^b:=p2;have rk:∀xs∈kry mv pt u,∀x∈xs,Tp D1 (2^(c*(T0+1)+MI a1 a2 T0)) x:=λxs hx x hx'=>Tp.of (hk xs hx x hx') (by rw[<- eV,ax];exact au _ D1b)
 refine #[lw,λw h=>#[(hw w h).1,?_],#[M1,M2,V,a1,a2,c,X,?_],(),λxs hx=>#[zZ D10 (af D1b (up ())) (up ()) (rk xs hx),λx hx'=>jV (rk xs hx x hx') D10 (af D1b (up ())) (up ())],λys hy=>#[?_,?_],?_,?_,λR ps RR hn'=>?_,N0,af Nb (up ()),up (),zZ E0 (af hE (up ())) (up ()) tg,λxs hx x lx hx'=>?_]
 ·exact jV (Tp.of (Fr.own w (hw w h).2.1) (ah _)) w.den_pos (af (hw w h).2.2 (af (show 1000<=2^10 by decide) (up ()))) (af (aw (ah _) (hw w h).2.2) (af (show 1000*1000<=2^20 by decide) (up ())))
 ·have e1:a1*(u+1)<=a1*(T0+2):=au _ ();have e2:c*(u+2)<=c*(T0+3):=au _ ()
  lia
 ·exact zZ D10 (af D1b (up ())) (W:=2^(c*(T0+1)+MI a1 a2 T0)) (up ()) λy hy'=>Tp.of ((f1 ys hy).1 y hy') (by rw[<- eV,ax];exact au _ D1b)
 ·have e1:D1*Bw<=2^(MI a1 a2 T0+42):=by rw[ax];exact aw D1b b1
  refine zZ (aM D10 b0) (af e1 (up ?_)) (W:=2^(c*(T0+1)+22+(MI a1 a2 T0+42))) (up ?_) λy hy'=>Tp.of ((f1 ys hy).2 y hy') ?_
  ·unfold Bi Kd at z2;lia
  ·unfold Bi Kd at z2;lia
  ·rw[<- eV,ax 2 (_+22),ax 2 (c*(T0+1))];exact au _ e1
 ·rw[eG];obtain ⟨w,ew⟩:∃w,Bi a1 a2 c T0+Mz a1 a2 T0 b+Lj a1 a2 c T0 b+Kd a1 a2 T0+1=w:=#[_,rfl];have hj:go.9=G.9:=by rw[lg,lG]
  have c1:2^Bi a1 a2 c T0*E<=2^(w - 1):=af (au _ hE) (by rw[<- ax];exact up ());have c2:2^Lj a1 a2 c T0 b*Dl<=2^(w - 1):=af (au _ Lb) (by rw[<- ax];exact up ());refine #[w,Dl*E,2^w,aM L0 E0,af (aw Lb hE) (by rw[<- ax];exact up ()),b8,ah _,λxs hx x hx'=>?_,(),by rw[lU hj,lG];lia,by rw[lU hj,lG];exact af (aw (show min mv.9 (mv.9+1)<=n0 by lia) ()) z4];unfold c8 at hx;obtain i|hi|rfl:=aX hx;rw[cW] at hx';rcases av.mp hx' with z | z
  ·exact (tk _ (aF _) x z).up E (af c1 (up ()))
  ·rw[bh.mp z,bQ Dl E];exact (tg _ (aF _)).up Dl (af c2 (up ()))
 ·rw[eG];obtain ⟨w,ew⟩:∃w,Bi a1 a2 c T0+Mz a1 a2 T0 b+Lj a1 a2 c T0 b+Kd a1 a2 T0+1=w:=#[_,rfl];rw[ew] at zB;have c1:2^Bi a1 a2 c T0*E<=2^(w - 1):=af (au _ hE) (by rw[<- ax];exact up ());have c2:2^Lj a1 a2 c T0 b*Dl<=2^(w - 1):=af (au _ Lb) (by rw[<- ax];exact up ());have DE:Dl*E<=2^w:=af (aw Lb hE) (by rw[<- ax];exact up ());have hd:(List.replicate mv.9 (0:Rat)++[1]).9=(cv G mv.9++[go]).9:=by rw[aj,aj,aV,cy];rfl
  have lj:(DF G mv.9 go).9=mv.9+1:=by
   unfold DF;rw[lU hd,aj,cy];rfl
  refine #[w,Dl*E,2^w,aM L0 E0,af (aw Lb hE) (by rw[<- ax];exact up ()),b8,ah _,λxs hx x hx'=>?_,(),by rw[lj];lia,by rw[lj];exact af (aw (show min (mv.9+1) (mv.9+1)<=n0+1 by lia) (ah _)) zB];unfold DF c8 at hx;obtain i|hi|rfl:=aX hx;rw[cW] at hx';rcases av.mp hx' with z | z
  ·rcases av.mp (aF (l:=cv G mv.9++[go]) (n:=i) (by rw[aZ] at hi;lia)) with y | y
   ·exact (tkt _ y x z).up E (af c1 (up ()))
   ·rw[bh.mp y] at z;rw[bQ Dl E];exact (tg _ z).up Dl (af c2 (up ()))
  ·rw[bh.mp z];rcases av.mp (aF (l:=List.replicate mv.9 (0:Rat)++[1]) (n:=i) (by rw[aZ] at hi;lia)) with y | y
   ·rw[jr y];exact Tp.zero
   ·rw[bh.mp y];exact #[((Dl*E:Nat):Int),by rw[rP,aI],by rw[bx];exact DE]
 ·rw[eG] at RR;refine λy hy=>(hq E _ go R ps E0 lg tg RR hn' y hy).mono ?_
  rw[show UC n0 a1 a2 c T0 b=Kd a1 a2 T0+(3+(Lj a1 a2 c T0 b+(zQ n0 a1 a2 c T0 - Bi a1 a2 c T0))) by unfold UC;lia,ax,ax 2 3,ax 2 (Lj a1 a2 c T0 b)];exact aw Lb (aw (show mv.9<=2^3 by lia) (au _ (up ())))
 ·have t:=Tp.sum (k:=mv.9) (M:=D1*(E*q)) (W:=2^(c*(T0+1)+MI a1 a2 T0)*2^UC n0 a1 a2 c T0 b) (f:=λj=>xs.getD j 0*x.getD j 0) λj _=>(jd (rk xs hx) j).mul (jd hx' j)
  rw[cQ (by rw[wk xs hx,lx]),wk xs hx];refine jV t (aM D10 N0) (af (aw D1b Nb) (by rw[<- ax];exact up ())) ?_;rw[<- ax];refine af (ay _ (show mv.9<=2^3 by lia)) ?_;rw[<- ax];exact up ()
end
section
variable {mv pt lk:LR9} {st go:List Rat} {M1 M2 V a1 a2 c B b g T u w b1 b2:Nat}
def GoB (mv pt:LR9) (M1 M2 c b1 T:Nat) (st go:List Rat):Prop:=∃B,0 < B/\B<=2^b1/\(∀x∈st,Fr B (2^22) x)/\∀x∈go,Fr (M1^T*(M2*B)) (2^(c*T+23)) x
theorem Us.gob (U:Us mv pt w T M1 M2 V a1 a2 c b1 b2) (D:eU mv pt lk) (ls:st.9=mv.9) (lg:go.9=mv.9) (hs:∀x∈st,Dr (max w 6) x) (hT:T'<=T) (hg:V9 mv pt T' w st go):GoB mv pt M1 M2 c b1 T st go:=by
 have up:2^(c*T+22)+1<=2^(c*T+23):=by
  rw[show c*T+23=1+(c*T+22) by lia,ax 2 1];have:0 < 2^(c*T+22):=df ()
  lia
 rcases hg with hg | ⟨pus,hp,hg⟩
 ·obtain B|h0|h6|h|h1|_:=U.dr (st++go) λx hx=>(av.mp hx).elim (hs x) (hg x)
  exact #[B,h0,h1 (by rw[aj,ls,lg];lia),λx hx=>h x (dM _ hx),λx hx=>Fr.up (h x (bB _ hx)) (d9 (bP _ _) (bP _ _)) (ak () ())]
 ·obtain B|h0|h6|h|h1|_:=U.dr (st++pus.flatten) λx hx=>by
   rcases av.mp hx with hx | hx
   ·exact hs x hx
   ·obtain xs|m1|m2:=eI.mp hx;exact (hp.2 xs m1).2 x m2
  have hm:T'*pt.9<=T*pt.9:=ay _ hT
  have h1:=h1 (by
   rw[aj,uJ λxs hx=>(hp.2 xs hx).1,hp.1,ls]
   lia)
  have f1:∀x∈st,Fr B (2^22) x:=λx hx=>h x (dM _ hx)
  have f2:∀xs∈pus,∀x∈xs,Fr B (2^22) x:=λxs hx x hx'=>h x (bB _ (eI.mpr #[xs,hx,hx']))
  have fe0:=(U.bd.end D ls hp.1 (λxs hx=>(hp.2 xs hx).1) h0 h1 f1 f2 (kB (ah _) hT (ah _) (UN U.z1))).2 T' (ah _);have fe:∀x∈qi mv pt st pus T',Fr (M1^T*(M2*B)) (2^(c*T+22)) x:=λx hx=>Fr.up (fe0 x hx) (qh (Bf _ hT) _) (ak () (Nat.add_le_add_right (au _ hT) _))
  refine #[B,h0,h1,f1,λx hx=>?_];rcases hg with rfl | ⟨a,v,v3,rfl⟩
  ·exact (fe x hx).mono ()
  ·rcases cx hx with hx | rfl
   ·exact (fe x hx).mono ()
   ·have u1:Fr (M1^T*(M2*B)) 1 (Ph v):=(RH v3).dvd (d9 h6 (d9 (bP _ _) (bP _ _)))
    have u2:Fr (M1^T*(M2*B)) (2^(c*T+22)) ((qi mv pt st pus T').getD a 0):=by
     rw[aa];cases h:(qi mv pt st pus T')[a]? with
     | none=>exact Fr.zero
     | some y=>exact fe y (ar h)
    exact (u2.add u1).mono up
end
inductive A8 where
 | fl (v:V)
 | nm (q:Rat)
 | row (qs:List Rat)
 | grid (rs:LR9)
 | inn (e:Rat) (rs:LR9) (qs:List Rat)
def A8.lv:A8->Nat
 | .fl _=>0
 | .nm _=>1
 | .row _=>2
 | .grid _=>3
 | .inn _ _ _=>4
def A8.ok:A8->Prop
 | .fl v=>pY v=true
 | .nm _=>True
 | .row qs=>qs.9<=100
 | .grid rs=>rs.9<=100/\∀qs∈rs,qs.9<=100
 | .inn _ rs qs=>(rs.9<=100/\∀qs∈rs,qs.9<=100)/\qs.9<=100
def A7 (K:FG9) (H0 H:Hp):A8->V->Prop
 | .fl v,x=>x=v
 | .nm q,x=>bO K H q x
 | .row qs,x=>∃p,x=.ref p/\H0 p=none/\bK K H p qs
 | .grid rs,x=>∃p,x=.ref p/\H0 p=none/\bu K H0 H p rs
 | .inn e rs qs,x=>∃t a p y,x=.ref t/\H t=some (.tup [.str (Str.ofString "puts"),.ref a,.ref p,.ref y])/\bO K H e (.ref a)/\(H0 p=none/\bu K H0 H p rs)/\H0 y=none/\bK K H y qs
theorem A7.same {K:FG9} (h:A7 K H0 H d x) (s:aH H H'):A7 K H0 H' d x:=by
 cases d with
 | fl v=>exact h
 | nm q=>exact bO.same h s
 | row qs=>obtain p|a|b|c:=h;exact #[p,a,b,c.same s]
 | grid rs=>obtain p|a|b|c:=h;exact #[p,a,b,c.same s]
 | inn e rs qs=>obtain t|a|p|y|e|g|n|⟨b,c⟩|d|r:=h;exact #[t,a,p,y,e,s _ _ g,n.same s,#[b,c.same s],d,r.same s]
def xo (K:FG9) (n:Nat):Sp:=match n with
 | 0=>λ_ _ _ _=>False
 | i+1=>λvs H Q _=>∃x,vs=[x] /\
  ((pY x=true/\∀H',aH H H'->Q x H')
  \/ (1<=i/\∃q,bO K H q x/\∀r H',aH H H'->bO K H' q (.ref r)->Q (.ref r) H')
  \/ (2<=i/\∃p qs,x=.ref p/\bK K H p qs/\qs.9<=100/\∀r H',H r=none->aH H H'->bK K H' r qs->Q (.ref r) H')
  \/ (3<=i/\∃p H0 rs,x=.ref p/\bu K H0 H p rs/\rs.9<=100/\(∀qs∈rs,qs.9<=100)/\∀r H',H r=none->aH H H'->bu K H H' r rs->Q (.ref r) H')
  \/ (∃m,m+1<=i/\∃t xs H0 ds,x=.ref t/\j8 K H t xs/\Paired (A7 K H0 H) ds xs/\ds.9<=10/\(∀d∈ds,A8.ok d/\A8.lv d<=m)/\∀r ys H',aH H H'->H' r=some (.tup ys)->Paired (A7 K H H') ds ys->Q (.ref r) H'))
theorem Qr {α:Type} {R:α->V->Prop} {a b c d:α} {us:List V} (h:Paired R [a,b,c,d] us):∃x y z w,us=[x,y,z,w]/\R a x/\R b y/\R c z/\R d w:=by
 cases h with
 | cons h1 h=>cases h with
  | cons h2 h=>cases h with
   | cons h3 h=>cases h with
    | cons h4 h=>cases h;exact #[_,_,_,_,rfl,h1,h2,h3,h4]
def My (K:FG9) (W:Addr->Prop) (H:Hp):A8->V->Prop
 | .fl v,x=>x=v
 | .nm q,x=>bO K H q x
 | .row qs,x=>MF K W H (.row qs) x
 | .grid rs,x=>MF K W H (.grid rs) x
 | .inn e rs qs,x=>∃(t a p y:Addr) (W1 W2:Addr->Prop),x=.ref t/\H t=some (.tup [.str (Str.ofString "puts"),.ref a,.ref p,.ref y])/\bO K H e (.ref a)/\(∀a,W1 a->W a)/\(∀a,W2 a->W a)/\(∀a,W2 a->¬W1 a)/\MF K W1 H (.grid rs) (.ref p)/\MF K W2 H (.row qs) (.ref y)
theorem My.kp {K:FG9} (h:My K W H d x) (k:Kp S H H') (n:∀a,W a->¬S a):My K W H' d x:=by
 cases d with
 | fl v=>exact h
 | nm q=>exact k.num h
 | row qs=>exact MF.kp (d:=.row qs) h k n
 | grid rs=>exact MF.kp (d:=.grid rs) h k n
 | inn e rs qs =>
  obtain t|a|p|y|W1|W2|e1|g|ne|u1|u2|dj|h1|h2:=h;exact #[t,a,p,y,W1,W2,e1,k _ _ g (.inr λ_ z=>nomatch z),k.num ne,u1,u2,dj,MF.kp h1 k λa z=>n a (u1 a z),MF.kp h2 k λa z=>n a (u2 a z)]
def vg (K:FG9) (n:Nat):Sp:=match n with
 | 0=>λ_ _ _ _=>False
 | i+1=>λvs H Q _=>∃x,vs=[x] /\
  ((pY x=true/\∀H',aH H H'->Q .non H')
  \/ (1<=i/\∃n,xa K H x n/\∀H',aH H H'->Q .non H')
  \/ (2<=i/\∃p zs,x=.ref p/\H p=some (.lst zs)/\zs.9<=500/\(∀z∈zs,∃n,xa K H z n)/\∀t H',Kp (λa=>a=p) H H'->H' t=some (.tup [.int 7,.int 1])->H' p=some (.lst (zs++[.ref t]))->Q .non H')
  \/ (3<=i/\∃p us,x=.ref p/\H p=some (.lst us)/\us.9<=100/\V.ref p∉us/\(∀y∈us,∃q zs,y=.ref q/\H q=some (.lst zs)/\zs.9<=100/\∀z∈zs,∃n,xa K H z n)/\∀H',Kp (λa=>a=p\/V.ref a∈us) H H'->Q .non H')
  \/ (∃m,m+1<=i/\∃(t:Addr) (xs:List V) (ews:List (A8×(Addr->Prop))),x=.ref t/\j8 K H t xs/\Paired (λ(e:A8×(Addr->Prop)) v=>My K e.2 H e.1 v) ews xs/\ews.9<=10/\(∀e∈ews,A8.ok e.1/\A8.lv e.1<=m)/\(∀(i j:Nat) (e e':A8×(Addr->Prop)),i < j->ews[i]?=some e->ews[j]?=some e'->∀a,e'.2 a->¬e.2 a)/\∀H',Kp (λa=>∃e∈ews,e.2 a) H H'->Q .non H'))
section
variable {α β γ δ:Type} [DecidableEq α] [DecidableEq β] [DecidableEq γ] [DecidableEq δ] (k1:Kind α) (k2:Kind β) (k3:Kind γ) (k4:Kind δ)
theorem FH (r:cS [x1,x2,x3,x4] us):∃u1 u2 u3 u4,us=[u1,u2,u3,u4]/\RelV x1 u1/\RelV x2 u2/\RelV x3 u3/\RelV x4 u4:=by
 cases r with
 | cons a r =>
  cases r with
  | cons b r =>
   cases r with
   | cons c r =>
    cases r with
    | cons d r =>
     cases r;exact #[_,_,_,_,rfl,a,b,c,d]
def GW (a b:α×β×γ×δ) (j:Nat):Bool:=if j=0 then decide (a.1=b.1) else if j=1 then decide (a.2.1=b.2.1) else if j=2 then decide (a.2.2.1=b.2.2.1) else decide (a.2.2.2=b.2.2.2)
theorem xO {X:Cx} {pins:List (Addr×Obj)} {σ:St} {H:Hp} {s:Shared} {A:Around} (I:Inv X pins σ H s) (h1:A.units+k1.d < cLine) (h2:A.units+k2.d < cLine) (h3:A.units+k3.d < cLine) (h4:A.units+k4.d < cLine) {x1 x2 x3 x4 y1 y2 y3 y4:V} {us ws:List Value} {a b:α×β×γ×δ}
  (rx:cS [x1,x2,x3,x4] us) (ry:cS [y1,y2,y3,y4] ws) (a1:k1.R X.K H x1 a.1) (a2:k2.R X.K H x2 a.2.1) (a3:k3.R X.K H x3 a.2.2.1) (a4:k4.R X.K H x4 a.2.2.2) (b1:k1.R X.K H y1 b.1) (b2:k2.R X.K H y2 b.2.1) (b3:k3.R X.K H y3 b.2.2.1) (b4:k4.R X.K H y4 b.2.2.2) :
  ∀j (h1:j < us.5.7) (h2:j < ws.5.7),SeqAt.EqAt A s us.5[j] ws.5[j] (GW a b j):=λj l1 l2=>by
 obtain u1|u2|u3|u4|rfl|r1|r2|r3|r4:=FH rx;obtain w1|w2|w3|w4|rfl|q1|q2|q3|q4:=FH ry;have hj:j < 4:=by simpa using l1
 rcases (show j=0\/j=1\/j=2\/j=3 by lia) with rfl | rfl | rfl | rfl
 ·exact k1.eq (A:=A) I r1 q1 a1 b1 h1
 ·exact k2.eq (A:=A) I r2 q2 a2 b2 h2
 ·exact k3.eq (A:=A) I r3 q3 a3 b3 h3
 ·exact k4.eq (A:=A) I r4 q4 a4 b4 h4
theorem Fb {a b:α×β×γ×δ}:(List.range 4).all (GW a b)=decide (a=b):=by
 have e:List.range 4=[0,1,2,3]:=rfl;rw[e];simp only[IJ,List.all_nil,Bool.and_true];show (decide (a.1=b.1) && (decide (a.2.1=b.2.1) && (decide (a.2.2.1=b.2.2.1) && decide (a.2.2.2=b.2.2.2))))=_
 rw[<- Bh,<- Bh,<- Bh];exact decide_eq_decide.mpr #[λ#[h1,h2,h3,h4]=>Prod.ext h1 (Prod.ext h2 (Prod.ext h3 (h4))),λh=>by rw[h];exact #[rfl,rfl,rfl,rfl]]
def Vv:Kind (α×β×γ×δ) where
 R:=λK H x a=>∃p u1 u2 u3 u4,x=.ref p/\j8 K H p [u1,u2,u3,u4]/\k1.R K H u1 a.1/\k2.R K H u2 a.2.1/\k3.R K H u3 a.2.2.1/\k4.R K H u4 a.2.2.2
 d:=max k1.d (max k2.d (max k3.d (k4.d)))+1
 inj:=λ{X pins σ H s x a b} I h1 h2=>by
  obtain p|u1|u2|u3|u4|rfl|hp|a1|a2|a3|a4:=h1;obtain q|v1|v2|v3|v4|e|hq|b1|b2|b3|b4:=h2;cases e;have e:=I.tuple_inj hp hq;cases e;exact Prod.ext (k1.inj I a1 b1) (Prod.ext (k2.inj I a2 b2) (Prod.ext (k3.inj I a3 b3) (k4.inj I a4 b4)))
 rc:=λ{X pins σ H s x y v u a b A} I rx ry h1 h2 hA=>by
  obtain p|x1|x2|x3|x4|rfl|hp|a1|a2|a3|a4:=h1;obtain q|y1|y2|y3|y4|rfl|hq|b1|b2|b3|b4:=h2;cases rx;cases ry;obtain us|r1|t1|_:=I.tuple hp;obtain ws|r2|t2|_:=I.tuple hq;have l1:=r1.9;have l2:=r2.9;have z:=SeqAt.RcAt.tuples (A:=A) (e:=GW a b) (show s.heap.IsTuple p us.toArray from t1) (show s.heap.IsTuple q ws.toArray from t2) () (xO k1 k2 k3 k4 (A:=A.in1) I (by show A.units+1+k1.d < cLine;lia) (by show A.units+1+k2.d < cLine;lia) (by show A.units+1+k3.d < cLine;lia) (by show A.units+1+k4.d < cLine;lia)   r1 r2 a1 a2 a3 a4 b1 b2 b3 b4);have e1:us.5.7=4:=by rw[aG,<- l1];rfl
  have e2:ws.5.7=4:=by rw[aG,<- l2];rfl
  rw[e1,e2,eF,Fb] at z;simpa using z
 ne:=λ{X pins σ H s x y v u a b A} I rx ry h1 h2 hA=>by
  obtain p|x1|x2|x3|x4|rfl|hp|a1|a2|a3|a4:=h1;obtain q|y1|y2|y3|y4|rfl|hq|b1|b2|b3|b4:=h2;cases rx;cases ry;obtain us|r1|t1|_:=I.tuple hp;obtain ws|r2|t2|_:=I.tuple hq;have l1:=r1.9;have l2:=r2.9;have z:=SeqAt.RcNeAt.tuples (A:=A) (e:=GW a b) (show s.heap.IsTuple p us.toArray from t1) (show s.heap.IsTuple q ws.toArray from t2) () (xO k1 k2 k3 k4 (A:=A.in1) I (by show A.units+1+k1.d < cLine;lia) (by show A.units+1+k2.d < cLine;lia) (by show A.units+1+k3.d < cLine;lia) (by show A.units+1+k4.d < cLine;lia)   r1 r2 a1 a2 a3 a4 b1 b2 b3 b4);have e1:us.5.7=4:=by rw[aG,<- l1];rfl
  have e2:ws.5.7=4:=by rw[aG,<- l2];rfl
  rw[e1,e2,eF,Fb] at z;simpa using z
 eq:=λ{X pins σ H s x y v u a b A} I rx ry h1 h2 hA=>by
  obtain p|x1|x2|x3|x4|rfl|hp|a1|a2|a3|a4:=h1;obtain q|y1|y2|y3|y4|rfl|hq|b1|b2|b3|b4:=h2;cases rx;cases ry;by_cases e:p=q
  ·subst e;have e:=I.tuple_inj hp hq;cases e;have e2:a=b:=Prod.ext (k1.inj I a1 b1) (Prod.ext (k2.inj I a2 b2) (Prod.ext (k3.inj I a3 b3) (k4.inj I a4 b4)));rw[decide_eq_true e2];exact SeqAt.EqAt.same _
  ·obtain us|r1|t1|_:=I.tuple hp;obtain ws|r2|t2|_:=I.tuple hq;have l1:=r1.9;have l2:=r2.9;have z:=SeqAt.RcAt.tuples (A:=A) (e:=GW a b) (show s.heap.IsTuple p us.toArray from t1) (show s.heap.IsTuple q ws.toArray from t2) () (xO k1 k2 k3 k4 (A:=A.in1) I (by show A.units+1+k1.d < cLine;lia) (by show A.units+1+k2.d < cLine;lia) (by show A.units+1+k3.d < cLine;lia) (by show A.units+1+k4.d < cLine;lia)   r1 r2 a1 a2 a3 a4 b1 b2 b3 b4);have e1:us.5.7=4:=by rw[aG,<- l1];rfl
   have e2:ws.5.7=4:=by rw[aG,<- l2];rfl
   rw[e1,e2,eF,Fb] at z;exact .of_refs e (by simpa using z)
end
section
variable {st:List Rat} {w T M1 M2 V a1 a2 c b1 b2:Nat}
theorem Us.enf (U:Us mv pt w T M1 M2 V a1 a2 c b1 b2) (D:eU mv pt lk) (ls:st.9=mv.9) (hs:∀x∈st,Dr (max w 6) x) (hT:T'<=T) (hp:Wa pt T' w pus):Lg mv pt pus st:=by
 obtain B|h0|h6|h|h1|_:=U.dr (st++pus.flatten) λx hx=>by
  rcases av.mp hx with hx | hx
  ·exact hs x hx
  ·obtain xs|m1|m2:=eI.mp hx;exact (hp.2 xs m1).2 x m2
 have hm:T'*pt.9<=T*pt.9:=ay _ hT
 have h1:=h1 (by
  rw[aj,uJ λxs hx=>(hp.2 xs hx).1,hp.1,ls]
  lia)
 exact (U.bd.end D ls hp.1 (λxs hx=>(hp.2 xs hx).1) h0 h1 (λx hx=>h x (dM _ hx)) (λxs hx x hx'=>h x (bB _ (eI.mpr #[xs,hx,hx']))) (kB (ah _) hT (ah _) (UN U.z1))).1
end
theorem O1.kp {K:FG9} (h:O1 K H0 H d x) (k:Kp S H H') (n:∀a,H0 a=none->¬S a):O1 K H0 H' d x:=by
 cases d with
 | fl v=>exact h
 | row qs=>obtain p|a|b|c:=h;exact #[p,a,b,k.row (n p b) c]
 | grid rs =>
  obtain p|a|b|us|c|d|e:=h;exact #[p,a,b,us,k _ _ c (.inl (n p b)),Paired.imp' (λ_ _ #[q,a,b,c]=>#[q,a,b,k.row (n q b) c]) d,e]
theorem A7.kp {K:FG9} (h:A7 K H0 H d x) (k:Kp S H H') (n:∀a,H0 a=none->¬S a):A7 K H0 H' d x:=by
 cases d with
 | fl v=>exact h
 | nm q=>exact k.num h
 | row qs=>exact O1.kp (d:=.row qs) h k n
 | grid rs=>exact O1.kp (d:=.grid rs) h k n
 | inn e rs qs =>
  obtain t|a|p|y|e1|g|ne|h1|h2|h3:=h;obtain _|e2|h4:=O1.kp (H0:=H0) (d:=.grid rs) #[p,rfl,h1] k n;obtain _|e3|h5:=O1.kp (H0:=H0) (d:=.row qs) #[y,rfl,h2,h3] k n;cases e2;cases e3;exact #[t,a,p,y,e1,k _ _ g (.inr λ_ z=>nomatch z),k.num ne,h4,h5]
def VU (mv pt:LR9) (T u:Nat):Prop:=(∃R ps ps',bS (kry mv pt u) mv.9 R ps/\bS (kry mv pt T) mv.9 R ps')/\∀i,i < u->∀R ps ps',bS (kry mv pt i) mv.9 R ps->¬bS (kry mv pt T) mv.9 R ps'
section
variable {mv pt:LR9} {T u u':Nat} {L pr pr':List Rat} {Rs:List (LR9)}
theorem VU.uniq (h:VU mv pt T u) (h':VU mv pt T u'):u=u':=by
 obtain ⟨R,ps,ps2,a,b⟩|c:=h;obtain ⟨R',ps',ps2',a',b'⟩|c':=h';rcases lD u u' with h | h | h
 ·exact absurd b (c' u h _ _ _ a)
 ·exact h
 ·exact absurd b' (c u' h _ _ _ a')
theorem uy.lt (h:uy mv pt Rs):∀(k i:Nat) (R R':LR9),Rs[i]?=some R->Rs[i+1+k]?=some R'->R.9 < R'.9
 | 0,i,R,R',a,b=>h.up i R R' a b
 | k+1,i,R,R',a,b=>by
  have hk:i+1+k < Rs.9:=by have:=(aJ.mp b).1;lia
  have e:Rs[i+1+k]?=some Rs[i+1+k]:=ae hk;exact Nat.lt_trans (h.lt k i R _ a e) (h.up (i+1+k) _ R' e b)
theorem uy.cmu (h:uy mv pt Rs) (eR:Rs[u]?=some R) (RRT:bS (kry mv pt T) mv.9 R psT):VU mv pt T u:=by
 obtain ps|RRu:=h.rr u R eR;refine #[#[R,ps,psT,RRu,RRT],λi hi R1 ps1 ps2 a b=>?_];have hu:=(aJ.mp eR).1;have ei:Rs[i]?=some (Rs[i]'()):=ae ();obtain psi|RRi:=h.rr i _ ei;have lt:=h.lt (u - i - 1) i _ R ei (by rw[show i+1+(u - i - 1)=u by lia];exact eR);have e1:=(RRi.same a).1;have e2:=(RRT.same b).1;rw[e1,e2] at lt;exact ff _ lt
def UG (mv pt:LR9) (T:Nat) (L pr:List Rat):Prop:=∃u R' ps',VU mv pt T u/\bS (c8 (kry mv pt u++[L]) (List.replicate (kry mv pt u).9 0++[1])) (mv.9+1) R' ps'/\pr=iG R' ps' mv.9
theorem UG.uniq (h:UG mv pt T L pr) (h':UG mv pt T L pr'):pr=pr':=by
 obtain u|R2|ps2|a|c|rfl:=h;obtain u'|R2'|ps2'|a'|c'|rfl:=h';cases a.uniq a';obtain rfl|rfl:=c.same c';rfl
end
def Wq (mv pt:LR9) (ws:List Rat) (pus:LR9) (pr:List Rat):Prop:=∀s k,s < pus.9->k < pt.9->ws.getD k 0*(pus.reverse.getD s []).getD k 0=bJ (ia mv s (pt.getD k [])) pr
section
variable {mv pt lk pus:LR9} {ws st go pr x:List Rat} {M1 M2 V B T w s k:Nat}
theorem Oa:∀{T:Nat},s < T->k < pt.9->(kry mv pt T)[s*pt.9+k]?=some (ia mv s (pt.getD k []))
 | 0,h,_=>absurd h (dw _)
 | T+1,h,hk=>by
  rw[GS];have kl:=gM (mv:=mv) (pt:=pt) T;rcases bZ s T with z | z
  ·have:(s+1)*pt.9<=T*pt.9:=ay _ z;rw[dm] at this;rw[bA (),Oa z hk]
  ·obtain rfl:s=T:=()
   rw[a7 (),kl,VX,aB,aa,ae hk];rfl
theorem SG (lw:ws.9=pt.9) (hp:∀w∈ws,0 < w):Wq mv pt ws (jl mv pt ws T pr) pr:=λs k hs hk=>by
 rw[kL] at hs
 have e1:(jl mv pt ws T pr).reverse.getD s []=tS ws ((pt.map (ia mv s)).map λr=>bJ r pr):=by
  unfold jl Bl;rw[<- List.map_reverse,lK,aa,aB,aB,cB hs];rfl
 have e2:(tS ws ((pt.map (ia mv s)).map λr=>bJ r pr)).getD k 0=bJ (ia mv s (pt.getD k [])) pr / ws.getD k 0:=by
  unfold tS;rw[aa,bp,aB,aB,ae hk,ae (show k < ws.9 by lia),aa (l:=pt),ae hk,aa (l:=ws),ae (show k < ws.9 by lia)];rfl
 have p0:=hp _ (getD_in (l:=ws) (i:=k) (e:=0) ());have n0:ws.getD k 0≠0:=λz=>by rw[z] at p0;exact absurd p0 ()
 rw[e1,e2,di];exact kd n0
theorem S4 (hs:s < pus.9) (h:pus[pus.9 - 1 - s]?=some row):pus.reverse.getD s []=row:=by
 rw[aa,Bm hs,h];rfl
theorem SH (lp:pus.9=T):Wq mv pt ws pus pr↔∀t k,t < T->k < pt.9->ws.getD k 0*(pus.getD t []).getD k 0=bJ (ia mv (T - t - 1) (pt.getD k [])) pr:=by
 have e:∀t,t < T->pus.reverse.getD (T - t - 1) []=pus.getD t []:=λt ht=>by
  rw[S4 (row:=pus.getD t []) () (by rw[show pus.9 - 1 - (T - t - 1)=t by lia,aa,ae ()];rfl)]
 refine #[λh t k ht hk=>by rw[<- e t ht];exact h _ k () hk,λh s k hs hk=>?_];have:=h (T - s - 1) k () hk;rwa [<- e _ (),show T - (T - s - 1) - 1=s by lia] at this
structure Wr (mv pt:LR9) (ws:List Rat) (T:Nat) (pus:LR9) (pr:List Rat):Prop where
 lp:pus.9=T
 wp:∀xs∈pus,xs.9=pt.9
 lr:pr.9=mv.9
 sw:∀w∈ws,i5 w
 su:∀xs∈pus,∀x∈xs,i5 x
 dk:∀xs∈kry mv pt T,ye pr xs
structure IH (mv pt:LR9) (ws st go:List Rat) (T:Nat):Prop where
 cf:Cn mv pt st (List.replicate T (List.replicate pt.9 0))
 sg:∀x∈go,i5 x
 ls:∃N X,Ww mv pt ws T (cL mv T st go) N X/\∀x:List Rat,x.9=mv.9->(∀z∈x,Tp N X z)->Lg mv pt (jl mv pt ws T x) st/\Su ws (jl mv pt ws T x)/\Wr mv pt ws T (jl mv pt ws T x) x/\i5 (bJ x (cL mv T st go))/\∀z∈x,i5 z
 co:∃D W0 E W1,UJ mv pt (cL mv T st go) D W0 E W1/\∀(pr:List Rat) (q:Nat),pr.9=mv.9->0 < q->q<=(16*W0)^mv.9*(16*(W1+E))->(∀y∈pr,Tp q ((16*W0)^mv.9*(16*(W1+E))) y)->V6 mv pt T st go pr
 al:UK mv st T
 lw:∃S,V8 (kry mv pt T) mv.9 S
 lo:∃S,V8 (kry mv pt T++[cL mv T st go]) mv.9 S
theorem wL (X:Bd mv pt M1 M2 V 80 160 33) (D:eU mv pt lk) (t12:T<=12) (ls:st.9=mv.9) (lg:go.9=mv.9) (B0:0 < B) (Bb:B<=2^3300) (hs:∀x∈st,Fr B (2^430) x) (hg:∀x∈go,Fr (M1^T*(M2*B)) (2^(33*T+430)) x) (lw:ws.9=pt.9) (hw:∀w∈ws,0 < w/\Dr 1000 w):IH mv pt ws st go T:=by
 have n8:=D.n8;have d4:=D.i4;have Z':ZS mv.9 80 160 33 T 3300 430:=kB (n':=8) (T':=12) (b':=3300) n8 t12 (ah _) ();have P':ZP mv.9 80 160 33 T 3300 430:=vO (n':=8) (T':=12) (b':=3300) n8 t12 (ah _) ();have CT:=X.ctf D ls B0 Bb hs hg Z';have hN:M2*B<=2^(160+3300):=by rw[ax];exact aw X.b2 Bb
 have hl:=X.lack D ls hs hg;obtain ⟨E,eE⟩:∃E,M1^T*(M2*B)=E:=#[_,rfl];have E0:0 < E:=by rw[<- eE];exact aM (df X.m1) (aM X.m2 B0)
 have t80:80*T<=80*12:=au _ t12;have t33:33*T<=33*12:=au _ t12
 have Eb:E<=2^4420:=by
  rw[<- eE];exact af (gi X.b1 hN) (p2 ())
 rw[eE] at hl;have hl':∀x∈cL mv T st go,Fr E (2^(70*12+26)) x:=λx hx=>(hl x hx).mono (p2 ())
 have ll:=oE (T:=T) ls lg;have hE:E<=2^Mz 80 160 12 3600:=af Eb (p2 ());obtain q|q0|qb|hq:=QI (X.upA (ah _) (ah _) (show 33<=70 by decide)) D (show Z65 8 80 160 70 12 3600 by decide) () n8 (u:=T) () lw hw E0 hE;have LS:=hq _ ll hl'
 have Nb:E*q<=2^(4420+1000*33+72):=by
  rw[show 4420+1000*33+72=4420+(1000*33+72) from rfl,ax 2 4420];exact aw Eb (af qb (p2 ()))
 have N0:0 < E*q:=aM E0 q0;have wk:=dX (mv:=mv) (pt:=pt) rfl D.pw T;have hk:=Vt X D (u:=T) (T0:=12) ();obtain ⟨D1,eD⟩:∃d,M1^12*M2=d:=#[_,rfl];rw[eD] at hk;have D10:0 < D1:=by rw[<- eD];exact aM (df X.m1) X.m2
 have D1b:D1<=2^1120:=by rw[<- eD];exact gi X.b1 X.b2
 have ED:E*D1<=2^(4420+1120):=by rw[ax];exact aw Eb D1b
 refine #[CT.cf,CT.sg,#[_,_,LS,λx lx hpx=>?_],#[_,_,_,_,CT.co,λpr q lp q0 q1 tp=>(X.prf D ls B0 Bb hs hg Z' P' q0 q1 tp).1],#[M1,V,80,33,B,430,3300,X.m1,X.b1,X.gm,X.vc,B0,Bb,hs,()],#[_,Rn.lws (w:=33*13+1120) (a:=1120) #[D1,_,D10,D1b,b8,ah _,λxs hx x hx'=>Tp.of (hk xs hx x hx') (by rw[ax];exact au _ D1b),(),?_] wk],#[_,Rn.lws (w:=70*12+26+4420+1120) (a:=4420+1120) #[E*D1,_,aM E0 D10,by rw[ax];exact aw Eb D1b,b8,ah _,λxs hx x hx'=>?_,(),?_] (λxs hx=>(av.mp hx).elim (λh=>wk xs h) λh=>by rw[bh.mp h];exact ll)]]
 ·obtain Bw|b0|b1'|hB:=uK (c:=10) (l:=ws.map λw=>1 / w) (λx hx=>by
   obtain w|h|rfl:=aA.mp hx;have:=Oc (hw w h).1 (hw w h).2;exact #[af this.1 (),af this.2 ()]) ()
  have b1':Bw<=2^42:=af b1' (p2 (by rw[ag,lw];lia))
  have G:GB (1000*40) (1000*40) (jl mv pt ws T x):=by
   refine #[D1*(E*q)*Bw,aM (aM D10 N0) b0,?_,λxs hx z hz=>?_]
   ·refine af (aw (aw D1b Nb) b1') ?_;rw[<- ax,<- ax];exact p2 ()
   ·unfold jl at hx;obtain R|hR|rfl:=aA.mp hx;have hR:=dZ.mp hR;unfold tS at hz;obtain j|hj|rfl:=aX hz;rw[cW,qv,show ∀a b:Rat,a / b=a*(1 / b) from λa b=>by rw[iB,iB,rP]];have hj':j < R.9/\j < ws.9:=by rw[aZ,ag] at hj;lia
    have mr:R[j]'hj'.1∈kry mv pt T:=by rw[<- jS];exact eI.mpr #[R,hR,aF _]
    have t1:=(IX (M:=D1) (A:=2^(33*13)*D1) (λy hy=>Tp.of (hk _ mr y hy) (ah _)) hpx).mul (Tp.of (hB _ (aA.mpr #[ws[j]'hj'.2,aF _,rfl])) (ah _));refine (t1.fr (aM (aM D10 N0) b0)).mono ?_;rw[wk _ mr];refine af (aw (aw (show mv.9<=2^3 by lia) (aw (au _ D1b) (ah _))) (au _ b1')) ?_;rw[<- ax,<- ax,<- ax,<- ax,<- ax];exact p2 ()
  refine #[?_,Ue G () () (by rw[kL];lia) hw,#[kL,vZ lw,lx,λw hw'=>?_,G.szn (),λxs hx=>?_],?_,λz hz=>jV (hpx z hz) N0 (af Nb (p2 ())) (p2 ())]
  ·obtain N|N0|Nb|f:=G;refine #[M1,M2,V,80,160,33,M2*N*B,N,1000*40+430,160+1000*40+3300,X,aM (aM X.m2 N0) B0,?_,lE _ _,λx hx=>Fr.up (hs x hx) (bP _ _) (p2 ()),λxs hx x hx'=>(f xs hx x hx').mono (p2 ()),by rw[kL];lia,()];rw[ax,ax];exact aw (aw X.b2 Nb) Bb
  ·have:=(hw w hw').2;exact jV (Tp.of (Fr.own w this.1) (ah _)) w.den_pos (af this.2 (af (show 1000<=2^10 by decide) (p2 ()))) (af (aw (ah _) this.2) (af (show 1000*1000<=2^20 by decide) (p2 ())))
  rotate_left
  ·have t:=OE lx ll n8 hpx (f:=70*12+26+4420) (D:=E) λz hz=>Tp.of (hl' z hz) (by rw[ax 2 (70*12+26)];exact au _ Eb)
   exact jV t (aM N0 E0) (af (aw Nb Eb) (by rw[<- ax];exact p2 ())) (p2 ())
  ·exact #[1000*40,1000*40,1120,33*13,#[E*q,_,N0,af Nb (p2 ()),p2 (),λz hz=>(hpx z hz).fr N0],#[D1,2^(33*13),D10,D1b,ah _,hk xs hx],()]
 ·have:min (L2.kry mv pt T).9 mv.9*(33*13+1120+4)<=8*(33*13+1120+4):=ay _ ()
  lia
 ·rcases av.mp hx with hx | hx
  ·refine Tp.of (Fr.up (hk xs hx x hx') (bP _ _) (p2 (show 33*13<=70*12+26 by decide))) ?_;rw[show 70*12+26+4420+1120=70*12+26+(4420+1120) from rfl,ax 2 (70*12+26) (4420+1120)];exact au _ ED
  ·rw[bh.mp hx] at hx';refine Tp.of (Fr.up (hl' x hx') (lE _ _) (ah _)) ?_;rw[show 70*12+26+4420+1120=70*12+26+(4420+1120) from rfl,ax 2 (70*12+26) (4420+1120)];exact au _ ED
 ·have:min (L2.kry mv pt T++[cL mv T st go]).9 mv.9*(70*12+26+4420+1120+4)<=8*(70*12+26+4420+1120+4):=ay _ ()
  lia
theorem C0 (U:Us mv pt w T M1 M2 V a1 a2 c b1 b2) (ha1:a1<=80) (ha2:a2<=160) (hc:c<=33) (hb:b1<=525) (D:eU mv pt lk) (t12:T<=12) (ls:st.9=mv.9) (lg:go.9=mv.9) (lo:to.9=mv.9) (ds:∀x∈st,Dr (max w 6) x) (hg:V9 mv pt T w st go) (ho:V9 mv pt T w st to) (lw:ws.9=pt.9) (hw:∀w∈ws,0 < w/\Dr 1000 w) :
  IH mv pt ws st go T/\IH mv pt ws st to T/\IH mv pt ws to go T/\IH mv pt ws st st T:=by
 obtain B|B0|Bb|f1|fg:=U.gob D ls lg ds (ah T) hg;obtain B'|B0'|Bb'|f1'|fo:=U.gob D ls lo ds (ah T) ho;have X:=U.bd.upA ha1 ha2 hc;have cT:c*T<=33*T:=ay _ hc;have t33:33*T<=33*12:=au _ t12;have t80:80*T<=80*12:=au _ t12;have eb:∀{b:Nat},b<=2^b1->M1^T*(M2*b)<=2^1645:=λ{b} h=>af (gi (ν:=160+525) X.b1 (by rw[ax];exact aw X.b2 (af h (p2 hb)))) (p2 ())
 refine #[wL X D t12 ls lg B0 (af Bb (p2 ())) (λx hx=>(f1 x hx).mono (p2 ())) (λx hx=>(fg x hx).mono (p2 ())) lw hw,wL X D t12 ls lo B0' (af Bb' (p2 ())) (λx hx=>(f1' x hx).mono (p2 ())) (λx hx=>(fo x hx).mono (p2 ())) lw hw,wL (B:=M1^T*(M2*B')*(M1^T*(M2*B))) X D t12 lo lg (aM (aM (df X.m1) (aM X.m2 B0')) (aM (df X.m1) (aM X.m2 B0))) (af (aw (eb Bb') (eb Bb)) (by rw[<- ax];exact p2 ())) (λx hx=>Fr.up (fo x hx) (lE _ _) (p2 ())) (λx hx=>Fr.up (fg x hx) (d9 (d9 (bP _ _) (bP _ _)) (bP _ _)) (p2 ())) lw hw,wL X D t12 ls ls B0 (af Bb (p2 ())) (λx hx=>(f1 x hx).mono (p2 ())) (λx hx=>Fr.up (f1 x hx) (d9 (bP _ _) (bP _ _)) (p2 ())) lw hw]
end
inductive F0 (K:FG9) (C:Addr) (vs:List V) (H:Hp) (Q:VK) (E9:XK):Prop
 | mk (x s g:Addr) (T a c D W0 E W1:Nat) (H0:Hp) (mv pt lk:LR9) (st go:List Rat):vs=[.ref x,.ref s,.ref g,.int T]->T<=20->mS K H0 H C x mv pt lk->eU mv pt lk->Ld mv pt lk->uO mv pt a c->O3 mv pt T->bK K H s st->st.9=mv.9->bK K H g go->go.9=mv.9->Cn mv pt st (List.replicate T (List.replicate pt.9 0))->(∀x∈go,i5 x)->UJ mv pt (cL mv T st go) D W0 E W1->¬Rch mv pt T (cL mv T st go)->(∀t p pr q H',H' t=some (.tup [.str (Str.ofString "never"),.ref p])->H p=none->aH H H'->bK K H' p pr->pr.9=mv.9->(∀xs∈kry mv pt T,bJ xs pr=0)->bJ pr (cL mv T st go)=1->UG mv pt T (cL mv T st go) pr->0 < q->q<=(16*W0)^mv.9*(16*(W1+E))->(∀y∈pr,Tp q ((16*W0)^mv.9*(16*(W1+E))) y)->Q (.ref t) H')->F0 K C vs H Q E9
inductive zD (K:FG9) (C:Addr) (vs:List V) (H:Hp) (Q:VK) (E9:XK):Prop
 | mk (x q s g:Addr) (T N X a c D W0 E W1:Nat) (H0:Hp) (mv pt lk:LR9) (ws st go:List Rat):vs=[.ref x,.ref q,.ref s,.ref g,.int T]->mS K H0 H C x mv pt lk->eU mv pt lk->Ld mv pt lk->uO mv pt a c->bK K H q ws->bK K H s st->st.9=mv.9->bK K H g go->go.9=mv.9->Cn mv pt st (List.replicate T (List.replicate pt.9 0))->(∀x∈go,i5 x)->Ww mv pt ws T (cL mv T st go) N X->UJ mv pt (cL mv T st go) D W0 E W1->(∀t e p y pr H',H' t=some (.tup [.str (Str.ofString "puts"),.ref e,.ref p,.ref y])->H y=none->(∃Hm,aH H Hm/\Hm y≠none/\Hm p=none/\bu K Hm H' p (jl mv pt ws T pr))->aH H H'->bO K H' (bJ pr (cL mv T st go)) (.ref e)->bK K H' y pr->Ur (kry mv pt T) (kD ws T) mv.9 (cL mv T st go) pr->Rv mv pt ws T (cL mv T st go) pr->(∀z∈pr,Tp N X z)->Q (.ref t) H')->(∀t p pr q H',H' t=some (.tup [.str (Str.ofString "never"),.ref p])->H p=none->aH H H'->(∀pr,¬Rv mv pt ws T (cL mv T st go) pr)->bK K H' p pr->pr.9=mv.9->(∀xs∈kry mv pt T,bJ xs pr=0)->bJ pr (cL mv T st go)=1->UG mv pt T (cL mv T st go) pr->0 < q->q<=(16*W0)^mv.9*(16*(W1+E))->(∀y∈pr,Tp q ((16*W0)^mv.9*(16*(W1+E))) y)->Q (.ref t) H')->zD K C vs H Q E9
inductive Cv (K:FG9) (vs:List V) (H:Hp) (Q:VK) (E9:XK):Prop
 | mk (r q p y:Addr) (T:Nat) (H0 H1:Hp) (mv pt lk pus:LR9) (ws pr:List Rat):vs=[.ref r,.ref q,.ref p,.ref y]->fz K H0 H r mv pt lk->eU mv pt lk->O3 mv pt T->bK K H q ws->ws.9=pt.9->bu K H1 H p pus->T<=12->bK K H y pr->Wr mv pt ws T pus pr->(∀b H',aH H H'->(b=true↔Wq mv pt ws pus pr)->Q (.bl b) H')->Cv K vs H Q E9
inductive vM (K:FG9) (H H':Hp) (mv pt:LR9) (ws st go:List Rat) (T:Nat):Bool->List Rat->V->Prop
 | put {t e p y:Addr} {pr:List Rat}:H' t=some (.tup [.str (Str.ofString "puts"),.ref e,.ref p,.ref y])->H y=none->(∃Hm,aH H Hm/\Hm y≠none/\Hm p=none/\bu K Hm H' p (jl mv pt ws T pr))->bO K H' (bJ pr (cL mv T st go)) (.ref e)->bK K H' y pr->Ur (kry mv pt T) (kD ws T) mv.9 (cL mv T st go) pr->Rv mv pt ws T (cL mv T st go) pr->Lg mv pt (jl mv pt ws T pr) st->Su ws (jl mv pt ws T pr)->Wr mv pt ws T (jl mv pt ws T pr) pr->i5 (bJ pr (cL mv T st go))->(∀z∈pr,i5 z)->vM K H H' mv pt ws st go T true pr (.ref t)
 | nev {t p:Addr} {pr:List Rat}:H' t=some (.tup [.str (Str.ofString "never"),.ref p])->H p=none->bK K H' p pr->pr.9=mv.9->(∀xs∈kry mv pt T,bJ xs pr=0)->bJ pr (cL mv T st go)=1->(∀pr,¬Rv mv pt ws T (cL mv T st go) pr)->UG mv pt T (cL mv T st go) pr->V6 mv pt T st go pr->vM K H H' mv pt ws st go T false pr (.ref t)
def Fy (mv pt:LR9) (ws st go:List Rat) (T:Nat) (b:Bool) (pr:List Rat):List A8:=match b with
 | true=>[.fl (.str (Str.ofString "puts")),.nm (bJ pr (cL mv T st go)),.grid (jl mv pt ws T pr),.row pr]
 | false=>[.fl (.str (Str.ofString "never")),.row pr]
def Ck (K:FG9) (H:Hp) (mv pt:LR9) (ws st go:List Rat) (T:Nat) (b:Bool) (pr:List Rat) (v:V):Prop:=match b with
 | true=>(Vv Vu AL JA GU).R K H v (Str.ofString "puts",bJ pr (cL mv T st go),jl mv pt ws T pr,pr)
 | false=>(Vw Vu GU).R K H v (Str.ofString "never",pr)
section
variable {K:FG9} {ws st go pr pr':List Rat}
theorem Ck.eq (h:Ck K H mv pt ws st go T b pr v) (h':Ck K H mv pt ws st go T b pr v') (q:Q (.bl true) H):Vo K v v' H Q:=by
 cases b with
 | true=>exact #[_,_,_,_,_,(),h,h',by rw[decide_eq_true rfl];exact q]
 | false=>exact #[_,_,_,_,_,(),h,h',by rw[decide_eq_true rfl];exact q]
theorem Ck.ne (h:Ck K H mv pt ws st go T b pr v) (h':Ck K H mv pt ws st go T b pr v') (q:Q (.bl false) H):Tx K v v' H Q:=by
 cases b with
 | true=>exact #[_,_,_,_,_,(),h,h',by rw[decide_eq_true rfl];exact q]
 | false=>exact #[_,_,_,_,_,(),h,h',by rw[decide_eq_true rfl];exact q]
theorem vM.same (h:vM K H H1 mv pt ws st go T b pr v) (s:aH H1 H2):vM K H H2 mv pt ws st go T b pr v:=by
 cases h with
 | put gt ny hm ne ry sl lt en ef ti sd sp =>
  obtain Hm|sm|my|np|Gp:=hm;exact .put (s _ _ gt) ny #[Hm,sm,my,np,Gp.same s] (ne.same s) (ry.same s) sl lt en ef ti sd sp
 | nev gt np rp lp d0 d1 nl pT pF=>exact .nev (s _ _ gt) np (rp.same s) lp d0 d1 nl pT pF
theorem vM.uniq (h:vM K H H1 mv pt ws st go T b pr v) (h':vM K H2 H3 mv pt ws st go T b' pr' v'):b=b'/\pr=pr':=by
 cases h with
 | put _ _ _ _ _ _ l1 =>
  cases h' with
  | put _ _ _ _ _ _ l2=>exact #[rfl,l1.uniq l2]
  | nev _ _ _ _ _ _ n=>exact absurd l1 (n _)
 | nev _ _ _ _ _ _ n p1 =>
  cases h' with
  | put _ _ _ _ _ _ l2=>exact absurd l2 (n _)
  | nev _ _ _ _ _ _ _ p2=>exact #[rfl,p1.uniq p2]
theorem vM.rk (h:vM K H H1 mv pt ws st go T b pr v):Ck K H1 mv pt ws st go T b pr v:=by
 cases h with
 | put gt ny hm ne ry =>
  obtain Hm|_|_|_|Gp:=hm;exact #[_,_,_,_,_,rfl,j8.of gt,rfl,ne,Gp.kind,ry.kind]
 | nev gt _ rp=>exact #[_,_,_,rfl,j8.of gt,rfl,rp.kind]
theorem A7.rk (g:H1 r=some (.tup ys)) (h:Paired (A7 K H H1) (Fy mv pt ws st go T b pr) ys):Ck K H1 mv pt ws st go T b pr (.ref r):=by
 cases b with
 | true =>
  obtain _|_|_|_|rfl|h1|h2|h3|h4:=Qr h;obtain rfl:=h1;obtain _|rfl|_|G:=h3;obtain _|rfl|_|R:=h4;exact #[_,_,_,_,_,rfl,j8.of g,rfl,h2,G.kind,R.kind]
 | false =>
  cases h with
  | cons h1 t=>cases t with
   | cons h2 t' =>
    cases t';obtain rfl:=h1;obtain _|rfl|_|R:=h2;exact #[_,_,_,rfl,j8.of g,rfl,R.kind]
theorem Sj (D:eU mv pt lk) (t12:T<=12) (lw:ws.9=pt.9) (lp:pr.9=mv.9):(Fy mv pt ws st go T b pr).9<=10/\∀d∈Fy mv pt ws st go T b pr,A8.ok d/\A8.lv d<=3:=by
 have:=D.n8;have:=D.i4;have o1:A8.ok (.grid (jl mv pt ws T pr)):=#[by rw[kL];lia,λqs hq=>by rw[vZ lw qs hq];lia];have o2:A8.ok (.row pr):=by show pr.9<=100;lia
 cases b with
 | true =>
  refine #[show 4<=10 by decide,λd hd=>?_];simp only[Fy,aD,aO,or_false] at hd;rcases hd with rfl | rfl | rfl | rfl
  ·exact #[rfl,aW _]
  ·exact #[True.intro,(show 1<=3 by decide)]
  ·exact #[o1,ah _]
  ·exact #[o2,(show 2<=3 by decide)]
 | false =>
  refine #[show 2<=10 by decide,λd hd=>?_];simp only[Fy,aD,aO,or_false] at hd;rcases hd with rfl | rfl
  ·exact #[rfl,aW _]
  ·exact #[o2,(show 2<=3 by decide)]
theorem vM.lp (h:vM K H H1 mv pt ws st go T b pr v):pr.9=mv.9:=by
 cases h with
 | put _ _ _ _ _ sl=>exact sl.1
 | nev _ _ _ l=>exact l
theorem L6 (h:vM K H H1 mv pt ws st go T b pr v) (D:eU mv pt lk) (t12:T<=12) (lw:ws.9=pt.9) (k:∀r ys H',aH H1 H'->H' r=some (.tup ys)->Paired (A7 K H1 H') (Fy mv pt ws st go T b pr) ys->Q (.ref r) H'):xo K 5 [v] H1 Q E9:=by
 obtain l10|ok:=Sj (st:=st) (go:=go) (b:=b) D t12 lw h.lp;cases h with
 | put gt ny hm ne ry =>
  obtain Hm|sm|my|np|Gp:=hm;exact #[_,rfl,.inr (.inr (.inr (.inr #[3,(),_,_,H,([.fl (.str (Str.ofString "puts")),.nm (bJ pr (cL mv T st go)),.grid (jl mv pt ws T pr),.row pr]:List A8),rfl,j8.of gt,.cons rfl (.cons ne (.cons #[_,rfl,sm.none np,Gp.weak sm] (.cons #[_,rfl,ny,ry] .nil))),l10,ok,λr ys H' s' g' pr'=>k r ys H' s' g' pr'])))]
 | nev gt np rp=>exact #[_,rfl,.inr (.inr (.inr (.inr #[3,(),_,_,H,([.fl (.str (Str.ofString "never")),.row pr]:List A8),rfl,j8.of gt,.cons rfl (.cons #[_,rfl,np,rp] .nil),l10,ok,λr ys H' s' g' pr'=>k r ys H' s' g' pr'])))]
theorem Ja (h:vM K H H1 mv pt ws st go T b pr v) (D:eU mv pt lk) (t12:T<=12) (lw:ws.9=pt.9) (s:aH H1 H2) (k:∀H',Kp (λa=>H a=none/\H1 a≠none) H2 H'->Q .non H'):vg K 5 [v] H2 Q E9:=by
 obtain l10|ok:=Sj (st:=st) (go:=go) (b:=b) D t12 lw h.lp;cases h with
 | @put t e p y _ gt ny hm ne ry =>
  obtain Hm|sm|my|np|Gp:=hm;have E1:=O1.elW (d:=.grid (jl mv pt ws T pr)) #[p,rfl,np,Gp] s;have y1:H1 y≠none:=by obtain _|g|_:=ry;rw[g];exact λz=>nomatch z
  refine #[_,rfl,.inr (.inr (.inr (.inr #[3,(),t,_,[(.fl (.str (Str.ofString "puts")),λ_=>False),(.nm (bJ pr (cL mv T st go)),λ_=>False),(.grid (jl mv pt ws T pr),λa=>Hm a=none/\H1 a≠none),(.row pr,λa=>a=y)],rfl,j8.of (s _ _ gt),.cons rfl (.cons (ne.same s) (.cons E1 (.cons #[y,rfl,rfl,ry.same s] .nil))),l10,λd hd=>?_,λi j f f' hij hf hf' a h1 h2=>?_,λH' k'=>k _ (k'.mono λa z=>?_)])))]
  ·refine ok d.1 ?_;simp only[aD,aO,or_false] at hd;rcases hd with rfl | rfl | rfl | rfl <;> simp [Fy]
  ·match i,j,hij,hf,hf' with
   | 0,_,_,hf,_=>cases hf;exact h2
   | 1,_,_,hf,_=>cases hf;exact h2
   | 2,3,_,hf,hf'=>cases hf;cases hf';subst h1;exact my h2.1
   | 2,j+4,_,_,hf'=>cases hf'
   | 3,j+4,_,_,hf'=>cases hf'
   | i+4,_,_,hf,_=>cases hf
  ·obtain f|mf|wf:=z;simp only[aD,aO,or_false] at mf;rcases mf with rfl | rfl | rfl | rfl
   ·exact wf.elim
   ·exact wf.elim
   ·exact #[sm.none wf.1,wf.2]
   ·exact (show a=y from wf) ▸ #[ny,y1]
 | @nev t p _ gt np rp =>
  have E1:=O1.elW (d:=.row pr) #[p,rfl,np,rp] s;refine #[_,rfl,.inr (.inr (.inr (.inr #[3,(),t,_,[(.fl (.str (Str.ofString "never")),λ_=>False),(.row pr,λa=>H a=none/\H1 a≠none)],rfl,j8.of (s _ _ gt),.cons rfl (.cons E1 .nil),l10,λd hd=>?_,λi j f f' hij hf hf' a h1 h2=>?_,λH' k'=>k _ (k'.mono λa z=>?_)])))]
  ·refine ok d.1 ?_;simp only[aD,aO,or_false] at hd;rcases hd with rfl | rfl <;> simp [Fy]
  ·match i,j,hij,hf,hf' with
   | 0,_,_,hf,_=>cases hf;exact h2
   | 1,j+2,_,_,hf'=>cases hf'
   | i+2,_,_,hf,_=>cases hf
  ·obtain f|mf|wf:=z;simp only[aD,aO,or_false] at mf;rcases mf with rfl | rfl
   ·exact wf.elim
   ·exact wf
theorem AG {x q s g:Addr} (S:mS K H0 H C x mv pt lk) (D:eU mv pt lk) (F:Ld mv pt lk) (KF:uO mv pt a c) (Rw:bK K H q ws) (Rs:bK K H s st) (ls:st.9=mv.9) (Rg:bK K H g go) (lg:go.9=mv.9) (Z:IH mv pt ws st go T) (k:∀b pr v H',aH H H'->vM K H H' mv pt ws st go T b pr v->Q v H'):zD K C [.ref x,.ref q,.ref s,.ref g,.int T] H Q E9:=by
 obtain N|X|LS|hd:=Z.ls;obtain D0|W0|E0|W1|CF|hp:=Z.co;refine #[x,q,s,g,T,N,X,a,c,D0,W0,E0,W1,H0,mv,pt,lk,ws,st,go,rfl,S,D,F,KF,Rw,Rs,ls,Rg,lg,Z.cf,Z.sg,LS,CF,λt e p y pr H' gt ny hm s' ne ry sl lt tp=>?_,λt p pr q H' gt np s' nl rp lp d0 d1 pT q0 q1 tp=>k _ _ _ H' s' (.nev gt np rp lp d0 d1 nl pT (hp pr q lp q0 q1 tp))];obtain en|ef|ti|sd|sp:=hd pr sl.1 tp;exact k _ _ _ H' s' (.put gt ny hm ne ry sl lt en ef ti sd sp)
end
inductive zo (K:FG9) (C:Addr) (vs:List V) (H:Hp) (Q:VK) (E9:XK):Prop
 | mk (x r q s g:Addr) (T a c:Nat) (H0 H1:Hp) (mv pt lk:LR9) (ws st go:List Rat):vs=[.ref x,.ref r,.ref q,.ref s,.ref g,.int T]->T<=12->mS K H0 H C x mv pt lk->fz K H1 H r mv pt lk->eU mv pt lk->Ld mv pt lk->uO mv pt a c->bK K H q ws->ws.9=pt.9->(∀w∈ws,0 < w)->bK K H s st->st.9=mv.9->bK K H g go->go.9=mv.9->IH mv pt ws st go T->(∀H',aH H H'->Q (.bl true) H')->zo K C vs H Q E9
section
variable {x y st go pr:List Rat}
theorem Lz (RR:bS rows n R ps) (RR':bS rows' n R' ps') (h:∀i,i < ps.9->eY ps'.9 (bV R') (bV R i)):ps.9<=ps'.9:=by
 have hs:∀i,i < ps.9->∃j,j < ps'.9/\ps'.getD j 0=ps.getD i 0:=λi hi=>by
  have u:=RR.2.2.unit i hi i hi;rw[if_pos rfl] at u;exact RR'.2.2.lead_in (h i hi) (c:=ps.getD i 0) (by rw[u];decide) (λc hc=>RR.2.2.lead i hi c hc)
 rcases bZ ps'.9 ps.9 with z | z
 ·exfalso
  have key:∀i,i < ps.9->∀j,j < ps'.9->ps'.getD j 0=ps.getD i 0->i<=j:=by
   intro i
   induction i with
   | zero=>intro _ j _ _;exact aW _
   | succ i ih =>
    intro hi j hj e;obtain j'|hj'|e':=hs i ();have h1:=ih () j' hj' e';have h2:=RR.2.2.inc i (i+1) () hi;rcases bZ j' j with y | y
    ·lia
    ·rcases bZ j j' with x | x
     ·have:=RR'.2.2.inc j j' x hj'
      lia
     ·have:j=j':=()
      rw[this] at e
      lia
  obtain j|hj|e:=hs (ps.9 - 1) ();have:=key (ps.9 - 1) () j hj e
  lia
 ·exact z
theorem Gz:bV (rows++[x]) rows.9=λc=>x.getD c 0:=by
 have:=vK (X:=rows) (Y:=[x]) (i:=0);rw[Nat.add_zero] at this;rw[this];rfl
theorem Nz (RR:bS rows n R ps) (RR':bS (rows++[x]) n R' ps') (hw:∀xs∈rows,xs.9=n) (lx:x.9=n) (ly:y.9=n) (h1:∀xs∈rows,bJ xs y=0) (h2:bJ y x=1):ps.9 < ps'.9:=by
 have lX:(rows++[x]).9=rows.9+1:=by simp
 have hin:∀i,i < ps.9->eY ps'.9 (bV R') (bV R i):=λi hi=>eY.trans (λs hs=>by
  have:=RR'.2.2.span s (by rw[lX];lia);rwa [yH hs] at this) (RR.2.2.back i hi)
 have g:=Lz RR RR' hin;rcases bZ ps.9 ps'.9 with z | z
 ·exact z
 exfalso
 obtain rfl|rfl:=CM RR RR' () hin;obtain w|e:=eY.trans (λs hs=>RR.2.2.back s hs) (RR'.2.2.span rows.9 (by rw[lX];lia));rw[Gz] at e;rw[cQ (by rw[ly,lx]),ly] at h2
 have e1:(bF n λc=>y.getD c 0*x.getD c 0)=bF n λc=>bF rows.9 λt=>w t*(bV rows t c*y.getD c 0):=aN λc _=>by
  have:=e c;simp only at this;rw[this,<- cF];exact aN λt _=>by grind
 rw[e1,fN,cZ λt ht=>?_] at h2
 ·exact absurd h2 ()
 rw[cF];have mt:=aF ht;have d:=h1 _ mt;rw[cQ (by rw[hw _ mt,ly]),hw _ mt] at d
 have:(bF n λc=>bV rows t c*y.getD c 0)=0:=by
  refine Eq.trans (aN λc _=>?_) d;unfold bV;rw[aa (l:=rows),ae ht];rfl
 rw[this,eC]
theorem Qk (RR:bS rows n R ps) (RR':bS (rows++[x]) n R' ps') (sx:eY rows.9 (bV rows) λc=>x.getD c 0):ps=ps':=by
 have lX:(rows++[x]).9=rows.9+1:=by simp
 refine (RR.uniq RR' (λi hi=>?_) λi hi=>?_).2
 ·have:=eY.row (a:=bV (rows++[x])) (m:=(rows++[x]).9) (i:=i) (by rw[lX];lia);rwa [yH hi] at this
 ·by_cases h:i < rows.9
  ·rw[yH h];exact eY.row h
  ·rw[show i=rows.9 by lia,Gz];exact sx
theorem QJ (D:eU mv pt lk) (ls:st.9=mv.9) (lg:go.9=mv.9) (lp:pus.9=T) (wp:∀xs∈pus,xs.9=pt.9) (h1:qi mv pt st pus T=go):eY (kry mv pt T).9 (bV (kry mv pt T)) λc=>(cL mv T st go).getD c 0:=by
 have ll:=oE (T:=T) ls lg;have f:=yL (pus:=pus) (st:=st) D ls T () wp;rw[h1] at f;have wT:=dX (mv:=mv) rfl D.pw T;refine #[λi=>((pus.take T).reverse.flatten).getD i 0,λc=>?_];by_cases hc:c < mv.9
 ·show (cL mv T st go).getD c 0=_
  unfold cL;rw[Dt (by rw[lg,jf ls]) (),f c hc];grind
 ·show (cL mv T st go).getD c 0=_
  rw[aa,aP (),cZ λt _=>by rw[xR wT (),eC]];rfl
end
def Nx (N:St->Hp->Prop) (u:TS) (D:Ends):Prop:=∀σ H,u D σ H->N σ H
theorem PV (h:∀N:St->Hp->Prop,Nx N u D->t { D with nx:=N } σ H):US t u D σ H:=h (u D) λ_ _ q=>q
theorem Vh (hN:Nx N u D) (h:u D σ H):N σ H:=hN _ _ h
theorem ib {K:FG9}:(HZ CX P w K mg base N qual scope f cd A outer s H E).nox.K=K:=rfl
end L2
open L2
local macro_rules | `(tactic| walk_at "hl") => `(tactic| first | (show _ ≤ sizeLine; with_unfolding_all decide) | (with_unfolding_all exact (by decide)))
local macro_rules | `(tactic| walk_at "sq") => `(tactic| first | with_reducible assumption | with_reducible exact j8.of (by assumption) | with_reducible exact bC.of (by assumption) | with_reducible exact j8.of aK | with_reducible exact bC.of aK | assumption)
local macro_rules | `(tactic| walk_at "sc") => `(tactic| first | (with_reducible show (0 : Int) < _; decide) | with_reducible exact Q3 (by decide) (by decide) | with_reducible exact E4 (by decide) (by decide) | with_reducible exact cpow_of (by decide) (by decide) (by decide))
local macro_rules | `(tactic| walk_at "rd") => `(tactic| first
  | (with_reducible refine PV ?_; intro N hN)
  | with_reducible refine PZ ?_
  | with_reducible refine Tu ?_
  | with_reducible refine Nw ?_
  | ((with_reducible refine' S6 ?hx1 ?_); (case hx1 => with_unfolding_all rfl))
  | with_reducible refine Wf ?_
  | with_reducible refine Vg ?_
  | with_reducible refine Vl ?_
  | with_reducible refine Vc ?_
  | with_reducible refine Wg ?_
  | with_reducible refine Tt ?_
  | with_reducible refine Te ?_
  | with_reducible refine Ts ?_
  | with_reducible refine Td ?_
  | with_reducible refine rd_eqB ?_
  | with_reducible refine rd_neB ?_
  | with_reducible refine P6 ?_
  | with_reducible refine Jk ?_
  | with_reducible refine Tr ?_
  | with_reducible refine PU ?_
  | with_reducible refine P0 ?_
  | with_reducible refine P2 ?_
  | with_reducible refine Nv ?_
  | with_reducible refine PR ?_
  | with_reducible refine Vd ?_
  | with_reducible refine S9 ?_
  | with_reducible refine rd_retN ?_
  | with_reducible refine Tj ?_
  | with_reducible refine Tv ?_
  | with_reducible refine Vf ?_
  | with_reducible refine Tb ?_
  | with_reducible refine Qi ?_
  | with_reducible refine rd_orV ?_
  | with_reducible refine PY ?_
  | with_reducible refine To ?_
  | with_reducible refine S5 ?_
  | with_reducible refine QM ?_
  | with_reducible refine Vz ?_
  | with_reducible refine VA ?_
  | with_reducible refine VB ?_
  | with_reducible refine RU ?_
  | with_reducible refine Tc ?_
  | with_reducible refine Qd ?_
  | with_reducible refine S7 ?_
  | with_reducible refine Tf ?_
  | with_reducible refine Qg ?_
  | with_reducible refine Vi ?_
  | with_reducible refine Qc ?_
  | with_reducible refine Ta ?_
  | with_reducible refine Qh ?_
  | ((with_reducible refine' rd_aug ?hx1 ?_); (case hx1 => with_unfolding_all rfl))
  | with_reducible refine Ti ?_
  | with_reducible refine P9 ?_
  | with_reducible refine Ny ?_
  | with_reducible refine Qa ?_
  | with_reducible refine Ve ?_
  | with_reducible refine Ly ?_
  | with_reducible refine PX ?_
  | with_reducible refine Tq ?_
  | with_reducible refine Nu ?_
  | with_reducible refine P7 ?_
  | with_reducible refine Nt ?_
  | with_reducible refine Nr ?_
  | ((with_reducible refine' Qf ?hx1 ?_); (case hx1 => with_unfolding_all rfl))
  | with_reducible refine PN ?_
  | with_reducible refine Vj ?_
  | with_reducible refine rd_bm0 ?_
  | with_reducible refine rd_brk ?_
  | ((with_reducible refine' P8 ?hx1 ?hx2 ?_); (case hx1 => walk_at "sq"); (case hx2 => with_unfolding_all rfl))
  | with_reducible refine rd_cont ?_
  | ((with_reducible refine' fU ?hx1 ?_); (case hx1 => walk_at "sc"))
  | ((with_reducible refine' Tg ?hx1 ?hx2 ?_); (case hx1 => walk_at "sq"); (case hx2 => with_unfolding_all rfl))
  | ((with_reducible refine' b7 ?hx1 ?hx2 ?_); (case hx1 => walk_at "sq"); (case hx2 => with_unfolding_all rfl))
  | ((with_reducible refine' Qb ?hx1 ?hx2 ?_); (case hx1 => walk_at "sq"); (case hx2 => with_unfolding_all rfl))
  | ((with_reducible refine' fW ?hx1 ?hx2 ?hx3 ?_); (case hx1 => with_reducible first | assumption | exact aK); (case hx2 => with_unfolding_all rfl); (case hx3 => with_unfolding_all rfl))
  | ((with_reducible refine' Vh ?hx1 ?_); (case hx1 => with_reducible assumption))
  | with_reducible refine ⟨_, rfl, ?_⟩
  | with_reducible refine ⟨_, _, rfl, ?_⟩)
namespace L2
open PySem PySem.Spec PyProof.Rows Nm
section
variable {X:Cx} {e e1 e2 e3:Expr} {te t1 t2 t3:TE}
theorem eX (i:Nat) {x:Str} {pos:Pos} (hN:X.N.Nodup:=by walk_at "u") (hi:X.N[i]?=some x:=by rfl) (hx:Loc X.env.scope x:=by first | exact Or.inl rfl | exact Or.inr rfl) (hf:X.fn x=true\/X.env.scope.names.lookup x=some .local:=by first | exact .inl rfl | exact .inr rfl | assumption):PG X (.Name x pos) (C2 i):=Qu hN hi hx hf
theorem d6 (i:Nat) {x:Str} {pos pos':Pos} (hN:X.N.Nodup) (he:PE X e te) (hi:X.N[i]?=some x:=by rfl) (hx:Loc X.env.scope x:=by first | exact Or.inl rfl | exact Or.inr rfl) (hs:swapsWith e (some (.Name x pos')) pos.line X.env=pure false:=by rfl) (hf:X.fn x=true\/X.env.scope.names.lookup x=some .local:=by first | exact .inl rfl | exact .inr rfl | assumption):PS X (.Assign [.Name x pos'] e pos) (MW te (C2 i)):=TC hN hi hx he hs hf
theorem c4 (a:PE X e te) (h0:starEach [e] X.env=(false,eval e X.env) :: starEach [] X.env:=by rfl):PA X [e] (jZ te Bn):=(dh a jy h0)
theorem cH (a:PE X e te) (b:PE X e1 t1) (h0:starEach [e,e1] X.env=(false,eval e X.env) :: starEach [e1] X.env:=by rfl) (h1:starEach [e1] X.env=(false,eval e1 X.env) :: starEach [] X.env:=by rfl):PA X [e,e1] (jZ te (jZ t1 Bn)):=(dh a (dh b jy h1) h0)
theorem qq (a:PE X e te) (b:PE X e1 t1) (c:PE X e2 t2) (h0:starEach [e,e1,e2] X.env=(false,eval e X.env) :: starEach [e1,e2] X.env:=by rfl) (h1:starEach [e1,e2] X.env=(false,eval e1 X.env) :: starEach [e2] X.env:=by rfl) (h2:starEach [e2] X.env=(false,eval e2 X.env) :: starEach [] X.env:=by rfl):PA X [e,e1,e2] (jZ te (jZ t1 (jZ t2 Bn))):=(dh a (dh b (dh c jy h2) h1) h0)
theorem xK (a:PE X e te) (b:PE X e1 t1) (c:PE X e2 t2) (d:PE X e3 t3) (h0:starEach [e,e1,e2,e3] X.env=(false,eval e X.env) :: starEach [e1,e2,e3] X.env:=by rfl) (h1:starEach [e1,e2,e3] X.env=(false,eval e1 X.env) :: starEach [e2,e3] X.env:=by rfl) (h2:starEach [e2,e3] X.env=(false,eval e2 X.env) :: starEach [e3] X.env:=by rfl) (h3:starEach [e3] X.env=(false,eval e3 X.env) :: starEach [] X.env:=by rfl):PA X [e,e1,e2,e3] (jZ te (jZ t1 (jZ t2 (jZ t3 Bn)))):=(dh a (dh b (dh c (dh d jy h3) h2) h1) h0)
abbrev bL:=@pv X 0
abbrev cM:=@pv X 1
abbrev eo:=@pv X 2
abbrev fX:=@pv X 3
abbrev mU:=@pv X 4
abbrev qo:=@pv X 5
abbrev nY:=@pv X 6
abbrev qj:=@pv X 7
abbrev vA:=@pv X 8
abbrev O7:=@pv X 9
abbrev sC (N:List Str) (k:Nat) (st:Stmt):Prop:=uN N (N.take k) (fE st)
end
end L2
local macro_rules | `(tactic| walk_at "w") => `(tactic| repeat walk_at "rd")
local macro_rules | `(tactic| walk_at "d") => `(tactic| exact ⟨rfl,rfl,rfl,by decide +kernel,rfl,by decide +kernel,by decide +kernel⟩)
namespace Lw
open PySem PySem.Spec PyProof.Rows L2 Nm
local macro_rules | `(tactic| exists $e) => `(tactic| (walk_at "w";refine $e))
local macro_rules | `(tactic| walk_at "n") => `(tactic| (intro vs H Q E h; first | (cases h; subst_vars; rfl) | (obtain ⟨_, _⟩ := h; subst_vars; rfl) | (obtain ⟨_, _, _⟩ := h; subst_vars; rfl) | (obtain ⟨_, _, _, _⟩ := h; subst_vars; rfl) | (obtain ⟨_, _, _, _, _⟩ := h; subst_vars; rfl) | (obtain ⟨_, _, _, _, _, _⟩ := h; subst_vars; rfl) | (obtain ⟨_, _, _, _, _, _, _⟩ := h; subst_vars; rfl) | (obtain ⟨_, _, _, _, _, _, _, _⟩ := h; subst_vars; rfl) | (obtain ⟨_, _, _, _, _, _, _, _, _⟩ := h; subst_vars; rfl) | (obtain ⟨_, _, _, _, _, _, _, _, _, _⟩ := h; subst_vars; rfl) | (obtain ⟨_, _, _, _, _, _, _, _, _, _, _⟩ := h; subst_vars; rfl)))
local macro_rules | `(tactic| walk_at "i") => `(tactic| set_option tactic.hygienic false in intros)
local macro_rules | `(tactic| walk_at "s") => `(tactic| refine oq (by dsimp only [UD] <;> rfl) ?_)
local macro_rules | `(tactic| walk_at "d") => `(tactic| exact ⟨rfl, rfl, rfl, by decide +kernel, rfl, by decide +kernel, by decide +kernel⟩)
local macro_rules | `(tactic| walk_at "u") => `(tactic| first | (change List.Nodup (α := Str) [_]; decide +kernel) | (change List.Nodup (α := Str) [_, _]; decide +kernel) | (change List.Nodup (α := Str) [_, _, _]; decide +kernel) | (change List.Nodup (α := Str) [_, _, _, _]; decide +kernel) | (change List.Nodup (α := Str) [_, _, _, _, _]; decide +kernel) | (change List.Nodup (α := Str) [_, _, _, _, _, _]; decide +kernel) | (change List.Nodup (α := Str) [_, _, _, _, _, _, _]; decide +kernel) | (change List.Nodup (α := Str) [_, _, _, _, _, _, _, _]; decide +kernel) | (change List.Nodup (α := Str) [_, _, _, _, _, _, _, _, _]; decide +kernel))
set_option maxHeartbeats 4000000
def top (i:Nat):Stmt:=PySem.Challenge.pw_helmsum_k62_least_or_never.main.body.getD i (.Pass #[0,0,0,0])
abbrev vz:Stmt:=top 62
abbrev tm:Stmt:=top 63
abbrev nv:Stmt:=top 79
abbrev tJ:Stmt:=top 81
abbrev vp:Stmt:=top 64
abbrev pJ:Stmt:=top 69
abbrev vo:Stmt:=top 70
abbrev tH:Stmt:=top 75
abbrev vn:Stmt:=top 65
abbrev tF:Stmt:=top 72
abbrev tE:Stmt:=top 67
abbrev xE:Stmt:=top 74
abbrev qQ:Stmt:=top 76
abbrev qP:Stmt:=top 77
abbrev pG:Stmt:=top 82
abbrev sU:Stmt:=top 58
abbrev vm:Stmt:=top 10
abbrev lM:Stmt:=top 11
abbrev sY:Stmt:=top 13
abbrev zX:Stmt:=top 18
abbrev pE:Stmt:=top 59
abbrev fh:Stmt:=inClass (top 60) 0
abbrev pM:Stmt:=top 78
abbrev tI:Stmt:=top 83
abbrev oj:Stmt:=top 97
abbrev qM:Stmt:=top 84
abbrev vv:Stmt:=top 71
abbrev xD:Stmt:=top 80
abbrev tG:Stmt:=top 86
abbrev vq:Stmt:=top 87
abbrev tz:Stmt:=top 85
abbrev tP:Stmt:=top 96
abbrev kI:Stmt:=top 12
abbrev mY:Stmt:=top 20
abbrev sV:Stmt:=top 21
abbrev zV:Stmt:=top 14
abbrev xv:Stmt:=top 22
abbrev xB:Stmt:=top 25
abbrev qI:Stmt:=top 43
abbrev sZ:Stmt:=top 44
abbrev D3:Stmt:=top 15
abbrev sW:Stmt:=top 19
abbrev pC:Stmt:=top 26
abbrev ig:Stmt:=inClass (top 60) 1
abbrev zY:Stmt:=top 31
abbrev qH:Stmt:=top 23
abbrev pB:Stmt:=top 46
abbrev xA:Stmt:=top 47
abbrev qK:Stmt:=top 33
abbrev xC:Stmt:=top 35
abbrev qL:Stmt:=top 34
abbrev DY:Stmt:=top 36
abbrev zT:Stmt:=top 39
abbrev DZ:Stmt:=top 40
abbrev Jh:Stmt:=top 28
abbrev qJ:Stmt:=top 27
abbrev zU:Stmt:=top 16
abbrev sX:Stmt:=top 50
abbrev zW:Stmt:=top 52
abbrev xx:Stmt:=top 37
abbrev pA:Stmt:=top 45
abbrev pk:Stmt:=top 41
abbrev Ng:Stmt:=top 29
abbrev Ji:Stmt:=top 48
abbrev xy:Stmt:=top 51
abbrev D4:Stmt:=top 53
abbrev tO:Stmt:=top 100
abbrev qN:Stmt:=top 101
abbrev qU:Stmt:=top 92
abbrev tK:Stmt:=top 66
abbrev qR:Stmt:=top 73
abbrev qT:Stmt:=top 93
abbrev tu:Stmt:=top 68
abbrev tL:Stmt:=top 91
abbrev lN:Stmt:=top 88
abbrev pK:Stmt:=top 89
abbrev pH:Stmt:=top 95
abbrev oo:Stmt:=top 90
abbrev qS:Stmt:=top 94
abbrev pL:Stmt:=top 98
abbrev td:Stmt:=top 99
abbrev qO:Stmt:=top 102
abbrev Nf:Stmt:=top 103
set_option genInjectivity false in
set_option genSizeOf false in
structure Ads where
 J5:Addr
 JR:FuncData
 Ir:Addr
 Hw:FuncData
 Fi:Addr
 ES:FuncData
 IC:Addr
 HV:FuncData
 JY:Addr
 JO:FuncData
 Cf:Addr
 BP:FuncData
 JX:Addr
 JN:FuncData
 IA:Addr
 HS:FuncData
 JW:Addr
 JM:FuncData
 Iy:Addr
 HQ:FuncData
 Iw:Addr
 HP:FuncData
 Mx:Addr
 Mm:FuncData
 Fm:Addr
 EV:FuncData
 Fl:Addr
 EU:FuncData
 Cd:Addr
 BN:FuncData
 Ij:Addr
 G9:FuncData
 JV:Addr
 JL:FuncData
 xZ:Addr
 xV:FuncData
 Io:Addr
 Ht:FuncData
 OZ:Addr
 OM:FuncData
 Cc:Addr
 BM:FuncData
 lB:Addr
 lh:FuncData
 Cj:Addr
 BS:FuncData
 IB:Addr
 HU:FuncData
 A2:Addr
 AW:FuncData
 Fh:Addr
 ER:FuncData
 J0:Addr
 JQ:FuncData
 Mw:Addr
 Ml:FuncData
 Iz:Addr
 HR:FuncData
 JZ:Addr
 JP:FuncData
 Iv:Addr
 HN:FuncData
 IF:Addr
 HY:FuncData
 wZ:Addr
 wU:FuncData
 yI:Addr
 yF:FuncData
 Ik:Addr
 Ho:FuncData
 OX:Addr
 OK:FuncData
 Mq:Addr
 Me:FuncData
 Mu:Addr
 Mi:FuncData
 Fd:Addr
 EK:FuncData
 Ip:Addr
 Hu:FuncData
 Rh:Addr
 Q1:FuncData
 Il:Addr
 Hq:FuncData
 Cb:Addr
 BL:FuncData
 oH:Addr
 oF:FuncData
 O0:Addr
 ON:FuncData
 Fc:Addr
 EJ:FuncData
 Ca:Addr
 BK:FuncData
 Mt:Addr
 Mh:FuncData
 Ff:Addr
 EM:FuncData
 Mv:Addr
 Mj:FuncData
 Fg:Addr
 EO:FuncData
 Q9:Addr
 QZ:FuncData
 OV:Addr
 OI:FuncData
 Rf:Addr
 Q0:FuncData
 Up:Addr
 Uj:FuncData
 Fe:Addr
 EL:FuncData
 OW:Addr
 OJ:FuncData
 Im:Addr
 Hs:FuncData
 OY:Addr
 OL:FuncData
 Mr:Addr
 Mf:FuncData
 BZ:Addr
 BJ:FuncData
 BY:Addr
 BI:FuncData
 So:Addr
 Sl:FuncData
 Uq:Addr
 Uk:FuncData
 Ms:Addr
 Mg:FuncData
 Ri:Addr
 Q2:FuncData
 uv:Addr
 uo:FuncData
 rG:Addr
 rB:FuncData
 Fq:Addr
 EZ:FuncData
 ID:Addr
 HW:FuncData
 Fn:Addr
 EW:FuncData
 Fp:Addr
 EY:FuncData
 Iu:Addr
 HM:FuncData
 IE:Addr
 HX:FuncData
 ya:Addr
 xW:FuncData
 Cg:Addr
 BQ:FuncData
 Ce:Addr
 BO:FuncData
 A3:Addr
 AX:FuncData
 Fo:Addr
 EX:FuncData
 Ci:Addr
 BR:FuncData
 Iq:Addr
 Hv:FuncData
 Fj:Addr
 ET:FuncData
 Sm:Addr
 Sk:FuncData
 a_NOUGHT:Addr
 a_ONE:Addr
 t_MOST_STATES:Tok
 t_MOST_PUTS:Tok
 t_MOST_LOOKS:Tok
 a_System:Addr
structure Txt (K:W.Frag) (mg:Str->Option Value) (Z:Ads):Prop where
 oU:Df K mg "_law_bag" vz ["_law_script"] Z.J5 Z.JR
 aU:Df K mg "_law_take" tm ["_law_bag_here","_law_many"] Z.Ir Z.Hw
 mB:Df K mg "_law_sizes" nv ["_law_bag_here"] Z.Fi Z.ES
 nR:Df K mg "_law_line" tJ ["_law_bag_here","_law_n"] Z.IC Z.HV
 d7:Df K mg "_law_low" vp ["_law_top","_law_bottom"] Z.JY Z.JO
 kX:Df K mg "_law_number" pJ ["_law_bag_here","_law_wide"] Z.Cf Z.BP
 gK:Df K mg "_law_row" vo ["_law_bag_here","_law_many","_law_wide"] Z.JX Z.JN
 nP:Df K mg "_law_move" tH ["_law_bag_here","_law_n","_law_way","_law_first","_law_wide"] Z.IA Z.HS
 gJ:Df K mg "_law_sum" vn ["_law_one","_law_other"] Z.JW Z.JM
 kW:Df K mg "_law_plus" tF ["_law_one","_law_other"] Z.Iy Z.HQ
 eO:Df K mg "_law_prod" tE ["_law_one","_law_other"] Z.Iw Z.HP
 jG:Df K mg "_law_by" xE ["_law_by_here","_law_row_here"] Z.Mx Z.Mm
 mE:Df K mg "_law_mixed" qQ ["_law_bag_here","_law_move_here","_law_put","_law_look"] Z.Fm Z.EV
 mD:Df K mg "_law_parts" qP ["_law_bag_here","_law_n","_law_ins","_law_outs","_law_wide"] Z.Fl Z.EU
 kT:Df K mg "_law_system" pG ["_law_bag_here"] Z.Cd Z.BN
 jO:Df K mg "want_list" sU ["thing","at","most"] Z.Ij Z.G9
 mP:Df K mg "is_whole" vm ["thing"] Z.JV Z.JL
 fk:Df K mg "common_divisor" lM ["one","other"] Z.xZ Z.xV
 nJ:Df K mg "is_number" sY ["thing"] Z.Io Z.Ht
 uG:Df K mg "is_row" zX ["thing","many"] Z.OZ Z.OM
 ip:Df K mg "copied_rows" pE ["things","wide"] Z.Cc Z.BM
 oX:Binds K Z.lh ["self","move","put","look"] []
 oZ:ME K "__init__" "System.__init__" fh Z.lB Z.lh
 ir:Df K mg "_law_copied" pM ["_law_grid"] Z.Cj Z.BS
 nQ:Df K mg "_law_made" tI ["_law_parts_here"] Z.IB Z.HU
 iT:Df K mg "_law_weights" oj ["_law_bag_here","_law_many","_law_begin"] Z.A2 Z.AW
 mo:Df K mg "_law_steps" qM ["_law_bag_here","_law_parts_here"] Z.Fh Z.ER
 jF:Df K mg "_law_dot" vv ["_law_one","_law_other"] Z.J0 Z.JQ
 lS:Df K mg "_law_on" xD ["_law_grid","_law_row_here"] Z.Mw Z.Ml
 nO:Df K mg "_law_next" tG ["_law_parts_here","_law_state","_law_puts_here"] Z.Iz Z.HR
 mQ:Df K mg "_law_end" vq ["_law_parts_here","_law_start","_law_rows"] Z.JZ Z.JP
 nN:Df K mg "_law_puts" tz ["_law_bag_here","_law_parts_here","_law_steps_here","_law_wide"] Z.Iv Z.HN
 kZ:Df K mg "_law_goal" tP ["_law_bag_here","_law_parts_here","_law_start","_law_steps_here","_law_wide"] Z.IF Z.HY
 iN:Df K mg "common_multiple" kI ["wholes"] Z.wZ Z.wU
 dS:Df K mg "common_bottom" mY ["row"] Z.yI Z.yF
 gI:Df K mg "tops_over" sV ["row","bottom"] Z.Ik Z.Ho
 jP:Df K mg "lowest" zV ["top","bottom"] Z.OX Z.OK
 iM:Df K mg "row_dot" xv ["one","other"] Z.Mq Z.Me
 jE:Df K mg "grid_on" xB ["grid","row"] Z.Mu Z.Mi
 j4:Df K mg "moved_rows" qI ["system","rows"] Z.Fd Z.EK
 kS:Df K mg "additions" sZ ["system","steps"] Z.Ip Z.Hu
 wI:Df K mg "minus" D3 ["one","other"] Z.Rh Z.Q1
 nG:Df K mg "row_minus" sW ["one","other"] Z.Il Z.Hq
 eQ:Df K mg "grid_turned" pC ["grid","wide"] Z.Cb Z.BL
 rN:Uv K Z.a_System "moved" Z.oH
 uu:Binds K Z.oF ["self","state","puts"] []
 uB:ME K "moved" "System.moved" ig Z.oH Z.oF
 uI:Df K mg "course" zY ["system","start","puts"] Z.O0 Z.ON
 iY:Df K mg "nought_row" qH ["many"] Z.Fc Z.EJ
 jD:Df K mg "nothing_for" pB ["system","steps"] Z.Ca Z.BK
 oC:Df K mg "lacking" xA ["system","start","goal","steps"] Z.Mt Z.Mh
 mi:Df K mg "first_with" qK ["lines","begin","place"] Z.Ff Z.EM
 rg:Df K mg "cleared" xC ["lines","at","place","before"] Z.Mv Z.Mj
 mj:Df K mg "brought_up" qL ["lines","at","to"] Z.Fg Z.EO
 ue:Df K mg "swept" DY ["rows","wide"] Z.Q9 Z.QZ
 pW:Df K mg "solved" zT ["rows","wide","due"] Z.OV Z.OI
 uf:Df K mg "solve" DZ ["rows","wide","due"] Z.Rf Z.Q0
 uH:Df K mg "flat" Jh ["lists"] Z.Up Z.Uj
 mh:Df K mg "grid_times" qJ ["one","other","wide"] Z.Fe Z.EL
 uE:Df K mg "parted" zU ["one","other"] Z.OW Z.OJ
 kR:Df K mg "parted_by" sX ["weights","row"] Z.Im Z.Hs
 uF:Df K mg "led_to" zW ["weights","lists","wide"] Z.OY Z.OL
 qZ:Df K mg "reduced" xx ["rows","wide"] Z.Mr Z.Mf
 kQ:Df K mg "reach_grown" pA ["system","steps"] Z.BZ Z.BJ
 kO:Df K mg "weights_for" pk ["rows","wide","row"] Z.BY Z.BI
 Ju:Df K mg "cut" Ng ["row","many","wide"] Z.So Z.Sl
 yO:Df K mg "come" Ji ["system","start","goal","steps"] Z.Uq Z.Uk
 rf:Df K mg "puts_at" xy ["price","weights","lists"] Z.Ms Z.Mg
 mO:Df K mg "least" D4 ["system","weights","start","goal","steps"] Z.Ri Z.Q2
 eP:Df K mg "_law_kept" tO ["_law_thing"] Z.uv Z.uo
 gY:Df K mg "_law_spoil" qN ["_law_thing"] Z.rG Z.rB
 iZ:Df K mg "_law_added" qU ["_law_parts_here","_law_steps_here"] Z.Fq Z.EZ
 nU:Df K mg "_law_less" tK ["_law_one","_law_other"] Z.ID Z.HW
 gZ:Df K mg "_law_minus" qR ["_law_one","_law_other"] Z.Fn Z.EW
 j5:Df K mg "_law_alone" qT ["_law_parts_here","_law_start","_law_steps_here"] Z.Fp Z.EY
 nM:Df K mg "_law_quot" tu ["_law_one","_law_other"] Z.Iu Z.HM
 kY:Df K mg "_law_lean" tL ["_law_rows","_law_wide"] Z.IE Z.HX
 gL:Df K mg "_law_is_number" lN ["_law_thing"] Z.ya Z.xW
 iq:Df K mg "_law_is_row" pK ["_law_thing","_law_many"] Z.Cg Z.BQ
 kU:Df K mg "_law_priced" pH ["_law_parts_here","_law_start","_law_goal_here","_law_steps_here","_law_price"] Z.Ce Z.BO
 j6:Df K mg "_law_is_grid" oo ["_law_thing","_law_many","_law_wide"] Z.A3 Z.AX
 mF:Df K mg "_law_leads" qS ["_law_parts_here","_law_start","_law_goal_here","_law_steps_here","_law_puts_here"] Z.Fo Z.EX
 k6:Df K mg "_law_effort" pL ["_law_weights_here","_law_puts_here"] Z.Ci Z.BR
 nK:Df K mg "_law_tied" td ["_law_parts_here","_law_weights_here","_law_puts_here","_law_price"] Z.Iq Z.Hv
 mC:Df K mg "_law_right" qO ["_law_system_here","_law_parts_here","_law_weights_here","_law_start","_law_goal_here","_law_steps_here"] Z.Fj Z.ET
 Ss:ME K "law" "law" Nf Z.Sm Z.Sk
 abs:mg "abs"=none
 len:mg "len"=none
 min:mg "min"=none
 int:mg "int"=none
 range:mg "range"=none
 isinstance:mg "isinstance"=none
 list:mg "list"=none
 bool:mg "bool"=none
 tuple:mg "tuple"=none
 all:mg "all"=none
 enumerate:mg "enumerate"=none
 max:mg "max"=none
 zip:mg "zip"=none
 sum:mg "sum"=none
 reversed:mg "reversed"=none
 mg_NOUGHT:mg "NOUGHT"=some (.ref Z.a_NOUGHT)
 sq_NOUGHT:∀H,j8 K H Z.a_NOUGHT [.int 0,.int 1]
 mg_ONE:mg "ONE"=some (.ref Z.a_ONE)
 sq_ONE:∀H,j8 K H Z.a_ONE [.int 1,.int 1]
 mg_MOST_STATES:mg "MOST_STATES"=some (.int 8 Z.t_MOST_STATES)
 mg_MOST_PUTS:mg "MOST_PUTS"=some (.int 4 Z.t_MOST_PUTS)
 mg_MOST_LOOKS:mg "MOST_LOOKS"=some (.int 4 Z.t_MOST_LOOKS)
 mg_System:mg "System"=some (.ref Z.a_System)
 cl_System:MG K Z.a_System
 na_move:lC K Z.a_System "move"
 na_states:lC K Z.a_System "states"
 na_put:lC K Z.a_System "put"
 na_ins:lC K Z.a_System "ins"
 na_look:lC K Z.a_System "look"
 na_outs:lC K Z.a_System "outs"
 mk_System:Mk K Z.a_System Z.lB
section
variable {P:Program} {w:World} {K:W.Frag} {mg:Str->Option Value} {base:Heap} {Z:Ads}
theorem Gd:sC ["_law_script"] 1 vz:=by walk_at "d"
theorem GD (T:Txt K mg Z) (ptree:P.given.tree=none):T.oU.o P w base 1 (Na K):=by
 refine T.oU.F.k Gd ?_;walk_at "i";obtain a|ns|rfl|hS|hlen|k:=h;refine #[_,(az (aT (dG (xK ai ai ai (cn ["_law_cell"] [] [] (cC (Gy Kw bL KE (KD ai))) (λ_=>(eX 0)) (λ_=>cA) (λ_=>(ba wX (by rfl) T.abs PyProof.Rows.boot_abs (c4 bL)))))))),?_];walk_at "s"
 try rw[ib]
 exists #[a,_,rfl,hS,λl hl=>?_];have hcl:(wW (ns.map V.int) none (some 63)).9<=63:=af (yu _ _ _) (by simpa using hlen);refine #[l,rfl,#[_,bC.of aK],?_];refine iu (K:=K) (a:=l) (xs:=wW (ns.map V.int) none (some 63)) (λi ys H'=>H'=upd H l (.lst (wW (ns.map V.int) none (some 63)))/\∃cs:List Int,ys=cs.map V.int/\∀x∈cs,0<=x) (af hcl ()) #[rfl,[],rfl,λ_ z=>nomatch z] (λi ys H' _ #[e,_]=>by subst e;exact bC.of aK) ?_ ?_
 ·rintro i x ys H' hx hi ⟨rfl,cs,rfl,hcs⟩
  obtain ⟨z,rfl⟩:∃z,x=V.int z:=by
   have hm:x∈ns.map V.int:=List.mem_of_mem_drop (bN (ar hx));obtain z|_|e:=aA.mp hm;exact #[z,e.symm]
  exists #[rfl,cs++[if z < 0 then -z else z],by simp,λx hx=>?_];rcases av.mp hx with hx | hx
  ·exact hcs x hx
  ·have e:x=if z < 0 then -z else z:=by simpa using hx
   subst e
   split <;> lia
 ·rintro ys H' hy ⟨rfl,cs,rfl,hcs⟩ p hp;exists #[by show 4<=sizeLine;decide,λb hb=>?_];have n1:b≠p:=λz=>by rw[z,aK] at hb;cases hb
  have hb1:(upd H l (.lst (wW (ns.map V.int) none (some 63)))) b=none:=by rw[bG n1] at hb;exact hb
  have s1:aH H (upd H l (.lst (wW (ns.map V.int) none (some 63)))):=aH.new hl;refine k b _ (s1.free hb1) #[p,0,1234567891,0,cs,aK,by rw[bG n1.symm];exact aK,(),(),(),hcs] ((s1.trans (aH.new hp)).trans (aH.new hb))
theorem fH:sC ["_law_bag_here","_law_many","_law_more","_law_cell","_law_value","_law_first","_law_second"] 2 tm:=by walk_at "d"
theorem aY (T:Txt K mg Z) (ptree:P.given.tree=none):T.aU.o P w base 1 Pp:=by
 refine T.aU.F.k fH ?_;walk_at "i";obtain p|n|rfl|⟨q,a,b,c,cs,hp,hq,ha,hc,hcl,hcs⟩|hn|hn2|k:=h;have nqp:q≠p:=Mp hp hq
 refine #[_,(ks (cN (be fj (aS bE bL ai) ai (bo _)) (ao (d6 2 fH.nd ai)
  (ks (cN (be tW (aS bE bL ai) (ba aR (by rfl) T.len aL (c4 (aS bE bL ai))) (bo _)) (ao (d6 3 fH.nd (aS bE (aS bE bL ai) (aS bE bL ai)))
  (ao (Qq bL ai Ol ai T7 set_list)
  (ao (cN (be CS fX ai (bo _)) (az (gW fX (i8 bL ai set_list))) bI)
  (az (d6 2 fH.nd (bD fV (bD pN fX ai) ai)))))) bI)
  (az (gW (bD pN (bD fV (bD cR (aS bE bL ai) ai) eo) ai) (i8 bL ai set_list))))) bI)
  (ao (cN (be tY (aS bE bL ai) ai (bo _)) (ao (d6 4 fH.nd (bD pN (aS bE bL ai) cM))
  (ao (gW (bD (jA rfl fH rfl rfl rfl ptree (uj hr)) (aS bE bL ai) cM) (i8 bL ai set_list))
  (az (aT mU)))) bI)
  (ao (d6 5 fH.nd (bD pN (bD cR (aS bE bL ai) ai) ai))
  (ao (d6 6 fH.nd (bD pN (bD cR qo ai) ai))
  (ao (cN (be tY cM ai (bo _)) (az (aT (bD pN (bD fV (bD cR nY ai) qo) cM))) bI)
  (az (aT (bD pN (bD (jA rfl fH rfl rfl rfl ptree (uj hr)) nY ai) cM)))))))),?_]
 walk_at "s"
 try rw[ib]
 refine #[λσ' H'=>∃(x y:Option V) (a' b' c':Int),σ'=[some (.ref p),some (.int n),x,y,none,none,none]/\H' p=some (.lst [.int a',.int b',.int c',.ref q])/\0<=a'/\0<=c'/\c'<=cs.9/\cY p H H',?_,?_]
 ·exists iO (λh0=>?_) (λh0=>?_)
  ·exists #[λσ' H'=>∃(m:Int) (y:Option V) (a' c':Int),σ'=[some (.ref p),some (.int n),some (.int m),y,none,none,none]/\H' p=some (.lst [.int a',.int b,.int c',.ref q])/\0<=a'/\0<=c'/\c'<=cs.9/\cY p H H',?_,?_]
   ·exists #[_,_,rfl,.inl (bC.of hq),?_];exists iO (λh1=>?_) (λh1=>?_)
    ·have h1':c < cs.9:=by simpa using of_decide_eq_true h1
     obtain ⟨z,hz⟩:∃z,cs[c.toNat]?=some z:=#[_,ae ()];have hz0:0<=z:=hcs z (ar hz);exists b7 (bC.of hq) (v:=.int z) ?_ ?_
     ·have:=fJ (xs:=cs.map V.int) (j:=c.toNat) (v:=.int z) (by rw[aB,hz];rfl);rwa [Int.toNat_of_nonneg hc] at this
     exists iO (λh2=>?_) (λh2=>?_)
     ·exists #[_,_,z,c+1,rfl,aK,hz0,(),(),(cY.set hp).trans (cY.set aK)]
     ·exists #[_,_,a,c+1,rfl,aK,ha,(),(),cY.set hp]
    ·exists #[_,_,a,c,rfl,hp,ha,hc,hcl,cY.refl _]
   ·rintro σ' H' ⟨m,y,a',c',rfl,hp',ha',hc',hcl',u'⟩;exists #[_,_,a',_,c',rfl,aK,ha',hc',hcl',u'.trans (cY.set hp')]
  ·exists #[_,_,a,b,c,rfl,hp,ha,hc,hcl,cY.refl _]
 ·rintro σ' H' ⟨x,y,a',b',c',rfl,hp',ha',hc',hcl',u'⟩;have hq':H' q=some (.lst (cs.map V.int)):=u'.1 q _ hq nqp
  have sn:Sz 8999000 n:=by
   show n.natAbs < 2^8999000
   exact bw (show n.natAbs < 2^64 by lia) (ak () ())
  exists iO (λh0=>?_) (λh0=>?_)
  ·exists fU (show (0:Int) < n from hn) ?_;exists fU (show o6 _ _ from #[(),sn]) ?_;exists k _ _ (nW _ ()) (kh _ hn) #[q,_,b',c',cs,aK,by rw[bG nqp];exact hq',?_,hc',hcl',hcs] (u'.trans (cY.set hp'));rw[cm _ ()];exact Int.ediv_nonneg ha' ()
  ·exists iO (λh1=>?_) (λh1=>?_)
   ·exists fU (show (0:Int) < n from hn) ?_;exact k _ _ (nW _ ()) (kh _ hn) #[q,a',b',c',cs,hp',hq',ha',hc',hcl',hcs] u'
   ·exists fU (show o6 _ _ from #[(),by show (3:Nat) < 2^8999000;exact bw (show 3 < 2^2 by decide) (ak () ())]) ?_;exists fU (show (0:Int) < n from hn) ?_;exact k _ _ (nW _ ()) (kh _ hn) #[q,a',b',c',cs,hp',hq',ha',hc',hcl',hcs] u'
theorem BX:∃x1 x2 x3 x4 x5 x6 x7 x8 x9 x10 x11 x12 x13 x14 x15 x16:Expr,x1=(Expr.Constant (Const.int 0) 0 #[337,16,337,17])/\x2=(Expr.Constant (Const.int 1) 0 #[337,19,337,20])/\x3=(Expr.Constant (Const.int 1) 0 #[337,22,337,23])/\x4=(Expr.Constant (Const.int 1) 0 #[337,25,337,26])/\x5=(Expr.Constant (Const.int 2) 0 #[337,28,337,29])/\x6=(Expr.Constant (Const.int 2) 0 #[337,31,337,32])/\x7=(Expr.Constant (Const.int 3) 0 #[337,34,337,35])/\x8=(Expr.Constant (Const.int 4) 0 #[337,37,337,38])/\x9=(Expr.Constant (Const.int 0) 0 #[338,17,338,18])/\x10=(Expr.Constant (Const.int 1) 0 #[338,20,338,21])/\x11=(Expr.Constant (Const.int 1) 0 #[338,23,338,24])/\x12=(Expr.Constant (Const.int 1) 0 #[338,26,338,27])/\x13=(Expr.Constant (Const.int 2) 0 #[338,29,338,30])/\x14=(Expr.Constant (Const.int 2) 0 #[338,32,338,33])/\x15=(Expr.Constant (Const.int 3) 0 #[338,35,338,36])/\x16=(Expr.Constant (Const.int 4) 0 #[338,38,338,39])/\j7 nv=[ (Stmt.Assign (targets:=[(Expr.Name "_law_n" #[334,4,334,10])]) (value:=(Expr.Call (func:=(Expr.Name "_law_take" #[334,13,334,22])) (args:=[ (Expr.Name "_law_bag_here" #[334,23,334,36]),(Expr.Constant (Const.int 5) 0 #[334,38,334,39])]) (keywords:=[]) (pos:=#[334,13,334,40]))) (pos:=#[334,4,334,40])),(Stmt.If (test:=(Expr.Compare (left:=(Expr.Call (func:=(Expr.Name "_law_take" #[335,7,335,16])) (args:=[ (Expr.Name "_law_bag_here" #[335,17,335,30]),(Expr.Constant (Const.int 8) 0 #[335,32,335,33])]) (keywords:=[]) (pos:=#[335,7,335,34]))) (ops:=[PySem.CmpOp.Eq]) (comparators:=[(Expr.Constant (Const.int 7) 0 #[335,38,335,39])]) (pos:=#[335,7,335,39]))) (body:=[ (Stmt.Assign (targets:=[(Expr.Name "_law_n" #[336,8,336,14])]) (value:=(Expr.Constant (Const.int 5) 0 #[336,17,336,18])) (pos:=#[336,8,336,18]))]) (orelse:=[]) (pos:=#[335,4,336,18])),(Stmt.Assign (targets:=[(Expr.Name "_law_ins" #[337,4,337,12])]) (value:=(Expr.Subscript (value:=(Expr.List (elts:=[x1,x2,x3,x4,x5,x6,x7,x8]) (pos:=#[337,15,337,39]))) (slice:=(Expr.Call (func:=(Expr.Name "_law_take" #[337,40,337,49])) (args:=[ (Expr.Name "_law_bag_here" #[337,50,337,63]),(Expr.Constant (Const.int 8) 0 #[337,65,337,66])]) (keywords:=[]) (pos:=#[337,40,337,67]))) (pos:=#[337,15,337,68]))) (pos:=#[337,4,337,68])),(Stmt.Assign (targets:=[(Expr.Name "_law_outs" #[338,4,338,13])]) (value:=(Expr.Subscript (value:=(Expr.List (elts:=[x9,x10,x11,x12,x13,x14,x15,x16]) (pos:=#[338,16,338,40]))) (slice:=(Expr.Call (func:=(Expr.Name "_law_take" #[338,41,338,50])) (args:=[ (Expr.Name "_law_bag_here" #[338,51,338,64]),(Expr.Constant (Const.int 8) 0 #[338,66,338,67])]) (keywords:=[]) (pos:=#[338,41,338,68]))) (pos:=#[338,16,338,69]))) (pos:=#[338,4,338,69])),(Stmt.If (test:=(Expr.Compare (left:=(Expr.Name "_law_n" #[339,7,339,13])) (ops:=[PySem.CmpOp.Eq]) (comparators:=[(Expr.Constant (Const.int 5) 0 #[339,17,339,18])]) (pos:=#[339,7,339,18]))) (body:=[ (Stmt.Assign (targets:=[ (Expr.Tuple (elts:=[(Expr.Name "_law_ins" #[340,8,340,16]),(Expr.Name "_law_outs" #[340,18,340,27])]) (k:=0) (pos:=#[340,8,340,27]))]) (value:=(Expr.Tuple (elts:=[ (Expr.Call (func:=(Expr.Name "min" #[340,31,340,34])) (args:=[ (Expr.Name "_law_ins" #[340,35,340,43]),(Expr.Constant (Const.int 2) 0 #[340,45,340,46])]) (keywords:=[]) (pos:=#[340,31,340,47])),(Expr.Call (func:=(Expr.Name "min" #[340,49,340,52])) (args:=[ (Expr.Name "_law_outs" #[340,53,340,62]),(Expr.Constant (Const.int 2) 0 #[340,64,340,65])]) (keywords:=[]) (pos:=#[340,49,340,66]))]) (k:=0) (pos:=#[340,30,340,67]))) (pos:=#[340,8,340,67]))]) (orelse:=[]) (pos:=#[339,4,340,67])),(Stmt.Assign (targets:=[(Expr.Name "_law_wide" #[341,4,341,13])]) (value:=(Expr.Subscript (value:=(Expr.List (elts:=[ (Expr.Constant (Const.int 4) 0 #[341,17,341,18]),(Expr.Constant (Const.int 4) 0 #[341,20,341,21]),(Expr.Constant (Const.int 9) 0 #[341,23,341,24]),(Expr.Constant (Const.int 1000000) 0 #[341,26,341,33])]) (pos:=#[341,16,341,34]))) (slice:=(Expr.Call (func:=(Expr.Name "_law_take" #[341,35,341,44])) (args:=[ (Expr.Name "_law_bag_here" #[341,45,341,58]),(Expr.Constant (Const.int 4) 0 #[341,60,341,61])]) (keywords:=[]) (pos:=#[341,35,341,62]))) (pos:=#[341,16,341,63]))) (pos:=#[341,4,341,63])),(Stmt.If (test:=(Expr.Compare (left:=(Expr.Name "_law_wide" #[342,7,342,16])) (ops:=[PySem.CmpOp.Gt]) (comparators:=[(Expr.Constant (Const.int 9) 0 #[342,19,342,20])]) (pos:=#[342,7,342,20]))) (body:=[ (Stmt.Assign (targets:=[(Expr.Name "_law_n" #[343,8,343,14])]) (value:=(Expr.Call (func:=(Expr.Name "min" #[343,17,343,20])) (args:=[ (Expr.Name "_law_n" #[343,21,343,27]),(Expr.Constant (Const.int 2) 0 #[343,29,343,30])]) (keywords:=[]) (pos:=#[343,17,343,31]))) (pos:=#[343,8,343,31]))]) (orelse:=[]) (pos:=#[342,4,343,31])),(Stmt.Return (value:=(some (Expr.Tuple (elts:=[ (Expr.Name "_law_n" #[344,12,344,18]),(Expr.Name "_law_ins" #[344,20,344,28]),(Expr.Name "_law_outs" #[344,30,344,39]),(Expr.Name "_law_wide" #[344,41,344,50])]) (k:=0) (pos:=#[344,11,344,51])))) (pos:=#[344,4,344,51]))]:=#[_,_,_,_,_,_,_,_,_,_,_,_,_,_,_,_,rfl,rfl,rfl,rfl,rfl,rfl,rfl,rfl,rfl,rfl,rfl,rfl,rfl,rfl,rfl,rfl,by with_unfolding_all rfl]
theorem fL:sC ["_law_bag_here","_law_n","_law_ins","_law_outs","_law_wide"] 1 nv:=by walk_at "d"
theorem BB (T:Txt K mg Z) (ptree:P.given.tree=none):T.mB.o P w base 2 Lo:=by
 refine T.mB.F.k fL ?_;walk_at "i";obtain b|rfl|hB|k:=h;obtain x1|x2|x3|x4|x5|x6|x7|x8|x9|x10|x11|x12|x13|x14|x15|x16|hx1|hx2|hx3|hx4|hx5|hx6|hx7|hx8|hx9|hx10|hx11|hx12|hx13|hx14|hx15|hx16|hbd:=BX;rw[hbd]
 refine #[_,(ao (d6 1 fL.nd (cw (aY T ptree) hr T.aU (cH bL ai)))
  (ks (cN (be fj (cw (aY T ptree) hr T.aU (cH bL ai)) ai (bo _)) (az (d6 1 fL.nd ai)) bI)
  (ao (d6 2 fL.nd (aS bE (dG (fD hx1 ai (fD hx2 ai (fD hx3 ai (fD hx4 ai (fD hx5 ai (fD hx6 ai (fD hx7 ai (fD hx8 ai jy))))))))) (cw (aY T ptree) hr T.aU (cH bL ai))))
  (ao (d6 3 fL.nd (aS bE (dG (fD hx9 ai (fD hx10 ai (fD hx11 ai (fD hx12 ai (fD hx13 ai (fD hx14 ai (fD hx15 ai (fD hx16 ai jy))))))))) (cw (aY T ptree) hr T.aU (cH bL ai))))
  (ks (cN (be fj cM ai (bo _)) (az (NB (i:=2) (j:=3) rfl fL.nd rfl rfl () rfl rfl (cH (ba (uM rfl) (by rfl) T.min PyProof.Rows.boot_min (cH eo ai)) (ba (uM rfl) (by rfl) T.min PyProof.Rows.boot_min (cH fX ai))) rfl)) bI)
  (ao (d6 4 fL.nd (aS bE (dG (xK ai ai ai ai)) (cw (aY T ptree) hr T.aU (cH bL ai))))
  (ks (cN (be tY mU ai (bo _)) (az (d6 1 fL.nd (ba (uM rfl) (by rfl) T.min PyProof.Rows.boot_min (cH cM ai)))) bI)
  (az (aT (cP (xK cM eo fX mU))))))))))),?_]
 walk_at "s"
 try rw[ib]
 exists #[b,5,rfl,hB,(),(),λn H1 n0 n1 B1 u1=>?_];obtain n|rfl:=cK n0;exists #[λσ' H'=>(∃n:Nat,σ'=[some (.ref b),some (.int n),none,none,none]/\n<=5)/\ji H' b/\cY b H H',?_,?_]
 ·exists #[b,8,rfl,B1,(),(),λv H2 v0 v1 B2 u2=>?_];exists iO (λ_=>?_) (λ_=>?_)
  ·exists #[#[5,rfl,()],B2,u1.trans u2]
  ·exists #[#[n,rfl,()],B2,u1.trans u2]
 clear n0 n1 u1 B1;rintro σ' H1 ⟨⟨n,rfl,n5⟩,B1,u1⟩;exists c7 λl0 H2 s2 n2 g2=>?_
 exists #[b,8,rfl,B1.same s2,(),(),λv H3 v0 v1 B3 u3=>?_];have g3:=u3.other (λz=>B1.at (by rw[<- z];exact n2)) g2;obtain x|ex|mx|_:=lA (xs:=[V.int 0,V.int 1,V.int 1,V.int 1,V.int 2,V.int 2,V.int 3,V.int 4]) v0 (by simpa using v1)
 obtain ⟨i,rfl,hi⟩:∃z:Nat,x=.int z/\z<=4:=by
  simp only[aD,aO,or_false] at mx;rcases mx with rfl | rfl | rfl | rfl | rfl | rfl | rfl | rfl
  ·exact #[0,rfl,()]
  ·exact #[1,rfl,()]
  ·exact #[1,rfl,()]
  ·exact #[1,rfl,()]
  ·exact #[2,rfl,()]
  ·exact #[2,rfl,()]
  ·exact #[3,rfl,()]
  ·exact #[4,rfl,()]
 exists b7 (bC.of g3) ex ?_;clear ex mx g3 g2;exists c7 λl1 H4 s4 n4 g4=>?_
 exists #[b,8,rfl,B3.same s4,(),(),λt H5 t0 t1 B5 u5=>?_];have g5:=u5.other (λz=>B3.at (by rw[<- z];exact n4)) g4;obtain x|ex|mx|_:=lA (xs:=[V.int 0,V.int 1,V.int 1,V.int 1,V.int 2,V.int 2,V.int 3,V.int 4]) t0 (by simpa using t1)
 obtain ⟨o,rfl,ho⟩:∃z:Nat,x=.int z/\z<=4:=by
  simp only[aD,aO,or_false] at mx;rcases mx with rfl | rfl | rfl | rfl | rfl | rfl | rfl | rfl
  ·exact #[0,rfl,()]
  ·exact #[1,rfl,()]
  ·exact #[1,rfl,()]
  ·exact #[1,rfl,()]
  ·exact #[2,rfl,()]
  ·exact #[2,rfl,()]
  ·exact #[3,rfl,()]
  ·exact #[4,rfl,()]
 exists b7 (bC.of g5) ex ?_;clear ex mx g5 g4;have u15:=(((u1.same s2).trans u3).same s4).trans u5;exists #[λσ' H'=>(∃i o:Nat,σ'=[some (.ref b),some (.int n),some (.int i),some (.int o),none]/\i<=4/\o<=4/\(n=5->i<=2/\o<=2))/\ji H' b/\cY b H H',?_,?_]
 ·exists iO (λh0=>?_) (λh0=>?_)
  ·exists #[#[min i 2,min o 2,?_,(),(),λ_=>#[(),()]],B5,u15];have e1:(if (2:Int) < (i:Int) then (2:Int) else (i:Int))=((min i 2:Nat):Int):=by split <;> lia
   have e2:(if (2:Int) < (o:Int) then (2:Int) else (o:Int))=((min o 2:Nat):Int):=by split <;> lia
   rw[<- e1,<- e2];rfl
  ·exists #[#[i,o,rfl,hi,ho,λz=>absurd (decide_eq_true (show (n:Int)=5 by lia)) h0],B5,u15]
 clear hi ho u15 B5 u5 u3 u1;rintro σ' H5 ⟨⟨i,o,rfl,hi,ho,h5⟩,B5,u5⟩;exists c7 λl2 H6 s6 n6 g6=>?_
 exists #[b,4,rfl,B5.same s6,(),(),λv H7 v0 v1 B7 u7=>?_];have g7:=u7.other (λz=>B5.at (by rw[<- z];exact n6)) g6;obtain x|ex|mx|_:=lA (xs:=[V.int 4,V.int 4,V.int 9,V.int 1000000]) v0 (by simpa using v1)
 obtain ⟨w,rfl,hw⟩:∃w:Nat,x=.int w/\(w=4\/w=9\/w=1000000):=by
  simp only[aD,aO,or_false] at mx;rcases mx with rfl | rfl | rfl | rfl
  ·exact #[4,rfl,.inl rfl]
  ·exact #[4,rfl,.inl rfl]
  ·exact #[9,rfl,.inr (.inl rfl)]
  ·exact #[1000000,rfl,.inr (.inr rfl)]
 exists b7 (bC.of g7) ex ?_;have u07:=(u5.same s6).trans u7;exists #[λσ' H'=>(∃n:Nat,σ'=[some (.ref b),some (.int n),some (.int i),some (.int o),some (.int w)]/\n<=5/\(w=4\/w=9\/(w=1000000/\n<=2))/\(n=5->i<=2/\o<=2))/\ji H' b/\cY b H H',?_,?_]
 ·exists iO (λh0=>?_) (λh0=>?_)
  ·exists #[#[min n 2,?_,(),(),λz=>()],B7,u07];have e1:(if (2:Int) < (n:Int) then (2:Int) else (n:Int))=((min n 2:Nat):Int):=by split <;> lia
   rw[<- e1];rfl
  ·exists #[#[n,rfl,n5,?_,h5],B7,u07];rcases hw with z | z | z
   ·exact .inl z
   ·exact .inr (.inl z)
   ·exact absurd (decide_eq_true (show (9:Int) < (w:Int) by lia)) h0
 ·clear h5 n5;rintro σ' H8 ⟨⟨n',rfl,n5,hwn,h5⟩,B8,u8⟩;exists bR λr H9 s9 g9=>?_
  exact k r n' i o w H9 g9 n5 hi ho hwn h5 (B8.same s9) (u8.same s9)
theorem jL:sC ["_law_bag_here","_law_n","_law_move_here","_law_at","_law_put","_law_first","_law_look"] 2 tJ:=by walk_at "d"
theorem Ek (T:Txt K mg Z) (ptree:P.given.tree=none):T.nR.o P w base 2 (FV K):=by
 refine T.nR.F.k jL ?_;walk_at "i";obtain b|n|rfl|hB|n1|n8|k:=h
 refine #[_,(ao (nB 2 ["_law_i"] ["_law_n"] [1] jL.nd rfl rfl (cu rfl T.range (c4 cM)) (λ_=>(eX 0)) (λ_=>cA) (λ_=>(cn ["_law_j"] ["_law_i"] [0] (cu rfl T.range (c4 cM)) (λ_=>(eX 0)) (λ_=>cA) (λ_=>(cP (cH (dB p5 (by rfl) T.int PyProof.Rows.boot_int (c4 (jh fj bL (bD fV cM ai) (bo _)))) ai))))))
  (ao (gW (cn ["_law_j"] ["_law_bag_here"] [0] (cu rfl T.range (c4 cM)) (λ_=>(eX 0)) (λ_=>cA) (λ_=>(cP (cH (bD jz (cw (aY T ptree) hr T.aU (cH cM ai)) ai) ai)))) (i8 eo (bD jz cM ai) set_list))
  (ao (d6 3 jL.nd (aS bE (dG (cH (bD jz cM ai) (cw (aY T ptree) hr T.aU (cH bL cM)))) (cw (aY T ptree) hr T.aU (cH bL ai))))
  (ao (d6 4 jL.nd (dG (c4 (cn ["_law_j"] ["_law_at"] [3] (cu rfl T.range (c4 cM)) (λ_=>(eX 0)) (λ_=>cA) (λ_=>(cP (cH (dB p5 (by rfl) T.int PyProof.Rows.boot_int (c4 (jh fj bL cM (bo _)))) ai)))))))
  (ao (d6 5 jL.nd (aS bE (dG (qq ai ai (cw (aY T ptree) hr T.aU (cH bL cM)))) (cw (aY T ptree) hr T.aU (cH bL ai))))
  (ao (d6 6 jL.nd (dG (c4 (cn ["_law_j"] ["_law_first"] [5] (cu rfl T.range (c4 cM)) (λ_=>(eX 0)) (λ_=>cA) (λ_=>(cP (cH (dB p5 (by rfl) T.int PyProof.Rows.boot_int (c4 (jh fj bL cM (bo _)))) ai)))))))
  (az (aT (cP (qq eo mU nY)))))))))),?_]
 walk_at "s"
 try rw[ib]
 have bit:∀{z:Int},∀y∈(List.range n).map (λ(j:Nat)=>(((if decide ((j:Int)=z)=true then 1 else 0:Int)):Rat)),Fr 1 1 y:=λy hy=>by
  obtain j|_|rfl:=aA.mp hy;exact U6 (by split <;> simp)
 exists #[(),(),?_];refine jQ (n:=n) (dq K H) (λ(i:Nat)=>(List.range n).map λ(j:Nat)=>(((if decide ((j:Int)=(i:Int)+1)=true then 1 else 0:Int)):Rat)) () (λa b=>a.same b) ?_ ?_
 ·rintro i Hb NY NN hi sa k1;exists #[(),(),?_];refine jQ (n:=n) (bO K) (λ(j:Nat)=>(((if decide ((j:Int)=(i:Int)+1)=true then 1 else 0:Int)):Rat)) () (λa b=>a.same b) ?_ ?_
  ·rintro j Hz NY2 NN2 hj sz k2;exists bR λt Hy sy gy=>?_
   exact k2 _ _ sy (bO.mk gy rfl)
  ·rintro ys Hz t ht sz g pr nx;exact k1 _ _ sz #[t,rfl,sa.none ht,ys,g,pr]
 rintro ys H1 mm hm s1 g1 pr1 nx1;have G1:bu K H H1 mm ((List.range n).map λ(i:Nat)=>(List.range n).map λ(j:Nat)=>(((if decide ((j:Int)=(i:Int)+1)=true then 1 else 0:Int)):Rat)):=#[ys,g1,pr1,jC nx1];clear g1 pr1 nx1;have B1:=hB.same s1;have mb:mm≠b:=λz=>hB.at (by rw[<- z];exact hm)
 obtain q0|I0|xq|gq0:=hB.inner;have mq:mm≠q0:=λz=>by rw[<- z,hm] at gq0;cases gq0
 exists #[(),(),?_];refine xX (n:=n) (b:=b) (bO K) (Fr 1 1) B1 () (λa u B=>a.upto u B) ?_ ?_
 ·rintro j Ha NY NN hj ua Ba k1;exists #[b,3,rfl,Ba,(),(),λv Hb v0 v1 Bb ub=>?_];exists bR λt Hc sc gc=>?_
  exact k1 _ ((v - 1:Int):Rat) _ (ub.same sc) (Bb.same sc) (Fr.int ()) (bO.mk gc rfl)
 rintro ys2 cs H2 q2 hq2 u2 B2 g2 lc hc pr2 _;have u02:=(s1.upto (p:=b)).trans u2;have nq2:H q2=none:=s1.none hq2;obtain us|gu|pu:=(G1.upto u2 B1 mb hB.at).toE;have lu:=pu.9;rw[ag,bU] at lu
 have q2m:q2≠mm:=λz=>by
  obtain _|gg|_:=id G1;rw[z,gg] at hq2;cases hq2
 walk_at "w";rw[show ((n:Int) - 1)=((n - 1:Nat):Int) by lia];refine fW gu (gO ()) rfl ?_;have G3:bu K H (upd H2 mm (.lst (us.set (n - 1) (.ref q2)))) mm (((List.range n).map λ(i:Nat)=>(List.range n).map λ(j:Nat)=>(((if decide ((j:Int)=(i:Int)+1)=true then 1 else 0:Int)):Rat)).set (n - 1) cs):=bu.ofE aK (lO (Paired.imp' (λ_ _ z=>pS.updL z gu (λq h=>h.2)) pu) (n - 1) #[q2,rfl,#[nq2,q2m],bK.updL #[ys2,g2,pr2] gu q2m]) (λq h=>h.1) (λq h=>h.2);have B3:ji (upd H2 mm (.lst (us.set (n - 1) (.ref q2)))) b:=B2.upd (u02.2 _ I0) mb mq;have u03:cY b H (upd H2 mm (.lst (us.set (n - 1) (.ref q2)))):=u02.after hm;obtain ⟨mv,emv⟩:∃mv,mv=((List.range n).map λ(i:Nat)=>(List.range n).map λ(j:Nat)=>(((if decide ((j:Int)=(i:Int)+1)=true then 1 else 0:Int)):Rat)).set (n - 1) cs:=#[_,rfl];have lmv:mv.9=n:=by rw[emv,eH,ag,bU]
 have hmv:∀xs∈mv,xs.9=n/\∀y∈xs,Fr 1 1 y:=λxs hx=>by
  rw[emv] at hx;rcases cx hx with hx | rfl
  ·obtain i|_|rfl:=aA.mp hx;exact #[by rw[ag,bU],bit]
  ·exact #[lc,hc]
 rw[<- emv] at G3;generalize upd H2 mm (.lst (us.set (n - 1) (.ref q2)))=H3 at G3 B3 u03 ⊢;clear emv pu gu G1 u2 pr2 g2 B2;exists #[b,n,rfl,B3,(),(),λa1 H4 a10 a11 B4 u4=>?_];exists c7 λl1 H5 s5 nl1 g5=>?_
 exists #[b,2,rfl,B4.same s5,(),(),λv H6 v0 v1 B6 u6=>?_];have g6:=u6.other (λz=>B4.at (by rw[<- z];exact nl1)) g5;obtain x|ex|mx|_:=lA (xs:=[V.int ((n:Int) - 1),V.int a1]) v0 (by simpa using v1)
 obtain ⟨at',rfl⟩:∃a:Int,x=.int a:=by
  simp only[aD,aO,or_false] at mx;rcases mx with rfl | rfl
  ·exact #[_,rfl]
  ·exact #[_,rfl]
 exists b7 (bC.of g6) ex ?_;have u36:=(u4.same s5).trans u6;have G6:=G3.upto u36 B3 mb hB.at;have u06:=u03.trans u36;clear ex mx g6 g5 G3 u4 u6;exists #[(),(),?_];refine jQ (n:=n) (bO K) (λ(j:Nat)=>(((if decide ((j:Int)=at')=true then 1 else 0:Int)):Rat)) () (λa b=>a.same b) ?_ ?_
 ·rintro j Hz NY2 NN2 hj sz k2;exists bR λt Hy sy gy=>?_
  exact k2 _ _ sy (bO.mk gy rfl)
 rintro ys7 H7 q7 hq7 s7 g7 pr7 _;have R7:bK K H7 q7 _:=#[ys7,g7,pr7];exists c7 λp8 H8 s8 n8' g8=>?_
 have s68:=s7.trans s8;have q78:q7≠p8:=λz=>by rw[z,n8'] at g7;cases g7
 have np8:H p8=none:=u06.none B6 (s7.none n8');have nq7:H q7=none:=u06.none B6 hq7
 have GP:bu K H H8 p8 [(List.range n).map λ(j:Nat)=>(((if decide ((j:Int)=at')=true then 1 else 0:Int)):Rat)]:=#[_,g8,.cons #[q7,rfl,nq7,R7.same s8] .nil,λz=>by
  rw[bh] at z;cases z;exact q78 rfl]
 have B8:=B6.same s68;have u08:=u06.same s68;have G8:=G6.same s68;have pb:p8≠b:=λz=>hB.at (by rw[<- z];exact np8)
 exists #[b,n,rfl,B8,(),(),λa2 H9 a20 a21 B9 u9=>?_];exists c7 λl2 Ha sa nl2 ga=>?_
 exists #[b,3,rfl,B9.same sa,(),(),λv' Hb v0' v1' Bb ub=>?_];have gb:=ub.other (λz=>B9.at (by rw[<- z];exact nl2)) ga;obtain x|ex|mx|_:=lA (xs:=[V.int 0,V.int 0,V.int a2]) v0' (by simpa using v1')
 obtain ⟨fi,rfl⟩:∃a:Int,x=.int a:=by
  simp only[aD,aO,or_false] at mx;rcases mx with rfl | rfl | rfl
  ·exact #[_,rfl]
  ·exact #[_,rfl]
  ·exact #[_,rfl]
 exists b7 (bC.of gb) ex ?_;have u8b:=(u9.same sa).trans ub;have Gb:=G8.upto u8b B8 mb hB.at;have GPb:=GP.upto u8b B8 pb hB.at;have u0b:=u08.trans u8b;clear ex mx gb ga G8 GP u9 ub;exists #[(),(),?_];refine jQ (n:=n) (bO K) (λ(j:Nat)=>(((if decide ((j:Int)=fi)=true then 1 else 0:Int)):Rat)) () (λa b=>a.same b) ?_ ?_
 ·rintro j Hz NY2 NN2 hj sz k2;exists bR λt Hy sy gy=>?_
  exact k2 _ _ sy (bO.mk gy rfl)
 rintro ysc Hc qc hqc sc gc prc _;have Rc:bK K Hc qc _:=#[ysc,gc,prc];exists c7 λpd Hd sd nd gd=>?_
 have sbd:=sc.trans sd;have qcd:qc≠pd:=λz=>by rw[z,nd] at gc;cases gc
 have npd:H pd=none:=u0b.none Bb (sc.none nd);have nqc:H qc=none:=u0b.none Bb hqc
 have GL:bu K H Hd pd [(List.range n).map λ(j:Nat)=>(((if decide ((j:Int)=fi)=true then 1 else 0:Int)):Rat)]:=#[_,gd,.cons #[qc,rfl,nqc,Rc.same sd] .nil,λz=>by
  rw[bh] at z;cases z;exact qcd rfl]
 exists bR λr He se ge=>?_
 have sbe:=sbd.trans se;refine k r mv _ _ He #[mm,p8,pd,ge,hm,np8,npd,Gb.same sbe,GPb.same sbe,GL.same se] lmv rfl rfl #[(),by simp,by simp,λxs hx=>by rw[(hmv xs hx).1,lmv],λxs hx=>?_,λxs hx=>?_] (λxs hx=>(hmv xs hx).2) (λxs hx=>?_) (λxs hx=>?_) (Bb.same sbe) (u0b.same sbe)
 ·rw[bh.mp hx,ag,bU,lmv]
 ·rw[bh.mp hx,ag,bU,lmv]
 ·rw[bh.mp hx];exact bit
 ·rw[bh.mp hx];exact bit
theorem kr:sC ["_law_top","_law_bottom","_law_one","_law_other"] 2 vp:=by walk_at "d"
theorem gG (T:Txt K mg Z) (ptree:P.given.tree=none):T.d7.o P w base 1 SU:=by
 refine T.d7.F.k kr ?_;walk_at "i";obtain t|b|rfl|hb|hs|k:=h
 refine #[_,(ao (d6 2 kr.nd (ba wX (by rfl) T.abs PyProof.Rows.boot_abs (c4 bL)))
  (ao (d6 3 kr.nd cM)
  (ao (Af PassesOwn.never (be uU eo ai (bo _))
   (az (NB (i:=2) (j:=3) rfl kr.nd rfl rfl () rfl rfl (cH (bD pN fX eo) eo) rfl)))
  (az (aT (cP (cH (bD (jA rfl kr rfl rfl rfl ptree (uj hr)) bL fX) (bD (jA rfl kr rfl rfl rfl ptree (uj hr)) cM fX)))))))),?_]
 walk_at "s"
 try rw[ib]
 walk_at "w"
 refine Dw (λσ' H'=>∃(u v:Int),σ'=[some (.int t),some (.int b),some (.int u),some (.int v)]/\H'=H/\0<=u/\0 < v/\Int.gcd u v=Int.gcd t b) (λσ' _=>match σ' with | [_,_,some (.int u),_]=>u.natAbs | _=>0) #[_,b,rfl,rfl,by split <;> lia,hb,by
  split
  ·rw[Int.neg_gcd]
  ·rfl] ?_
 rintro σ' H' ⟨u,v,rfl,rfl,hu,hv,hg⟩;exists iO (λh=>?_) (λh=>?_)
 ·have hu0:u≠0:=λz=>by subst z;simp at h
  exists fU (show (0:Int) < u by lia) ?_;walk_at "w";have h1:=nW v hu0;have h2:=kh v (show 0 < u by lia);exact #[#[v % u,u,rfl,rfl,h1,(),by rw[kg,Oq,kg];exact hg],by show (v % u).natAbs < u.natAbs;lia]
 ·have hu0:u=0:=by
   by_cases z:u=0
   ·exact z
   ·exfalso;apply h;simp [z]
  subst hu0
  have e:v=g t b:=by
   unfold g;rw[<- hg,Int.gcd_zero_left]
   lia
  have hgs:Sz 8999000 v:=hs.le (by
   rw[e];have h1:(g t b).natAbs=Int.gcd t b:=by unfold g;simp
   rw[h1];exact iD () (by have:=gU (a:=t) (b:=b);exact fM.mpr this |> λz=>by simpa using z))
  exists fU (show o6 _ _ from #[(),hgs]) ?_;exists fU (show o6 _ _ from #[(),hgs]) ?_;exists bR λr H' s' h'=>?_
  rw[cm _ (),cm _ (),e] at h';exact k r H' s' h'
theorem sT:sC ["_law_bag_here","_law_wide","_law_way"] 2 pJ:=by walk_at "d"
theorem Ar (T:Txt K mg Z) (ptree:P.given.tree=none):T.kX.o P w base 2 (zC K):=by
 refine T.kX.F.k sT ?_;walk_at "i";obtain b|w|rfl|hB|w0|w1|k:=h
 refine #[_,(ao (d6 2 sT.nd (cw (aY T ptree) hr T.aU (cH bL ai)))
  (ao (cN (be tW eo ai (bo _)) (az (aT (cP (cH ai ai)))) bI)
  (ao (cN (be tW eo ai (bo _)) (az (aT (cP (cH (bD jz (cw (aY T ptree) hr T.aU (cH bL ai)) ai) ai)))) bI)
  (ao (cN (be fj eo ai (bo _)) (az (aT (cw (gG T ptree) hr T.d7 (cH (bD jz (cw (aY T ptree) hr T.aU (cH bL ai)) ai) (bD fV ai (cw (aY T ptree) hr T.aU (cH bL ai))))))) bI)
  (az (aT (cw (gG T ptree) hr T.d7 (cH (bD jz (cw (aY T ptree) hr T.aU (cH bL (bD fV (bD cR ai cM) ai))) cM) (bD fV ai (cw (aY T ptree) hr T.aU (cH bL cM))))))))))),?_]
 walk_at "s"
 try rw[ib]
 exists #[b,8,rfl,hB,(),(),λv H1 v0 v1 B1 u1=>?_];exists iO (λh0=>?_) (λh0=>?_)
 ·exists bR λr H2 s2 g2=>?_
  exact k r 0 _ #[aW _,by show 1<=_;lia] (bO.mk g2 rfl) (B1.same s2) (u1.same s2)
 exists iO (λh1=>?_) (λh1=>?_)
 ·exists #[b,7,rfl,B1,(),(),λa H2 a0 a1 B2 u2=>?_];exists bR λr H3 s3 g3=>?_
  exact k r ((a - 3:Int):Rat) _ #[by show (a - 3).natAbs<=_;lia,by show 1<=_;lia] (bO.mk g3 rfl) (B2.same s3) ((u1.trans u2).same s3)
 exists iO (λh2=>?_) (λh2=>?_)
 ·exists #[b,13,rfl,B1,(),(),λa H2 a0 a1 B2 u2=>?_];exists #[b,6,rfl,B2,(),(),λc H3 c0 c1 B3 u3=>?_];exists #[_,_,rfl,(),(IY ()).mono (),λr H4 s4 g4=>?_];obtain q|e|d|_:=Jz (t:=a - 6) (b:=1+c) (W:=max w 6) () () ();exact k r q _ d (bO.mk g4 e) (B3.same s4) (((u1.trans u2).trans u3).same s4)
 exists #[b,_,rfl,B1,(),(),λa H2 a0 a1 B2 u2=>?_];exists #[b,_,rfl,B2,(),(),λc H3 c0 c1 B3 u3=>?_];exists #[_,_,rfl,(),(IY ()).mono (),λr H4 s4 g4=>?_];obtain q|e|d|_:=Jz (t:=a - w) (b:=1+c) (W:=max w 6) () () ();exact k r q _ d (bO.mk g4 e) (B3.same s4) (((u1.trans u2).trans u3).same s4)
theorem F9:sC ["_law_bag_here","_law_many","_law_wide"] 3 vo:=by walk_at "d"
theorem mN (T:Txt K mg Z) (ptree:P.given.tree=none):T.gK.o P w base 3 (FZ K):=by
 refine T.gK.F.k F9 ?_;walk_at "i";obtain b|m|w|rfl|hB|hm|w0|w1|k:=h;refine #[_,(az (aT (cn ["_law_k"] ["_law_bag_here","_law_wide"] [0,2] (cu rfl T.range (c4 cM)) (λ_=>(eX 0)) (λ_=>cA) (λ_=>(cw (Ar T ptree) hr T.kX (cH cM eo)))))),?_];walk_at "s"
 try rw[ib]
 exists #[(),(),?_];refine xX (n:=m) (bO K) (Dr (max w 6)) hB hm (λa u B=>a.upto u B) ?_ ?_
 ·rintro i H' NY NN hi u B k1;exists #[b,w,rfl,B,w0,w1,λr x H2 hx h2 B2 u2=>k1 _ x _ u2 B2 hx h2]
 ·rintro ys cs H' p hp u B g lc hc pr nx;exact k p cs H' hp #[ys,g,pr] lc hc B u
theorem kH:sC ["_law_bag_here","_law_n","_law_way","_law_first","_law_wide","_law_move_here","_law_i","_law_row_here","_law_j"] 5 tH:=by walk_at "d"
theorem Ei (T:Txt K mg Z) (ptree:P.given.tree=none):T.nP.o P w base 4 (FU K):=by
 refine T.nP.F.k kH ?_;walk_at "i";obtain b|n|w|way|first|rfl|hB|n8|w0|w1|k:=h
 refine #[_,(ao (d6 5 kH.nd (dG jy))
  (ao (dF PassesOwn.never rfl (cu rfl T.range (c4 cM)) (eX 6 kH.nd)
   (ao (d6 7 kH.nd (cw (mN T ptree) hr T.gK (qq bL cM mU)))
  (ao (dF PassesOwn.never rfl (cu rfl T.range (c4 cM)) (eX 8 kH.nd)
   (ks (cN (PW.pt (kK (be fj eo ai (bo _)) (ma (be tY (cw (aY T ptree) hr T.aU (cH bL ai)) ai (bo _))))) (az (gW (cP (cH ai ai)) (i8 qj vA set_list))) bI)
  (ks (cN (PW.pt (kK (be fj eo ai (bo _)) (ma (be tW (bD fV nY ai) cM (bo _))))) (az (gW (cP (cH (dB p5 (by rfl) T.int PyProof.Rows.boot_int (c4 (jh fj vA (bD fV nY ai) (bo _)))) ai)) (i8 qj vA set_list))) bI)
  (ks (cN (PW.pt (ow (PW.pt (kK (be fj eo ai (bo _)) (kK (be CS nY fX (bo _)) (ma (be tW vA fX (bo _)))))) (kJ (PW.pt (kK (be fj eo ai (bo _)) (kK (be tW nY fX (bo _)) (ma (be CS vA fX (bo _))))))))) (az (gW (cP (cH ai ai)) (i8 qj vA set_list))) bI)
  (az (cN (be fj eo ai (bo _)) (az (gW (cP (cH (bD cR (aS bE (dG (xK ai ai (yj so ai) ai)) (bD pN fX ai)) (dB p5 (by rfl) T.int PyProof.Rows.boot_int (c4 (jh fj nY vA (bo _))))) ai)) (i8 qj vA set_list))) bI))))))
  (az (iK (tT cI c6 c5 jN qo (c4 qj)))))))
  (az (aT qo)))),?_]
 walk_at "s"
 try rw[ib]
 have W1:1<=max w 6:=()
 exists c7 λr H1 s1 n1 g1=>?_
 have rb:r≠b:=λz=>hB.at (by rw[<- z];exact n1)
 obtain q0|I0|xs0|gq0:=hB.inner;have I1:Inner H1 b q0:=(s1.upto (p:=b)).2 _ I0;obtain ⟨A,eA⟩:∃A:Addr->Prop,A=λq=>H q=none/\q≠r:=#[_,rfl]
 have nb:¬A b:=by rw[eA];exact λz=>hB.at z.1
 have nr:¬A r:=by rw[eA];exact λz=>z.2 rfl
 have nq:¬A q0:=by rw[eA];exact λz=>by have z1:=z.1;rw[gq0] at z1;cases z1
 have rq:r≠q0:=λz=>by rw[<- z,n1] at gq0;cases gq0
 exists #[(),(),?_];refine dO (n:=n) (λi σ' H'=>∃(x1 x2 x3:Option V) (us:List V),σ'=[some (.ref b),some (.int n),some (.int way),some (.int first),some (.int w),some (.ref r),x1,x2,x3]/\H' r=some (.lst us)/\us.9=i/\us.Nodup/\(∀x∈us,iU K A H' n (Dr (max w 6)) x)/\ji H' b/\Inner H' b q0/\cY b H H') #[none,none,none,[],rfl,g1,rfl,Sv,(λ_ z=>nomatch z),hB.same s1,I1,s1.upto] ?_ ?_
 ·rintro i σ' H' hi ⟨x1,x2,x3,us,rfl,gu,lu,nd,ru,B',I',u'⟩;exists #[b,n,w,rfl,B',(),w0,w1,λp xs Ha np Ra la da Ba ua=>?_];have hp0:H p=none:=u'.none B' np
  have pn:V.ref p∉us:=λz=>by
   obtain q'|_|_|e'|_|g'|_:=(ru _ z).at;cases e';rw[np] at g';cases g'
  have ap':H p=none/\p≠r:=#[hp0,λz=>by rw[z,gu] at np;cases np];have ap:A p:=by rw[eA];exact ap'
  have X0:Lf K A n (Dr (max w 6)) r p b q0 us H Ha:=#[ua.other rb gu,λx hx=>(ru x hx).upto ua B' nb,#[p,xs,rfl,ap,Ra,la,da],Ba,ua.2 _ I',u'.trans ua];clear ru Ra gu;exists #[(),(),?_];refine dO (n:=n) (λj σ' H'=>(∃x3,σ'=[some (.ref b),some (.int n),some (.int way),some (.int first),some (.int w),some (.ref r),some (.int i),some (.ref p),x3])/\Lf K A n (Dr (max w 6)) r p b q0 us H H') #[#[_,rfl],X0] ?_ ?_
  ·rintro j σ' Hj hj ⟨⟨x3,rfl⟩,X⟩;exists #[λσ' H'=>σ'=[some (.ref b),some (.int n),some (.int way),some (.int first),some (.int w),some (.ref r),some (.int i),some (.ref p),some (.int j)]/\Lf K A n (Dr (max w 6)) r p b q0 us H H',?_,?_]
   ·exists iO (λ_=>?_) (λ_=>?_)
    ·exists #[b,3,rfl,X.bag,(),(),λd Hd d0 d1 Bd ud=>?_];replace X:=X.upto ud Bd nb rb
     repeat' (first | walk_at "rd" | refine iO (λ_=>?_) (λ_=>?_))
     all_goals first
      | exact ⟨rfl,X⟩
      | (refine bR λt Hb sb gb=>?_;walk_at "w";obtain zs|gz|lz|Xz:=(X.same sb).put ap nr nb nq hp0 (bO.mk (q:=0) gb rfl) (ui (i:=0) (aW _) W1) j;refine fW gz (gO ()) rfl ?_;exact #[rfl,Xz])
    ·exists #[rfl,X]
   clear X;rintro σ' Hj ⟨rfl,X⟩;refine #[λσ' H'=>σ'=[some (.ref b),some (.int n),some (.int way),some (.int first),some (.int w),some (.ref r),some (.int i),some (.ref p),some (.int j)]/\Lf K A n (Dr (max w 6)) r p b q0 us H H',?_,?_]
   ·repeat' (first | walk_at "rd" | refine iO (λ_=>?_) (λ_=>?_))
    all_goals first
     | exact ⟨rfl,X⟩
     | (refine bR λt Hb sb gb=>?_;walk_at "w";obtain zs|gz|lz|Xz:=(X.same sb).put ap nr nb nq hp0 (bO.mk (q:=((if decide ((j:Int)=(i:Int)+1)=true then (1:Int) else 0:Int):Rat)) gb rfl) (ui (by split <;> lia) W1) j;refine fW gz (gO ()) rfl ?_;exact #[rfl,Xz])
   clear X;rintro σ' Hj ⟨rfl,X⟩;refine #[λσ' H'=>σ'=[some (.ref b),some (.int n),some (.int way),some (.int first),some (.int w),some (.ref r),some (.int i),some (.ref p),some (.int j)]/\Lf K A n (Dr (max w 6)) r p b q0 us H H',?_,?_]
   ·repeat' (first | walk_at "rd" | refine iO (λ_=>?_) (λ_=>?_))
    all_goals first
     | exact ⟨rfl,X⟩
     | (refine bR λt Hb sb gb=>?_;walk_at "w";obtain zs|gz|lz|Xz:=(X.same sb).put ap nr nb nq hp0 (bO.mk (q:=0) gb rfl) (ui (i:=0) (aW _) W1) j;refine fW gz (gO ()) rfl ?_;exact #[rfl,Xz])
   clear X;rintro σ' Hj ⟨rfl,X⟩;exists iO (λ_=>?_) (λ_=>?_)
   ·exists c7 λl0 Hc sc nc gc=>?_
    walk_at "w";obtain x|ex|mx|_:=lA (xs:=[V.int 2,V.int 1,V.int (-1),V.int 0]) (i:=first % 4) (nW _ ()) (by have:=kh first (show (0:Int) < 4 by decide);simpa using this)
    obtain ⟨z,rfl,hz⟩:∃z:Int,x=.int z/\z.natAbs<=2:=by
     simp only[aD,aO,or_false] at mx;rcases mx with rfl | rfl | rfl | rfl
     ·exact #[2,rfl,()]
     ·exact #[1,rfl,()]
     ·exact #[-1,rfl,()]
     ·exact #[0,rfl,()]
    refine b7 (bC.of gc) ex ?_;exists fU (E4 () ()) ?_;exists bR λt Hb sb gb=>?_
    walk_at "w";obtain zs|gz|lz|Xz:=((X.same sc).same sb).put ap nr nb nq hp0 (bO.mk (q:=((z*(if decide ((i:Int)=(j:Int))=true then (1:Int) else 0):Int):Rat)) gb rfl) (ui (by split <;> lia) W1) j;refine fW gz (gO ()) rfl ?_;exact #[#[_,rfl],Xz]
   ·exists #[#[_,rfl],X]
  ·rintro σ' Hj ⟨⟨x3,rfl⟩,X⟩;exists #[.inl #[rfl,_,bC.of X.gr],?_];exists iX X.gr (dA ()) ?_;refine #[_,_,_,us++[.ref p],rfl,aK,by simp [lu],Au nd pn,λx hx=>?_,X.bag.upd X.inn rb rq,X.inn.upd rb,X.up.after n1];rcases av.mp hx with hx | hx
   ·exact (X.ru x hx).other X.gr nr
   ·have e:x=V.ref p:=by simpa using hx
    rw[e];exact X.rp.other X.gr nr
 ·rintro σ' H' ⟨x1,x2,x3,us,rfl,gu,lu,nd,ru,B',I',u'⟩;exists k r us H' n1 gu lu nd (by rw[eA] at ru;exact ru) B' u'
theorem F8:sC ["_law_one","_law_other"] 2 vn:=by walk_at "d"
theorem kv (T:Txt K mg Z) (ptree:P.given.tree=none):T.gJ.o P w base 2 (qF K (λx y=>x+y)):=by
 refine T.gJ.F.ok F8 (λvs H Q E h=>?_) (λcdv A outer s H vs Q E hr h=>?_)
 ·obtain p|q|a|b|c|d|rfl|hp|hq|hb|hd|sa|sb|sc|sd|k:=Lc h;rfl
 ·obtain p|q|a|b|c|d|rfl|hp|hq|hb|hd|sa|sb|sc|sd|k:=Lc h;refine #[_,(az (aT (cw (gG T ptree) hr T.d7 (cH (bD fV (bD cR (aS br bL ai) (aS br cM ai)) (bD cR (aS br cM ai) (aS br bL ai))) (bD cR (aS br bL ai) (aS br cM ai)))))),?_];refine oq (σ:=[some (.ref p),some (.ref q)]) rfl ?_
  try rw[ib]
  have hbd:0 < b*d:=iF hb hd;have sbd:Sz 8999000 (b*d):=(sb.mul sd).mono ();exists fU (show fZ _ _ from .inr #[_,_,sa,sd,()]) ?_;exists fU (show fZ _ _ from .inr #[_,_,sc,sb,()]) ?_;exists fU (show fZ _ _ from .inr #[_,_,sb,sd,()]) ?_;walk_at "w";exists #[_,_,rfl,hbd,sbd,k]
theorem DV:sC ["_law_one","_law_other"] 2 tF:=by walk_at "d"
theorem wD (T:Txt K mg Z) (ptree:P.given.tree=none):T.kW.o P w base 3 (FQ K):=by
 refine T.kW.F.k DV ?_;walk_at "i";obtain p|q|xs|ys|rfl|hp|hq|hl|hz|h1|h2|kk:=h;refine #[_,(az (aT (cn ["_law_k"] ["_law_one","_law_other"] [0,1] (cu rfl T.range (c4 (ba aR (by rfl) T.len aL (c4 bL)))) (λ_=>(eX 0)) (λ_=>cA) (λ_=>(cw (kv T ptree) hr T.gJ (cH (aS (jH K (by rfl)) cM bL) (aS (jH K (by rfl)) eo bL))))))),?_];walk_at "s"
 try rw[ib]
 obtain us|gu|qu:=id hp;obtain ws|gw|qw:=id hq;have lu:=qu.9;exists #[_,_,rfl,.inl (bC.of gu),?_];exists #[(),(),?_];refine jQ (n:=us.9) (bO K) (λi=>xs.getD i 0+ys.getD i 0) () (λa b=>a.same b) ?_ ?_
 ·rintro i H' NY NN hi s k1;have ix:i < xs.9:=()
  have iy:i < ys.9:=()
  obtain vx|ex|nx:=Eu (Paired.imp' (λ_ _ z=>z.same s) qu) ix;obtain vy|ey|ny:=Eu (Paired.imp' (λ_ _ z=>z.same s) qw) iy;exists b7 (bC.of (s _ _ gu)) ex ?_;exists b7 (bC.of (s _ _ gw)) ey ?_;exists #[_,_,_,_,rfl,nx,ny,h1 _ (getD_mem ix),h2 _ (getD_mem iy),λr3 H3 s3 n3=>k1 _ _ s3 n3]
 ·rintro ys' H' l hl' s g pr nx;exact kk l H' hl' s #[ys',g,by rw[Co ()];rw[<- lu] at pr;exact pr]
theorem DU:sC ["_law_one","_law_other"] 2 tE:=by walk_at "d"
theorem iL (T:Txt K mg Z) (ptree:P.given.tree=none):T.eO.o P w base 2 (qF K (λx y=>x*y)):=by
 refine T.eO.F.ok DU (λvs H Q E h=>?_) (λcdv A outer s H vs Q E hr h=>?_)
 ·obtain p|q|a|b|c|d|rfl|hp|hq|hb|hd|sa|sb|sc|sd|k:=KJ h;rfl
 ·obtain p|q|a|b|c|d|rfl|hp|hq|hb|hd|sa|sb|sc|sd|k:=KJ h;refine #[_,(az (aT (cw (gG T ptree) hr T.d7 (cH (bD cR (aS br bL ai) (aS br cM ai)) (bD cR (aS br bL ai) (aS br cM ai)))))),?_];refine oq (σ:=[some (.ref p),some (.ref q)]) rfl ?_
  try rw[ib]
  have hbd:0 < b*d:=iF hb hd;have sbd:Sz 8999000 (b*d):=(sb.mul sd).mono ();exists fU (show fZ _ _ from .inr #[_,_,sa,sc,()]) ?_;exists fU (show fZ _ _ from .inr #[_,_,sb,sd,()]) ?_;walk_at "w";exists #[_,_,rfl,hbd,sbd,k]
theorem Jg:sC ["_law_by_here","_law_row_here"] 2 xE:=by walk_at "d"
theorem oB (T:Txt K mg Z) (ptree:P.given.tree=none):T.jG.o P w base 3 (M8 K):=by
 refine T.jG.F.k Jg ?_;walk_at "i";obtain u|q|c|ys|rfl|hc|sc|hq|hz|h2|kk:=h;refine #[_,(az (aT (cn ["_law_one"] ["_law_by_here"] [0] (cC cM) (λ_=>(eX 0)) (λ_=>cA) (λ_=>(cw (iL T ptree) hr T.eO (cH cM bL)))))),?_];walk_at "s"
 try rw[ib]
 obtain us|gu|qu:=id hq;exists #[#[_,bC.of gu],?_];refine dc (K:=K) (F:=bO K) (bO K) (λy=>c*y) gu qu hz (λa b=>a.same b) (λa b=>a.same b) ?_ ?_
 ·rintro i y x H' NY NN en s hx k;exists #[_,_,_,_,rfl,hc.same s,hx,sc,h2 y (ar en),λr H2 s2 h2'=>k _ _ s2 h2']
 ·rintro ys' H' r hr s g pr nx;exact kk r H' hr s #[ys',g,pr]
theorem eN:sC ["_law_bag_here","_law_move_here","_law_put","_law_look","_law_n","_law_turn","_law_i","_law_j","_law_by_here","_law_less_here","_law_row_here"] 4 qQ:=by walk_at "d"
theorem BE (T:Txt K mg Z) (ptree:P.given.tree=none):T.mE.o P w base 4 (CD K):=by
 refine T.mE.F.k eN ?_;walk_at "i";obtain b|m|p|l|q0|n|WV|μ|A|us|ws|vs|rfl|MA|X|n8|i4|o4|M0|M1|⟨M,eM⟩|V1|hA|k:=h
 refine #[_,(ao (d6 4 eN.nd (ba aR (by rfl) T.len aL (c4 cM)))
  (ao (cN (PW.pt (ow (be tW mU ai (bo _)) (kJ (be fj (cw (aY T ptree) hr T.aU (cH bL ai)) ai (bo _))))) (az (aT (cP (qq cM eo fX)))) bI)
  (ao (dF PassesOwn.never rfl (cu rfl T.range (c4 (bD fV ai (cw (aY T ptree) hr T.aU (cH bL ai))))) (eX 5 eN.nd)
   (ao (d6 6 eN.nd (cw (aY T ptree) hr T.aU (cH bL mU)))
  (ao (d6 7 eN.nd (bD pN (bD fV (bD fV nY ai) (cw (aY T ptree) hr T.aU (cH bL (bD jz mU ai)))) mU))
  (ao (d6 8 eN.nd (cP (cH (aS bE (dG (xK ai (yj so ai) ai (yj so ai))) (cw (aY T ptree) hr T.aU (cH bL ai))) ai)))
  (ao (d6 9 eN.nd (cP (cH (bD jz ai (aS br vA ai)) ai)))
  (ao (gW (cw (wD T ptree) hr T.kW (cH (aS bE cM nY) (cw (oB T ptree) hr T.jG (cH vA (aS bE cM qj))))) (i8 cM nY set_list))
  (ao (dF PassesOwn.never rfl (cC (bD ni cM fX)) (eX 10 eN.nd)
   (az (gW (cw (kv T ptree) hr T.gJ (cH (aS bE (pv 10) qj) (cw (iL T ptree) hr T.eO (cH O7 (aS bE (pv 10) nY))))) (i8 (pv 10) qj set_list))))
  (az (dF PassesOwn.never rfl (cC eo) (eX 10 eN.nd)
   (az (gW (cw (kv T ptree) hr T.gJ (cH (aS bE (pv 10) nY) (cw (iL T ptree) hr T.eO (cH vA (aS bE (pv 10) qj))))) (i8 (pv 10) nY set_list))))))))))))
  (az (aT (cP (qq cM eo fX))))))),?_]
 walk_at "s"
 try rw[ib]
 have done:∀r us' H' t,t<=3->H' r=some (.tup [.ref m,.ref p,.ref l])->lH K A H' n (λx=>Fr (μ x) (9^t*WV)) m p l b q0 us' ws vs->jT A b m H H'->Q (.ref r) H':=λr us' H' t ht g x kp=>k r us' H' g (x.weak λ_ _ y h=>h.mono (ay _ (ak () ht))) kp
 have X0:lH K A H n (λx=>Fr (μ x) (9^0*WV)) m p l b q0 us ws vs:=X.weak λ_ _ y h=>h.mono (by simp)
 clear X k;have gu:=X0.gm;have lu:=X0.lm;exists #[_,_,rfl,.inl (bC.of gu),?_];rw[lu];clear gu lu;have kp0:jT A b m H H:=λ_ _ h _ _ _=>h
 exists iO (λh0=>?_) (λh0=>?_)
 ·exists bR λr H' s' g'=>?_
  exact done r us H' 0 () g' (X0.same s') (kp0.same s')
 have n2:2<=n:=by
  rcases bZ n 2 with z | z
  ·exact absurd (decide_eq_true (show (n:Int) < 2 by lia)) h0
  ·exact z
 exists #[b,2,rfl,X0.bag,(),(),λv H1 v0 v1 B1 u1=>?_];have X1:=X0.upto MA u1 B1;have kp1:=kp0.upto u1;exists iO (λh1=>?_) (λh1=>?_)
 ·exists bR λr H' s' g'=>?_
  exact done r us H' 0 () g' (X1.same s') (kp1.same s')
 exists #[b,3,rfl,B1,(),(),λc H2 c0 c1 B2 u2=>?_];have X2:=X1.upto MA u2 B2;have kp2:=kp1.upto u2;clear X0 X1 kp0 kp1 u1 u2 B1;exists #[(),(),?_];refine dO (n:=(1+c).toNat) (λt σ' H'=>∃(x1 x2 x3 x4 x5 x6:Option V) (us:List V),σ'=[some (.ref b),some (.ref m),some (.ref p),some (.ref l),some (.int n),x1,x2,x3,x4,x5,x6]/\lH K A H' n (λx=>Fr (μ x) (9^t*WV)) m p l b q0 us ws vs/\jT A b m H H') #[none,none,none,none,none,none,us,rfl,X2,kp2] ?_ ?_
 ·rintro t σ' H' ht ⟨x1,x2,x3,x4,x5,x6,us,rfl,X,kp⟩;have t3:t<=2:=()
  exists #[b,n,rfl,X.bag,(),(),λii Ha i0 i1 Ba ua=>?_];obtain ii|rfl:=cK i0;have Xa:=X.upto MA ua Ba;have kpa:=kp.upto ua;exists #[b,_,rfl,Ba,(),(),λd Hb d0 d1 Bb ub=>?_];have Xb:=Xa.upto MA ub Bb;have kpb:=kpa.upto ub;exists fU (show (0:Int) < n by lia) ?_;have j0:=nW ((ii:Int)+1+d) (show (n:Int)≠0 by lia);have j1:=kh ((ii:Int)+1+d) (show (0:Int) < n by lia);generalize ((ii:Int)+1+d) % (n:Int)=jj at j0 j1 ⊢;obtain jj|rfl:=cK j0;exists c7 λl0 Hc sc nc gc=>?_
  exists #[b,4,rfl,Bb.same sc,(),(),λv' Hd v0' v1' Bd ud=>?_];have gd:=ud.other (λz=>Bb.at (by rw[<- z];exact nc)) gc;obtain x|ex|mx|_:=lA (xs:=[V.int 1,V.int (-1),V.int 2,V.int (-2)]) v0' (by simpa using v1')
  obtain ⟨z,rfl,hz⟩:∃z:Int,x=.int z/\z.natAbs<=2:=by
   simp only[aD,aO,or_false] at mx;rcases mx with rfl | rfl | rfl | rfl
   ·exact #[1,rfl,()]
   ·exact #[-1,rfl,()]
   ·exact #[2,rfl,()]
   ·exact #[-2,rfl,()]
  have Xd:=(Xb.same sc).upto MA ud Bd;have kpd:=(kpb.same sc).upto ud;exists b7 (bC.of gd) ex ?_;exists bR λbt He se ge=>?_
  exists bR λlt Hf sf gf=>?_
  have Xf:=(Xd.same se).same sf;have kpf:=(kpd.same se).same sf;have nb:bO K Hf ((z:Int):Rat) (.ref bt):=bO.mk (sf _ _ ge) rfl;have nl:bO K Hf ((0 - z:Int):Rat) (.ref lt):=bO.mk gf rfl;clear X Xa Xb Xd kp kpa kpb kpd ua ub ud sc gc gd ex mx ge gf se sf Ba Bb Bd nc;have gu:=Xf.gm;have lu:=Xf.lm
  have ru:∀x∈us,iU K A Hf n (Fr M (9^t*WV)) x:=λx hx=>by
   have:=Xf.row x (by simp [hx]);rwa [eM x (Xf.apart.1 x hx).1 (Xf.apart.1 x hx).2] at this
  have hM:0 < M/\M<=2^800:=by
   have hx:us[ii]'()∈us:=aF _;have:=eM _ (Xf.apart.1 _ hx).1 (Xf.apart.1 _ hx).2;rw[<- this];exact #[M0 _,M1 _]
  have e1:us[ii]?=some (us[ii]'()):=by simp
  have e2:us[jj]?=some (us[jj]'()):=by simp
  obtain q1|z1|qs1|w1|a1|g1|k1|p1|l1|c1:=(ru _ (ar e1)).at;obtain q2|z2|qs2|w2|a2|g2|k2|p2|l2|c2:=(ru _ (ar e2)).at;rw[w1] at e1;rw[w2] at e2;generalize eW:9^t*WV=W at *
  have W9:9*W<=2^140:=by rw[<- eW];exact Qs () V1 ()
  have sz9M:∀{x:Rat} {U:Nat},U<=9*W->Fr M U x->i5 x:=λhU h=>KZ hM.1 hM.2 (af hU W9) h
  have sz9:∀{x:Rat} {U:Nat} {v:V},U<=9*W->Fr (μ v) U x->i5 x:=λhU h=>KZ (M0 _) (M1 _) (af hU W9) h
  exists b7 (bC.of gu) (fJ e1) ?_;exists b7 (bC.of gu) (fJ e2) ?_;exists #[_,q2,_,qs2,rfl,nb,DC (),#[z2,g2,p2],(),λy hy=>sz9M () (c2 y hy),λr1 Hg n1 sg R1=>?_];exists #[q1,r1,qs1,_,rfl,#[z1,sg _ _ g1,Paired.imp' (λ_ _ y=>y.same sg) p1],R1,by rw[ag,l1,l2],(),λy hy=>sz9M () (c1 y hy),λy hy=>?_,λr2 Hh n2' sh R2=>?_]
  ·obtain y'|hy'|rfl:=aA.mp hy;exact zh hz (c2 y' hy') hM.1 hM.2 ()
  have sfh:=sg.trans sh
  have new:V.ref r2∉us++vs++ws:=λz=>by
   obtain q'|_|_|e'|_|g'|_:=((Xf.same sg).row _ z).at;cases e';rw[n2'] at g';cases g'
  have Xh:=(Xf.same sfh).weak (C':=λx y=>(x∈ws->Fr (μ x) W y)/\Fr (μ x) (3*W) y) λx _ y h=>#[λ_=>h,h.mono ()]
  have kph:=kpf.same sfh;have guh:=sfh _ _ gu;have ar2:A r2:=(kpf.same sg).new hA (Xf.same sg).bag (by rw[sg _ _ gu];simp) n2'
  have rp2:iU K A Hh n (λy=>(V.ref r2∈ws->Fr (μ (.ref r2)) W y)/\Fr (μ (.ref r2)) (3*W) y) (.ref r2):=by
   rw[eM (.ref r2) (λz=>new (av.mpr (.inr z))) (λz=>new (av.mpr (.inl (av.mpr (.inr z)))))];refine #[r2,_,rfl,ar2,R2,by rw[aZ,ag];lia,λy hy=>#[λz=>absurd (av.mpr (.inr z)) new,?_]];obtain j'|hj'|e:=aX hy;rw[cW,qv] at e;rw[<- e];exact Ez hz (c1 _ (aF _)) (c2 _ (aF _))
  exists fW guh (gO ()) rfl ?_;have Xi:=Xh.set MA rp2 new ii;have kpi:=kph.upd (o:=.lst (us.set ii (.ref r2))) (q:=m) (.inr rfl);have nli:bO K (upd Hh m (.lst (us.set ii (.ref r2)))) ((0 - z:Int):Rat) (.ref lt):=(nl.same sfh).updL guh;have nbi:bO K (upd Hh m (.lst (us.set ii (.ref r2)))) ((z:Int):Rat) (.ref bt):=(nb.same sfh).updL guh;generalize upd Hh m (.lst (us.set ii (.ref r2)))=Hi at Xi kpi nli nbi ⊢;generalize us.set ii (.ref r2)=um at Xi;clear nb nl Xf kpf gu ru e1 e2 g1 p1 g2 p2 R1 R2 Xh kph guh rp2 sg sh sfh new;have gm:=Xi.gm;have lm:=Xi.lm;have gl:=Xi.gl;have nd:=Xi.nd;obtain nd1|nd2|nd3:=gQ.mp nd;exists ou gm gl mR λcl Hj sj nj gj=>?_
  have kpj:=kpi.same sj
  have rows:∀x∈um++vs,∀q,x=V.ref q->q≠cl:=λx hx q e y=>by
   obtain q'|zs|_|e'|_|g'|_:=(Xi.row x (av.mpr (.inl hx))).at;rw[e] at e';cases e';rw[y,nj] at g';cases g'
  have Xj:=(Xi.same sj).weak (C':=λx y=>(x∈ws->Fr (μ x) W y)/\(x∈(um++vs).drop 0->Fr (μ x) (3*W) y)/\Fr (μ x) (9*W) y) λx _ y h=>#[h.1,λ_=>h.2,h.2.mono ()]
  have lj:bO K Hj ((0 - z:Int):Rat) (.ref lt):=nli.same sj;have bj:bO K Hj ((z:Int):Rat) (.ref bt):=nbi.same sj;clear Xi kpi nli nbi;refine #[_,rfl,#[_,bC.of gj],?_];refine gP (K:=K) (a:=cl) (xs:=um++vs) (λs σ' H'=>∃x6:Option V,σ'=[some (.ref b),some (.ref m),some (.ref p),some (.ref l),some (.int n),some (.int t),some (.int ii),some (.int jj),some (.ref bt),some (.ref lt),x6]/\lH K A H' n (λx y=>(x∈ws->Fr (μ x) W y)/\(x∈(um++vs).drop s->Fr (μ x) (3*W) y)/\Fr (μ x) (9*W) y) m p l b q0 um ws vs/\jT A b m H H'/\H' cl=some (.lst (um++vs))/\bO K H' ((0 - z:Int):Rat) (.ref lt)/\bO K H' ((z:Int):Rat) (.ref bt)) #[_,rfl,Xj,kpj,gj,lj,bj] (λs σ' H' _ #[_,_,_,_,e,_]=>bC.of e) ?_ ?_
  ·rintro s x σ' Hk hx ⟨y6,rfl,Xk,kpk,gk,lk,bk⟩;have hs:s < (um++vs).9:=(aJ.mp hx).1;have mx:=ar hx
   have xd:x∈(um++vs).drop s:=by
    rw[fK hs,(aJ.mp hx).2];exact .head _
   have xd2:x∉(um++vs).drop (s+1):=λz=>by
    have:=nd1.sublist (List.drop_sublist s _);rw[fK hs,fG,(aJ.mp hx).2] at this;exact this.1 z
   have xw:x∉ws:=λz=>nd3 x mx x z rfl
   have rx:=Xk.row x (av.mpr (.inl mx));obtain q|zs|qs|rfl|aq|gq|lq|pq|lq2|cq:=rx.at;have qcl:=rows _ mx q rfl;obtain vj|ej|nj':=Eu pq (j:=jj) ();obtain vi|ei|ni':=Eu pq (j:=ii) ();have cj:=(cq _ (getD_mem (xs:=qs) (i:=jj) ())).2.1 xd;have ci:=(cq _ (getD_mem (xs:=qs) (i:=ii) ())).2.1 xd;exists b7 (bC.of gq) ej ?_;exists b7 (bC.of gq) ei ?_;exists #[_,_,_,_,rfl,lk,ni',DC (),sz9 () ci,λr3 Hl sl n3=>?_];exists #[_,_,_,_,rfl,nj'.same sl,n3,sz9 () cj,zh () ci (M0 _) (M1 _) (),λr4 Hm sm n4=>?_];have slm:=sl.trans sm;exists fW (slm _ _ gq) (gO ()) rfl ?_;refine #[_,rfl,?_,(kpk.same slm).upd (.inl aq),by rw[bG qcl.symm];exact slm _ _ gk,(lk.same slm).updL (slm _ _ gq),(bk.same slm).updL (slm _ _ gq)];refine ((Xk.same slm).weak λx' _ y h=>#[h.1,λz=>h.2.1 ?_,h.2.2]).put MA aq (slm _ _ gq) n4 #[λz=>absurd z xw,λz=>absurd z xd2,?_] jj
   ·rw[fK hs];exact .tail _ z
   ·exact (Ez () cj ci).mono ()
  ·rintro σ' Hk ⟨y6,rfl,Xk,kpk,gk,lk,bk⟩;have gp:=Xk.gp;have Xk2:=Xk.weak (C':=λx y=>(x∈ws.drop 0->Fr (μ x) W y)/\Fr (μ x) (9*W) y) λx _ y h=>#[λz=>h.1 (by simpa using z),h.2.2]
   clear Xk;exists #[#[_,bC.of gp],?_];refine gP (K:=K) (a:=p) (xs:=ws) (λs σ' H'=>∃x6:Option V,σ'=[some (.ref b),some (.ref m),some (.ref p),some (.ref l),some (.int n),some (.int t),some (.int ii),some (.int jj),some (.ref bt),some (.ref lt),x6]/\lH K A H' n (λx y=>(x∈ws.drop s->Fr (μ x) W y)/\Fr (μ x) (9*W) y) m p l b q0 um ws vs/\jT A b m H H'/\bO K H' ((z:Int):Rat) (.ref bt)) #[_,rfl,Xk2,kpk,bk] (λs σ' H' _ #[_,_,X,_]=>bC.of X.gp) ?_ ?_
   ·rintro s x σ' Hl hx ⟨w6,rfl,Xl,kpl,bl⟩;have hs:s < ws.9:=(aJ.mp hx).1;have mx:=ar hx
    have xd:x∈ws.drop s:=by
     rw[fK hs,(aJ.mp hx).2];exact .head _
    have xd2:x∉ws.drop (s+1):=λz=>by
     have:=nd2.sublist (List.drop_sublist s _);rw[fK hs,fG,(aJ.mp hx).2] at this;exact this.1 z
    have rx:=Xl.row x (av.mpr (.inr mx));obtain q|zs|qs|rfl|aq|gq|lq|pq|lq2|cq:=rx.at;obtain vj|ej|nj':=Eu pq (j:=jj) ();obtain vi|ei|ni':=Eu pq (j:=ii) ();have cj:=(cq _ (getD_mem (xs:=qs) (i:=jj) ())).1 xd;have ci:=(cq _ (getD_mem (xs:=qs) (i:=ii) ())).1 xd;exists b7 (bC.of gq) ei ?_;exists b7 (bC.of gq) ej ?_;exists #[_,_,_,_,rfl,bl,nj',DC (),sz9 () cj,λr3 Hm sm n3=>?_];exists #[_,_,_,_,rfl,ni'.same sm,n3,sz9 () ci,zh () cj (M0 _) (M1 _) (),λr4 Hn sn n4=>?_];have smn:=sm.trans sn;exists fW (smn _ _ gq) (gO ()) rfl ?_;refine #[_,rfl,?_,(kpl.same smn).upd (.inl aq),(bl.same smn).updL (smn _ _ gq)];refine ((Xl.same smn).weak λx' _ y h=>#[λz=>h.1 ?_,h.2]).put MA aq (smn _ _ gq) n4 #[λz=>absurd z xd2,?_] ii
    ·rw[fK hs];exact .tail _ z
    ·exact (Ez () ci cj).mono ()
   ·rintro σ' Hl ⟨w6,rfl,Xl,kpl,bl⟩;refine #[_,_,_,_,_,_,um,rfl,Xl.weak λ_ _ y h=>h.2.mono ?_,kpl];rw[<- eW,ft,bQ (9^t) 9,cD];exact ah _
 ·rintro σ' H' ⟨x1,x2,x3,x4,x5,x6,us',rfl,X,kp⟩;exists bR λr H2' s' g'=>?_
  exact done r us' H2' _ () g' (X.same s') (kp.same s')
theorem eK:sC ["_law_bag_here","_law_n","_law_ins","_law_outs","_law_wide","_law_way","_law_first","_law_move_here","_law_put","_law_look","_law_k","_law_row_here"] 5 qP:=by walk_at "d"
theorem BD (T : Txt K mg Z) (ptree : P.given.tree = none) : T.mD.o P w base 5 (CA K) := by
  have oY := aY (P := P) (w := w) (base := base) T ptree;have II := Ei (P := P) (w := w) (base := base) T ptree;have A6 := mN (P := P) (w := w) (base := base) T ptree;have Fw := BE (P := P) (w := w) (base := base) T ptree;refine T.mD.F.k eK ?_;walk_at "i";obtain b|n|i|o|w|c|rfl|hB|n8|i4|o4|w0|w1|hc|hc20|hcM|k:= h
  refine #[_, (ao (d6 5 eK.nd (cw oY hr T.aU (cH bL ai)))
    (ao (d6 6 eK.nd (cw oY hr T.aU (cH bL (bD fV cM ai))))
    (ao (d6 7 eK.nd (cw II hr T.nP (dh bL (xK cM qo nY mU))))
    (ao (nB 8 ["_law_k"] ["_law_bag_here", "_law_n", "_law_wide"] [0, 1, 4] eK.nd rfl rfl (cu rfl T.range (c4 eo)) (λ_ => (eX 0)) (λ_ => cA) (λ_ => (cw A6 hr T.gK (qq cM eo fX))))
    (ao (nB 9 ["_law_k"] ["_law_bag_here", "_law_n", "_law_wide"] [0, 1, 4] eK.nd rfl rfl (cu rfl T.range (c4 fX)) (λ_ => (eX 0)) (λ_ => cA) (λ_ => (cw A6 hr T.gK (qq cM eo fX))))
    (ao (dF PassesOwn.never rfl (cu rfl T.range (c4 cM)) (eX 10 eK.nd)
      (ao (dF PassesOwn.never rfl (cC vA) (eX 11 eK.nd)
      (az (cN (PW.pt (ow (PW.pt (kK (be fj qo ai (bo _)) (ma (be CS (pv 10) nY (bo _))))) (kJ (PW.pt (kK (be fj qo ai (bo _)) (kK (be tW (bD fV (pv 10) ai) cM (bo _)) (ma (be fj (cw oY hr T.aU (cH bL ai)) ai (bo _))))))))) (az (gW (cP (cH ai ai)) (i8 (pv 11) (pv 10) set_list))) bI)))
    (az (dF PassesOwn.never rfl (cC O7) (eX 11 eK.nd)
      (az (cN (PW.pt (ow (PW.pt (kK (be fj qo ai (bo _)) (ma (be CS (pv 10) nY (bo _))))) (kJ (PW.pt (kK (be fj qo ai (bo _)) (kK (be tY (pv 10) ai (bo _)) (ma (be fj (cw oY hr T.aU (cH bL ai)) ai (bo _))))))))) (az (gW (cP (cH ai ai)) (i8 (pv 11) (pv 10) set_list))) bI))))))
    (az (aT (cw Fw hr T.mE (xK bL qj vA O7)))))))))), ?_]
  walk_at "s"
  try rw [ib]
  have W1 : 1 ≤ max w 6 := by lia
  obtain q0|I0|xs0|gq0:= hB.inner;exists #[b, 6, rfl, hB, by decide, by decide, λway H1 a0 a1 B1 u1 => ?_];exists #[b, _, rfl, B1, by lia, by lia, λfirst H2 f0 f1 B2 u2 => ?_];have u02 := u1.trans u2;exists #[b, n, w, way, first, rfl, B2, n8, w0, w1, λm us H3 nm0 gm lm ndm rm B3 u3 => ?_];have u03 := u02.trans u3;exists #[(), by lia, ?_];refine C9 (n := i) (b := b) (dq K H3) (λxs => xs.9 = n /\ ∀ x ∈ xs, Dr (max w 6) x) B3 () (λa u B => a.upto u B B3.at) (λ#[q, e, _, _, g, _] => #[q, e, by rw [g]; exact λz => nomatch z]) ?_ ?_
  · rintro s H' NY NN hi u B k1;exists #[b, n, w, rfl, B, by lia, w0, w1, λr xs H2 nr R lx dx B2 u2 => k1 _ xs _ u2 B2 #[lx, dx] #[r, rfl, u.none B nr, R] #[r, rfl, nr]]
  rintro ws puts H4 p np u4 B4 gp lp ndp hp Qr nx4;have u04 := u03.trans u4;exists #[(), by lia, ?_];refine C9 (n := o) (b := b) (dq K H4) (λxs => xs.9 = n /\ ∀ x ∈ xs, Dr (max w 6) x) B4 () (λa u B => a.upto u B B4.at) (λ#[q, e, _, _, g, _] => #[q, e, by rw [g]; exact λz => nomatch z]) ?_ ?_
  · rintro s H' NY NN hi u B k1;exists #[b, n, w, rfl, B, by lia, w0, w1, λr xs H2 nr R lx dx B2 u2 => k1 _ xs _ u2 B2 #[lx, dx] #[r, rfl, u.none B nr, R] #[r, rfl, nr]]
  rintro vs looks H5 l nl u5 B5 gl ll ndl hl pr5 nx5;have u05 := u04.trans u5;have hm0 : H m = none := u02.none B2 nm0;have hp0 : H p = none := u03.none B3 np;have hl0 : H l = none := u04.none B4 nl;have mb : m ≠ b := λz => B2.at (by rw [<- z]; exact nm0)
  have pb : p ≠ b := λz => B3.at (by rw [<- z]; exact np)
  have lb : l ≠ b := λz => B4.at (by rw [<- z]; exact nl)
  have gm4 := u4.other mb gm;have gm5 := u5.other mb gm4;have gp5 := u5.other pb gp;have mp : m ≠ p := λz => by rw [z, np] at gm; cases gm
  have ml : m ≠ l := λz => by rw [z, nl] at gm4; cases gm4
  have pl : p ≠ l := λz => by rw [z, nl] at gp; cases gp
  have mq : m ≠ q0 := λz => Inner.at B2 (u02.2 _ I0) (by rw [<- z]; exact nm0)
  obtain ⟨A, eA⟩ : ∃ A : Addr → Prop, A = λq => H q = none /\ q ≠ m /\ q ≠ p /\ q ≠ l := #[_, rfl]
  have mkA : ∀ {q}, H q = none → q ≠ m → q ≠ p → q ≠ l → A q := λh1 h2 h3 h4 => by rw [eA]; exact #[h1, h2, h3, h4]
  have unA : ∀ {q}, A q → H q = none /\ q ≠ m /\ q ≠ p /\ q ≠ l := λh => by rw [eA] at h; exact h
  have MA : J9 A m p l b q0 := #[λz => (unA z).2.1 rfl, λz => (unA z).2.2.1 rfl, λz => (unA z).2.2.2 rfl, λz => hB.at (unA z).1, (λz => by have z1 := (unA z).1; rw [gq0] at z1; cases z1), mb, pb, lb, mp, ml, mq];clear eA;have lws : ws.9 = i := by rw [<- Qr.length]; exact lp
  have lvs : vs.9 = o := by rw [<- pr5.9]; exact ll
  have alM : ∀ q, V.ref q ∈ us → H3 q ≠ none /\ q ≠ b /\ H4 q ≠ none := λq hq => by
    obtain q'|qs|e|⟨a1, a2⟩|r|z:= rm _ hq;cases e;have qb : q ≠ b := λy => B2.at (by rw [<- y]; exact a1)
    obtain xq|gq|_:= id r;obtain xq4|gq4|_:= r.upto u4 B3 qb;exact #[(by rw [gq]; exact λz => nomatch z), qb, (by rw [gq4]; exact λz => nomatch z)]
  have alP : ∀ q, V.ref q ∈ ws → H3 q = none /\ H4 q ≠ none := λq hq => by
    obtain _|_|q'|e|a|_|g|_:= dN Qr hq;cases e;exact #[a, by rw [g]; exact λz => nomatch z]
  have alL : ∀ q, V.ref q ∈ vs → H4 q = none := λq hq => by
    obtain _|_|q'|e|a|_:= dN pr5 hq;cases e;exact a
  have isR : ∀ x, x ∈ us \/ x ∈ ws \/ x ∈ vs → ∃ q, x = V.ref q := λx hx => by
    rcases hx with hx | hx | hx
    · obtain q|_|e|_:= rm x hx; exact #[q, e]
    · obtain _|_|q|e|_:= dN Qr hx; exact #[q, e]
    · obtain _|_|q|e|_:= dN pr5 hx; exact #[q, e]
  have nd : (us ++ vs ++ ws).Nodup := by
    refine gQ.mpr #[gQ.mpr #[ndm, ndl, λx hx y hy e => ?_], ndp, λx hx y hy e => ?_]
    · subst e;obtain q|rfl:= isR x (.inl hx);exact (alM q hx).2.2 (alL q hy)
    · subst e;obtain q|rfl:= isR x (.inr (.inl hy));rcases av.mp hx with hx | hx
      · exact (alM q hx).1 (alP q hy).1
      · exact (alP q hy).2 (alL q hx)
  have X5 : J7 K A n (Dr (max w 6)) m p l b q0 us ws vs H H5 := by
    refine #[#[B5, u05.2 _ I0, gm5, gp5, gl, lm, λx hx => ?_, nd], gp5, gl, λc u e n1 _ _ => u05.1 c u e n1];rcases av.mp hx with hx | hx
    · rcases av.mp hx with hx | hx
      · obtain q|qs|e|⟨a1, a2⟩|r|z:= rm x hx;obtain xq|gq|_:= id r;have qb : q ≠ b := λy => B2.at (by rw [<- y]; exact a1)
        have r4 := r.upto u4 B3 qb;obtain xq4|gq4|_:= id r4;exact #[q, qs, e, mkA (u02.none B2 a1) a2 (λy => by rw [y, np] at gq; cases gq) (λy => by rw [y, nl] at gq4; cases gq4), r4.upto u5 B4 qb, z]
      · refine Nk (A := A) pr5 hl (λq hq a b' => ?_) x hx;exact mkA (u04.none B4 a) (λy => by rw [y, gm4] at a; cases a) (λy => by rw [y, gp] at a; cases a) (λy => jC nx5 (by rw [<- y]; exact hq))
    · refine iU.upto (Nk (A := A) Qr hp (λq hq a b' => ?_) x hx) u5 B4 MA.ab;exact mkA (u03.none B3 a) (λy => by rw [y, gm] at a; cases a) (λy => jC nx4 (by rw [<- y]; exact hq)) (λy => b' (by rw [y]; exact nl))
  clear alM alP alL isR rm Qr pr5 nx4 nx5 gm gm4 gm5 gp gp5 gl hp hl;exists #[(), by lia, ?_];refine dO (n := n) (λkk σ' H' => (∃ x1 x2, σ' = [some (.ref b), some (.int n), some (.int i), some (.int o), some (.int w), some (.int way), some (.int first), some (.ref m), some (.ref p), some (.ref l), x1, x2]) /\ J7 K A n (Dr (max w 6)) m p l b q0 us ws vs H H') #[#[_, _, rfl], X5] ?_ ?_
  · rintro kk σ' Hj hk ⟨⟨x1, x2, rfl⟩, X⟩;exists #[#[_, bC.of X.gp], ?_];refine gP (K := K) (a := p) (xs := ws) (λs σ' H' => (∃ x2, σ' = [some (.ref b), some (.int n), some (.int i), some (.int o), some (.int w), some (.int way), some (.int first), some (.ref m), some (.ref p), some (.ref l), some (.int kk), x2]) /\ J7 K A n (Dr (max w 6)) m p l b q0 us ws vs H H') #[#[_, rfl], X] (λs σ' H' _ #[_, e] => bC.of e.gp) ?_ ?_
    · rintro s x σ' Hk hx ⟨⟨y2, rfl⟩, X⟩;have mx := ar hx;obtain q|_|rfl|_:= X.row (.inl mx)
      repeat' (first | walk_at "rd" | refine iO (λ_ => ?_) (λ_ => ?_))
      all_goals first
        | exact ⟨⟨_, rfl⟩, X⟩
        | (refine bR λt Hb sb gb => ?_; walk_at "w"; obtain zs|gz|lz|Xz:= (X.same sb).put MA (.inl mx) (bO.mk (q := 0) gb rfl) (ui (i := 0) (aW _) W1) kk; refine fW gz (gO ()) rfl ?_; exact #[#[_, rfl], Xz])
        | (refine ⟨b, 2, rfl, X.mix.bag, by decide, by decide, λd Hd d0 d1 Bd ud => ?_⟩
           replace X := X.upto MA ud Bd
           repeat' (first | walk_at "rd" | refine iO (λ_ => ?_) (λ_ => ?_))
           all_goals first
             | exact ⟨⟨_, rfl⟩, X⟩
             | (refine bR λt Hb sb gb => ?_
                walk_at "w";obtain zs|gz|lz|Xz:= (X.same sb).put MA (.inl mx) (bO.mk (q := 0) gb rfl) (ui (i := 0) (aW _) W1) kk;refine fW gz (gO ()) rfl ?_;exact #[#[_, rfl], Xz]))
    · rintro σ' Hk ⟨⟨y2, rfl⟩, X⟩;exists #[#[_, bC.of X.gl], ?_];refine gP (K := K) (a := l) (xs := vs) (λs σ' H' => (∃ x2, σ' = [some (.ref b), some (.int n), some (.int i), some (.int o), some (.int w), some (.int way), some (.int first), some (.ref m), some (.ref p), some (.ref l), some (.int kk), x2]) /\ J7 K A n (Dr (max w 6)) m p l b q0 us ws vs H H') #[#[_, rfl], X] (λs σ' H' _ #[_, e] => bC.of e.gl) ?_ ?_
      · rintro s x σ' Hk hx ⟨⟨y2, rfl⟩, X⟩;have mx := ar hx;obtain q|_|rfl|_:= X.row (.inr mx)
        repeat' (first | walk_at "rd" | refine iO (λ_ => ?_) (λ_ => ?_))
        all_goals first
          | exact ⟨⟨_, rfl⟩, X⟩
          | (refine bR λt Hb sb gb => ?_; walk_at "w"; obtain zs|gz|lz|Xz:= (X.same sb).put MA (.inr mx) (bO.mk (q := 0) gb rfl) (ui (i := 0) (aW _) W1) kk; refine fW gz (gO ()) rfl ?_; exact #[#[_, rfl], Xz])
          | (refine ⟨b, 2, rfl, X.mix.bag, by decide, by decide, λd Hd d0 d1 Bd ud => ?_⟩
             replace X := X.upto MA ud Bd
             repeat' (first | walk_at "rd" | refine iO (λ_ => ?_) (λ_ => ?_))
             all_goals first
               | exact ⟨⟨_, rfl⟩, X⟩
               | (refine bR λt Hb sb gb => ?_
                  walk_at "w";obtain zs|gz|lz|Xz:= (X.same sb).put MA (.inr mx) (bO.mk (q := 0) gb rfl) (ui (i := 0) (aW _) W1) kk;refine fW gz (gO ()) rfl ?_;exact #[#[_, rfl], Xz]))
      · rintro σ' Hk ⟨⟨y2, rfl⟩, X⟩;exact #[#[_, _, rfl], X]
  · rintro σ' Hj ⟨⟨x1, x2, rfl⟩, X⟩
    obtain ⟨M1, M2, M3, V0, a1, a2, a3, V2, hcs, R1, R2, R3⟩ : ∃ M1 M2 M3 V0 : Nat, (0 < M1 /\ M1 ≤ 2 ^ 800) /\ (0 < M2 /\ M2 ≤ 2 ^ 800) /\ (0 < M3 /\ M3 ≤ 2 ^ 800) /\ V0 ≤ 2 ^ 20 /\ ((w ≤ 9 /\ M1 = 2520 /\ M2 = 2520 /\ M3 = 2520 /\ V0 = 9) \/ (9 < w /\ M1 ≤ 2 ^ (c * (n * n)) /\ M2 ≤ 2 ^ (c * (i * n)) /\ M3 ≤ 2 ^ (c * (o * n)) /\ V0 = 2 ^ c)) /\ (∀ x ∈ us, iU K A Hj n (Fr M1 V0) x) /\ (∀ x ∈ ws, iU K A Hj n (Fr M2 V0) x) /\ ∀ x ∈ vs, iU K A Hj n (Fr M3 V0) x := by
      by_cases w9 : w ≤ 9
      · have XM := X.mix.weak (C' := λ_ => Fr 2520 9) λ_ _ y h => OD #[af h.1 (), af h.2 ()] (yX _)
        have z : 0 < 2520 /\ 2520 ≤ 2 ^ 800 := #[(), af (show 2520 ≤ 2 ^ 12 by decide) (ak () ())];exact #[2520, 2520, 2520, 9, z, z, z, by decide, .inl #[w9, rfl, rfl, rfl, rfl], λx hx => XM.row x (by simp [hx]), λx hx => XM.row x (by simp [hx]), λx hx => XM.row x (by simp [hx])]
      · obtain M1|M2|M3|a1|a2|a3|b1|b2|b3|R1|R2|R3:= (X.mix.weak (C' := λ_ => Dr (2 ^ c)) λ_ _ y h => #[af h.1 hc, af h.2 hc]).fr3;rw [lws] at b2;rw [lvs] at b3;have up : ∀ {M k : Nat}, M ≤ 2 ^ (c * k) → k ≤ (n + i + o) * n → M ≤ 2 ^ 800 := λh hk => af h (ak () (af (au _ hk) hcM))
        exact #[M1, M2, M3, 2 ^ c, #[a1, up b1 (ay _ ())], #[a2, up b2 (ay _ ())], #[a3, up b3 (ay _ ())], ak () hc20, .inr #[(), b1, b2, b3, rfl], R1, R2, R3]
    obtain μ|e2|e3|e1|e4:= NP ws vs M1 M2 M3;obtain ap1|ap2:= X.mix.apart
    have XM : lH K A Hj n (λx => Fr (μ x) V0) m p l b q0 us ws vs := by
      refine #[X.mix.bag, X.mix.inn, X.mix.gm, X.mix.gp, X.mix.gl, X.mix.lm, λx hx => ?_, X.mix.nd];rcases av.mp hx with hx | hx
      · rcases av.mp hx with hx | hx
        · rw [e1 x (ap1 x hx).1 (ap1 x hx).2]; exact R1 x hx
        · rw [e3 x hx (ap2 x hx)]; exact R3 x hx
      · rw [e2 x hx]; exact R2 x hx
    have p1 : ∀ x, 0 < μ x := λx => by
      rcases e4 x with e | e | e
      · rw [e]; exact a1.1
      · rw [e]; exact a2.1
      · rw [e]; exact a3.1
    have p2 : ∀ x, μ x ≤ 2 ^ 800 := λx => by
      rcases e4 x with e | e | e
      · rw [e]; exact a1.2
      · rw [e]; exact a2.2
      · rw [e]; exact a3.2
    have gmj := X.mix.gm;exists #[b, m, p, l, q0, n, V0, μ, A, us, ws, vs, rfl, MA, XM, n8, by lia, by lia, p1, p2, #[M1, e1], V2, λq hq => ?_, λr us' H' g Y kp => ?_]
    · refine mkA ?_ (λz => by rw [z, gmj] at hq; cases hq) (λz => by rw [z, X.gp] at hq; cases hq) (λz => by rw [z, X.gl] at hq; cases hq);cases e : H q with
      | none => rfl
      | some u =>
        have := X.kp q u e (λz => X.mix.bag.at (by rw [<- z]; exact hq)) (λz => by have := (unA z).1; rw [e] at this; cases this) (λz => by rw [z, hm0] at e; cases e);rw [hq] at this; cases this
    · obtain yp1|yp2:= Y.apart;obtain mv|Gm|lmv|hmv:= vI (H0 := H) (n := n) (C := Fr M1 (9 ^ 3 * V0)) (m := n) #[us', Y.gm, Y.lm, MA.am, λx hx => by have := Y.row x (by simp [hx]); rwa [e1 x (yp1 x hx).1 (yp1 x hx).2] at this] λq h => (unA h).1
      obtain pt|Gp|lpt|hpt:= vI (H0 := H) (n := n) (C := Fr M2 (9 ^ 3 * V0)) (m := i) #[ws, Y.gp, lws, MA.ap, λx hx => by have := Y.row x (by simp [hx]); rwa [e2 x hx] at this] λq h => (unA h).1
      obtain lk|Gl|llk|hlk:= vI (H0 := H) (n := n) (C := Fr M3 (9 ^ 3 * V0)) (m := o) #[vs, Y.gl, lvs, MA.al, λx hx => by have := Y.row x (by simp [hx]); rwa [e3 x hx (yp2 x hx)] at this] λq h => (unA h).1
      refine k r mv pt lk H' #[m, p, l, g, hm0, hp0, hl0, Gm, Gp, Gl] lmv lpt llk #[(), by lia, by lia, λxs hx => by rw [(hmv xs hx).1, lmv], λxs hx => by rw [(hpt xs hx).1, lmv], λxs hx => by rw [(hlk xs hx).1, lmv]] #[M1, M2, M3, 9 ^ 3 * V0, a1.1, a2.1, a3.1, λxs hx => (hmv xs hx).2, λxs hx => (hpt xs hx).2, λxs hx => (hlk xs hx).2, ?_] Y.bag #[λc' u e n1 => (X.kp.trans kp) c' u e n1 (λz => by have := (unA z).1; rw [e] at this; cases this) (λz => by rw [z, hm0] at e; cases e), λq h => by rw [<- Inner.inj I0 h]; exact Y.inn];rcases hcs with ⟨b1, b2, b3, b4, b5⟩ | ⟨b1, b2, b3, b4, b5⟩
      · exact .inl #[b1, b2, b3, b4, by rw [b5]]
      · exact .inr #[b1, b2, b3, b4, by rw [b5]]
theorem jv:sC ["_law_bag_here","_law_n","_law_ins","_law_outs","_law_wide"] 1 pG:=by walk_at "d"
theorem Ap (T:Txt K mg Z) (ptree:P.given.tree=none):T.kT.o P w base 6 (Pq K):=by
 refine T.kT.F.k jv ?_;walk_at "i";obtain b|rfl|hB|k:=h
 refine #[_,(ao (gW (cw (BB T ptree) hr T.mB (c4 bL)) (vB rfl (cG (eX 1 jv.nd) (cG (eX 2 jv.nd) (cG (eX 3 jv.nd) (cG (eX 4 jv.nd) jg))))))
  (ao (cN (be fj (cw (aY T ptree) hr T.aU (cH bL ai)) ai (bo _)) (az (aT (cP (cH (cw (Ek T ptree) hr T.nR (cH bL (bD fV ai (cw (aY T ptree) hr T.aU (cH bL ai))))) ai)))) bI)
  (az (aT (cP (cH (cw (BD T ptree) hr T.mD (dh bL (xK cM eo fX mU))) (ba (uM rfl) (by rfl) T.min PyProof.Rows.boot_min (cH mU ai)))))))),?_]
 walk_at "s"
 try rw[ib]
 have sf:∀{mv pt lk:LR9} {M V1:Nat},0 < M->M<=2^400->V1<=2^30->GF M V1 mv->GF M V1 pt->GF M V1 lk->Ld mv pt lk:=λh0 h1 h2 a b c=>#[_,_,h0,h1,af h2 (ak () ()),a,b,c]
 exists #[b,rfl,hB,λr n i o w H1 g1 n5 i4 o4 hw h5 B1 u1=>?_];exists #[b,16,rfl,B1,(),(),λv H2 v0 v1 B2 u2=>?_];have u02:=u1.trans u2;exists iO (λh0=>?_) (λh0=>?_)
 ·exists #[b,3,rfl,B2,(),(),λv3 H4 v30 v31 B4 u4=>?_];obtain v3|rfl:=cK v30;have u04:=u02.trans u4;walk_at "w";rw[show ((6:Int)+(v3:Int))=((6+v3:Nat):Int) by lia];refine #[b,6+v3,rfl,B4,(),(),λr4 mv pt lk H5 P5 lm _ _ D fm fp fl B5 u5=>?_];exists bR λt H6 s6 g6=>?_
  exact k t r4 4 0 4 mv pt lk H6 g6 ((P5.weak λq h=>u04.none B4 h).same s6) D (sf () b8 () fm fp fl) (Es (n0:=8) () () D.n8 () fm fp ()) (.inl #[(),(),(),(),(),(λxs hx x hx'=>(fm xs hx x hx').mono ()),(λxs hx x hx'=>(fp xs hx x hx').mono ()),af (ay _ (show mv.9+4<=12 by have:=D.n8;lia)) ()]) () () (B5.same s6) ((u04.trans u5).same s6)
 ·obtain ⟨c,hc,hc20,hcM⟩:∃c:Nat,max w 6<=2^c/\c<=20/\c*((n+i+o)*n)<=800/\(9 < w->c=20/\(n+i+o)*n<=20/\n<=2):=by
   have m1:(n+i+o)*n<=13*5:=aw () n5;rcases hw with rfl | rfl | ⟨rfl,n2⟩
   ·exact #[4,(),(),(),λz=>()]
   ·exact #[4,(),(),(),λz=>()]
   ·have m2:(n+i+o)*n<=10*2:=aw () n2;exact #[20,(),(),(),λ_=>#[rfl,(),n2]]
  obtain hcM|hbig:=hcM;exists #[b,n,i,o,w,c,rfl,B2,(),i4,o4,(),(),hc,hc20,hcM,λr4 mv pt lk H4 P4 lm lp ll D PF B4 u4=>?_];have hmin:(if (1000:Int) < (w:Int) then (1000:Int) else (w:Int))=((min w 1000:Nat):Int):=by split <;> lia
  have PG:=PF;obtain M|V1|M0|fm|fp|fl|hcs:=PF.n
  obtain ⟨a',c',KF,SF⟩:∃a' c',uO mv pt a' c'/\Ld mv pt lk:=by
   rcases hcs with ⟨w9,rfl,rfl⟩ | ⟨w9,M1,rfl⟩
   ·exact #[12,16,Es (n0:=5) () () () () fm fp (),sf () (af (show 2520<=2^12 by decide) (ak () ())) () fm fp fl]
   ·obtain rfl|e1|e2:=hbig w9;have M4:M<=2^400:=af M1 (ak () ());exact #[400,32,Es (n0:=2) M0 M4 () () fm fp (),sf M0 M4 () fm fp fl]
  have RG:Rg mv pt (min w 1000):=by
   obtain M1|M2|M3|V1|a1|a2|a3|f1|f2|f3|hc':=PG;rcases hc' with ⟨w9,rfl,rfl,_,rfl⟩ | ⟨w9,b1,b2,_,rfl⟩
   ·exact .inr (.inl #[(),(),(),(),(),(),f1,f2,af (ay _ (show mv.9+4<=9 by lia)) ()])
   ·obtain rfl|e1|e2:=hbig w9;have q1:n*n<=2*2:=aw e2 e2;have q2:i*n<=4*2:=aw i4 e2;have w6:w=1000000:=()
    exact .inr (.inr #[(),(),M1,M2,a1,a2,af b1 (ak () ()),af b2 (ak () ()),f1,f2,af (ay _ (show mv.9+4<=6 by lia)) ()])
  exists bR λt H5 s5 g5=>?_
  rw[hmin] at g5;exact k t r4 (min w 1000) a' c' mv pt lk H5 g5 ((P4.weak λq h=>u02.none B2 h).same s5) D SF KF RG () () (B4.same s5) ((u02.trans u4).same s5)
theorem DM:sC ["thing","at","most"] 3 sU:=by walk_at "d"
theorem qX (T:Txt K mg Z) (ptree:P.given.tree=none):T.jO.o P w base 1 Kk:=by
 refine T.jO.F.k DM ?_;walk_at "i";obtain p|xs|a|m|rfl|gx|hm|k:=h
 refine #[_,(ao (cN (jW (gV (vC rfl T.isinstance PyProof.Rows.boot_list T.list bL))) (az KA) bI)
  (az (cN (be tY (ba aR (by rfl) T.len aL (c4 bL)) eo (bo _)) (az KA) bI))),?_]
 walk_at "s"
 try rw[ib]
 exists #[_,_,.lst gx,rfl,?_];exists #[_,_,rfl,.inl (bC.of gx),?_];walk_at "w";rw[decide_eq_false (show ¬m < (xs.9:Int) by lia)];exists k
theorem F7:sC ["thing"] 1 vm:=by walk_at "d"
theorem ym (T:Txt K mg Z) (ptree:P.given.tree=none):T.mP.o P w base 1 Ln:=by
 refine T.mP.F.k F7 ?_;walk_at "i";obtain i|rfl|k:=h;refine #[_,(az (aT (xJ (vC rfl T.isinstance PyProof.Rows.boot_int T.int bL) (Ai (TN (vC rfl T.isinstance PyProof.Rows.boot_bool T.bool bL)))))),?_];walk_at "s"
 try rw[ib]
 exists #[_,_,.int i,rfl,?_];exists #[_,_,.int i,rfl,?_];exists k
theorem je:sC ["one","other","rest"] 2 lM:=by walk_at "d"
theorem kN (T:Txt K mg Z) (ptree:P.given.tree=none):T.fk.o P w base 1 U4:=by
 refine T.fk.F.k je ?_;walk_at "i";obtain a|b|rfl|k:=h
 refine #[_,(ao (Af PassesOwn.never (be uU cM ai (bo _))
   (ao (d6 2 je.nd (bD Qy bL cM))
  (ao (d6 0 je.nd cM)
  (az (d6 1 je.nd eo)))))
  (az (aT (ba wX (by rfl) T.abs PyProof.Rows.boot_abs (c4 bL))))),?_]
 walk_at "s"
 try rw[ib]
 exists Dw (λσ' H'=>∃(u v:Int) (r:Option V),σ'=[some (.int u),some (.int v),r]/\H'=H/\Int.gcd u v=Int.gcd a b) (λσ' _=>match σ' with | [_,some (.int v),_]=>v.natAbs | _=>0) #[a,b,none,rfl,rfl,rfl] ?_;rintro σ' H' ⟨u,v,r,rfl,rfl,hg⟩;exists iO (λh=>?_) (λh=>?_)
 ·have hv:v≠0:=λz=>by subst z;simp at h
  exists fU (show v≠0 from hv) ?_;exists #[#[v,u.fmod v,_,rfl,rfl,(Oo u v).trans hg],QR u v hv]
 ·have hv:v=0:=by
   by_cases z:v=0
   ·exact z
   ·exfalso;apply h;simp [z]
  subst hv;walk_at "w"
  have e:(if u < 0 then -u else u)=g a b:=by
   unfold g;rw[<- hg,Int.gcd_zero_right]
   split <;> lia
  rw[e];exact k
theorem DQ:sC ["thing"] 1 sY:=by walk_at "d"
theorem Ea (T:Txt K mg Z) (ptree:P.given.tree=none):T.nJ.o P w base 2 (Lq K):=by
 refine T.nJ.F.k DQ ?_;walk_at "i";obtain x|n|rfl|⟨p,rfl,hp⟩|hn|k:=h
 refine #[_,(ao (cN (PW.pt (ow (jW (gV (qW rfl T.isinstance PyProof.Rows.boot_tuple T.tuple bL))) (kJ (be uU (ba aR (by rfl) T.len aL (c4 bL)) ai (bo _))))) (az (aT mM)) bI)
  (ao (cN (PW.pt (ow (jW (gV (cw (ym T ptree) hr T.mP (c4 (aS br bL ai))))) (kJ (jW (gV (cw (ym T ptree) hr T.mP (c4 (aS br bL ai)))))))) (az (aT mM)) bI)
  (az (aT (xJ (jh CS (aS br bL ai) ai (bo _)) (Ai (jh fj (cw (kN T ptree) hr T.fk (cH (aS br bL ai) (aS br bL ai))) ai (bo _)))))))),?_]
 walk_at "s"
 try rw[ib]
 obtain hb|hg|s1|s2:=hn;exists .inr #[p,_,_,rfl,hp,rfl,?_];exists #[_,_,rfl,.inr hp,?_];walk_at "w"
 try refine QM ?_
 exists #[n.1,rfl,?_];exists #[n.2,rfl,?_];walk_at "w";rw[decide_eq_true (show (1:Int)<=n.2 by lia)];exists #[n.1,n.2,rfl,?_];walk_at "w";have e:g n.1 n.2=1:=by unfold g;rw[hg];rfl
 rw[e,decide_eq_true rfl];exact k _ (aH.refl _)
theorem Lv:sC ["thing","many"] 2 zX:=by walk_at "d"
theorem LN (T:Txt K mg Z) (ptree:P.given.tree=none):T.uG.o P w base 3 (xp K):=by
 refine T.uG.F.k Lv ?_;walk_at "i";obtain p|ns|rfl|hp|hl|hn|k:=h
 refine #[_,(ao (cN (PW.pt (ow (jW (gV (vC rfl T.isinstance PyProof.Rows.boot_list T.list bL))) (kJ (be uU (ba aR (by rfl) T.len aL (c4 bL)) cM (bo _))))) (az (aT mM)) bI)
  (az (aT (ba (AZ rfl) (by rfl) T.all PyProof.Rows.boot_all (c4 (cn ["value"] [] [] (cC bL) (λ_=>(eX 0)) (λ_=>cA) (λ_=>(cw (Ea T ptree) hr T.nJ (c4 bL))))))))),?_]
 walk_at "s"
 try rw[ib]
 obtain xs|gx|qx:=id hp;have lx:=qx.9;exists #[_,_,.lst gx,rfl,?_];exists #[_,_,rfl,.inl (bC.of gx),?_];walk_at "w";rw[show ((xs.9:Nat):Int)=(ns.9:Nat) by rw[lx],decide_eq_true rfl];exists #[#[_,bC.of gx],?_];refine iu (K:=K) (xs:=xs) (λi ys H'=>aH H H'/\ys=List.replicate i (.bl true)) mR #[aH.refl _,rfl] (λi ys H' _ #[s,_]=>bC.of (s _ _ gx)) ?_ ?_
 ·rintro i x ys H' hx hlen ⟨s,rfl⟩;obtain n|en|z:=bW qx hx;exists #[x,n,rfl,s.num z,hn n (ar en),λH2 s2=>#[s.trans s2,by rw[rT]]]
 ·rintro ys H' hy ⟨s,rfl⟩ l hl';exists #[l,List.replicate xs.9 true,rfl,bC.of (by rw[aK];simp),?_];have e4:(List.replicate xs.9 true).all id=true:=by simp
  rw[e4];exact k _ (s.trans (aH.new hl'))
theorem oh:sC ["things","wide","place","thing"] 2 pE:=by walk_at "d"
theorem oy (T:Txt K mg Z) (ptree:P.given.tree=none):T.ip.o P w base 4 (Kt K):=by
 refine T.ip.F.k oh ?_;walk_at "i";obtain p|H0|rows|w|rfl|hp|hl|hw|hn|k:=h
 refine #[_,(ao (dF PassesOwn.never rfl (Qt rfl T.enumerate (c4 bL)) (vB rfl (cG (eX 2 oh.nd) (cG (eX 3 oh.nd) jg)))
   (az (cN (jW (gV (cw (LN T ptree) hr T.uG (cH fX cM)))) (az KA) bI)))
  (az (aT (cn ["row"] [] [] (cC bL) (λ_=>(eX 0)) (λ_=>cA) (λ_=>(dB (dI K (by rfl)) (by rfl) T.list PyProof.Rows.boot_list (c4 bL))))))),?_]
 walk_at "s"
 try rw[ib]
 obtain xs|gx|qx|_:=id hp;exists #[#[_,bC.of gx],?_];refine Ov (K:=K) (l:=p) (xs:=xs) (λi σ' H'=>aH H H'/\∃x y,σ'=[some (.ref p),some (.int w),x,y]) #[aH.refl _,none,none,rfl] (λi σ' H' _ #[s,_]=>bC.of (s _ _ gx)) ?_ ?_
 ·rintro i x σ' H' t hx ⟨s,x1,y1,rfl⟩ ht;obtain qs|eq|q|rfl|_|Rq:=bW qx hx;have hm:=ar eq;have st:aH H' (upd H' t (.tup [.int i,.ref q])):=aH.new ht;have gt:(upd H' t (.tup [.int i,.ref q])) t=some (.tup [.int i,.ref q]):=aK;have s2:=s.trans st;generalize upd H' t (.tup [.int i,.ref q])=H2 at st gt s2 ⊢;have lq:(qs.map nm).9=w:=by rw[ag];exact (hn qs hm).1
  exists #[q,_,by rw[lq],(Rq.same s2).rowK,by rw[lq];exact hw,λn hn'=>?_,λH3 s3=>?_]
  ·obtain y|hy|rfl:=aA.mp hn';exact (hn qs hm).2 y hy
  exists #[s2.trans s3,_,_,rfl]
 ·rintro σ' H' ⟨s,x1,y1,rfl⟩;exists #[#[_,bC.of (s _ _ gx)],?_];refine dc (K:=K) (F:=dq K H0) (dq K H) id (s _ _ gx) (Paired.imp' (λ_ _ z=>z.same s) qx) hl (λa b=>a.same b) (λa b=>a.same b) ?_ ?_
  ·rintro i ns x H2 NY NN en s2 ⟨u,rfl,_,zs,gz,qz⟩ k1;exists #[u,zs,rfl,.inl (bC.of gz),λl1 hl1=>?_];exact k1 _ _ (aH.new hl1) #[l1,rfl,s.none (s2.none hl1),zs,aK,Paired.imp' (λ_ _ z=>z.same (aH.new hl1)) qz]
  ·rintro ys' H2 r hr s2 g pr nx;rw[iE] at pr nx;exact k r H2 (s.none hr) (s.trans s2) #[ys',g,pr,jC nx]
theorem vh:sC ["self","move","put","look"] 4 fh:=by walk_at "d"
theorem vH (T:Txt K mg Z) (ptree:P.given.tree=none):oN P w K mg base FC 5 Z.lB Z.lh ["self","move","put","look"] (Ko K Z.a_System):=by
 refine T.oZ.k vh ?_;walk_at "i";obtain x|dx|p|q|r|Hb|H0|H1|H2|mv|pt|lk|rfl|nx|ndx|nex|rfl|gp|gq|gr|D|om|op|ol|k:=h
 refine #[_,(ao (iK (cw (qX T ptree) hr T.jO (qq cM ai (v9 (v:=.int 8) rfl T.mg_MOST_STATES #[_,rfl]))))
  (ao (xF bL (cw (oy T ptree) hr T.ip (cH cM (ba aR (by rfl) T.len aL (c4 cM)))) rfl)
  (ao (xF bL (ba aR (by rfl) T.len aL (c4 (jX bL rfl))) rfl)
  (ao (iK (cw (qX T ptree) hr T.jO (qq eo ai (v9 (v:=.int 4) rfl T.mg_MOST_PUTS #[_,rfl]))))
  (ao (xF bL (cw (oy T ptree) hr T.ip (cH eo (jX bL rfl))) rfl)
  (ao (xF bL (ba aR (by rfl) T.len aL (c4 (jX bL rfl))) rfl)
  (ao (iK (cw (qX T ptree) hr T.jO (qq fX ai (v9 (v:=.int 4) rfl T.mg_MOST_LOOKS #[_,rfl]))))
  (ao (xF bL (cw (oy T ptree) hr T.ip (cH fX (jX bL rfl))) rfl)
  (az (xF bL (ba aR (by rfl) T.len aL (c4 (jX bL rfl))) rfl)))))))))),?_]
 walk_at "s"
 try rw[ib]
 have s0:aH Hb (upd (upd Hb dx (.own x)) x (.ins Z.a_System dx [])):=λb o e=>by
  rw[bG (gX e nx),bG (gX e ndx)];exact e
 have hx:(upd (upd Hb dx (.own x)) x (.ins Z.a_System dx [])) x=some (.ins Z.a_System dx []):=aK;have back:∀{b},(upd (upd Hb dx (.own x)) x (.ins Z.a_System dx [])) b=none->Hb b=none:=λh=>s0.none h
 generalize upd (upd Hb dx (.own x)) x (.ins Z.a_System dx [])=Ha at s0 hx back ⊢;obtain xs|gx|qx|_:=id gp;obtain ys|gy|qy|_:=id gq;obtain zs|gz|qz|_:=id gr;have lx:=qx.9;have ly:=qy.9;have lz:=qz.9;have d1:=D.n8;have d2:=D.i4;have d3:=D.o4;exists #[p,xs,0,8,rfl,s0 _ _ gx,(),?_];exists #[_,_,rfl,.inl (bC.of (s0 _ _ gx)),?_];exists #[p,H0,mv,mv.9,by rw[lx],gp.same s0,(),(),λws hw=>#[D.mw ws hw,om ws hw],λa H3 na s3 Ga=>?_];have hx3:=s3 _ _ hx;exists #[x,Z.a_System,dx,_,rfl,hx3,T.cl_System,T.na_move,(by show 0 < 1000;decide),?_];have e3:Fx x H3 (upd H3 x (.ins Z.a_System dx (cE "move" (.ref a) []))):=Fx.upd;have i3:uY H3 x:=#[_,_,_,hx3];have hx4:(upd H3 x (.ins Z.a_System dx (cE "move" (.ref a) []))) x=some (.ins Z.a_System dx (cE "move" (.ref a) [])):=aK;have Ga4:=Ga.exc e3 i3;have k4:aH Hb (upd H3 x (.ins Z.a_System dx (cE "move" (.ref a) []))):=(s0.trans s3).after nx;generalize upd H3 x (.ins Z.a_System dx (cE "move" (.ref a) []))=H4 at e3 hx4 Ga4 k4 ⊢;exists #[x,Z.a_System,dx,_,_,rfl,hx4,T.cl_System,T.na_move,(by rw[bH,if_pos rfl]),?_];obtain as|ga|qa|_:=id Ga4;have la:=qa.9;exists #[_,_,rfl,.inl (bC.of ga),?_];exists #[x,Z.a_System,dx,_,rfl,hx4,T.cl_System,T.na_states,bc fB (by show 1 < 1000;decide),?_];rw[show ((as.9:Nat):Int)=((mv.9:Nat):Int) by rw[la]];have e4:Fx x H4 (upd H4 x (.ins Z.a_System dx (cE "states" (.int mv.9) (cE "move" (.ref a) [])))):=Fx.upd;have i4:uY H4 x:=#[_,_,_,hx4];have hx5:(upd H4 x (.ins Z.a_System dx (cE "states" (.int mv.9) (cE "move" (.ref a) [])))) x=some (.ins Z.a_System dx (cE "states" (.int mv.9) (cE "move" (.ref a) []))):=aK;have Ga5:=Ga4.exc e4 i4;have k5:aH Hb (upd H4 x (.ins Z.a_System dx (cE "states" (.int mv.9) (cE "move" (.ref a) [])))):=k4.after nx;generalize upd H4 x (.ins Z.a_System dx (cE "states" (.int mv.9) (cE "move" (.ref a) [])))=H5 at e4 hx5 Ga5 k5 ⊢;clear e3 e4 i3 i4 hx4 Ga4 ga qa;exists #[q,ys,1,4,rfl,k5 _ _ gy,(),?_];exists #[x,Z.a_System,dx,_,_,rfl,hx5,T.cl_System,T.na_states,(by rw[bH,if_pos rfl]),?_];exists #[q,H1,pt,mv.9,rfl,gq.same k5,(),(),λws hw=>#[D.pw ws hw,op ws hw],λb H6 nb s6 Gb=>?_];have hx6:=s6 _ _ hx5;have i6:uY H6 x:=#[_,_,_,hx6];exists #[x,Z.a_System,dx,_,rfl,hx6,T.cl_System,T.na_put,bc fB (bc (dY fB) (by show 2 < 1000;decide)),?_];have e6:Fx x H6 (upd H6 x (.ins Z.a_System dx (cE "put" (.ref b) (cE "states" (.int mv.9) (cE "move" (.ref a) []))))):=Fx.upd;have hx7:(upd H6 x (.ins Z.a_System dx (cE "put" (.ref b) (cE "states" (.int mv.9) (cE "move" (.ref a) []))))) x=some (.ins Z.a_System dx (cE "put" (.ref b) (cE "states" (.int mv.9) (cE "move" (.ref a) [])))):=aK;have Ga7:=(Ga5.same s6).exc e6 i6;have Gb7:=(Gb.weak k5).exc e6 i6;have k7:aH Hb (upd H6 x (.ins Z.a_System dx (cE "put" (.ref b) (cE "states" (.int mv.9) (cE "move" (.ref a) []))))):=(k5.trans s6).after nx;generalize upd H6 x (.ins Z.a_System dx (cE "put" (.ref b) (cE "states" (.int mv.9) (cE "move" (.ref a) []))))=H7 at e6 hx7 Ga7 Gb7 k7 ⊢;obtain bs|gb|qb|_:=id Gb7;have lb:=qb.9;exists #[x,Z.a_System,dx,_,_,rfl,hx7,T.cl_System,T.na_put,(by rw[bH,if_pos rfl]),?_];exists #[_,_,rfl,.inl (bC.of gb),?_];exists #[x,Z.a_System,dx,_,rfl,hx7,T.cl_System,T.na_ins,bc fB (bc (dY (af fB (dY fB))) (by show 3 < 1000;decide)),?_];rw[show ((bs.9:Nat):Int)=((pt.9:Nat):Int) by rw[lb]];have i7:uY H7 x:=#[_,_,_,hx7];have e7:Fx x H7 (upd H7 x (.ins Z.a_System dx (cE "ins" (.int pt.9) (cE "put" (.ref b) (cE "states" (.int mv.9) (cE "move" (.ref a) [])))))):=Fx.upd;have hx8:(upd H7 x (.ins Z.a_System dx (cE "ins" (.int pt.9) (cE "put" (.ref b) (cE "states" (.int mv.9) (cE "move" (.ref a) [])))))) x=some (.ins Z.a_System dx (cE "ins" (.int pt.9) (cE "put" (.ref b) (cE "states" (.int mv.9) (cE "move" (.ref a) []))))):=aK;have Ga8:=Ga7.exc e7 i7;have Gb8:=Gb7.exc e7 i7;have k8:aH Hb (upd H7 x (.ins Z.a_System dx (cE "ins" (.int pt.9) (cE "put" (.ref b) (cE "states" (.int mv.9) (cE "move" (.ref a) [])))))):=k7.after nx;generalize upd H7 x (.ins Z.a_System dx (cE "ins" (.int pt.9) (cE "put" (.ref b) (cE "states" (.int mv.9) (cE "move" (.ref a) [])))))=H8 at e7 hx8 Ga8 Gb8 k8 ⊢;clear e6 e7 i6 i7 hx7 Ga7 Gb7 gb qb;exists #[r,zs,2,4,rfl,k8 _ _ gz,(),?_];exists #[x,Z.a_System,dx,_,_,rfl,hx8,T.cl_System,T.na_states,(by rw[bH,if_neg (by decide +kernel),bH,if_neg (by decide +kernel),bH,if_pos rfl]),?_];exists #[r,H2,lk,mv.9,rfl,gr.same k8,(),(),λws hw=>#[D.lw ws hw,ol ws hw],λc H9 nc s9 Gc=>?_];have hx9:=s9 _ _ hx8;have i9:uY H9 x:=#[_,_,_,hx9];exists #[x,Z.a_System,dx,_,rfl,hx9,T.cl_System,T.na_look,bc fB (bc (dY (af fB (dY (af fB (dY fB))))) (by show 4 < 1000;decide)),?_];have e9:Fx x H9 (upd H9 x (.ins Z.a_System dx (cE "look" (.ref c) (cE "ins" (.int pt.9) (cE "put" (.ref b) (cE "states" (.int mv.9) (cE "move" (.ref a) []))))))):=Fx.upd;have hxA:(upd H9 x (.ins Z.a_System dx (cE "look" (.ref c) (cE "ins" (.int pt.9) (cE "put" (.ref b) (cE "states" (.int mv.9) (cE "move" (.ref a) []))))))) x=some (.ins Z.a_System dx (cE "look" (.ref c) (cE "ins" (.int pt.9) (cE "put" (.ref b) (cE "states" (.int mv.9) (cE "move" (.ref a) [])))))):=aK;have GaA:=(Ga8.same s9).exc e9 i9;have GbA:=(Gb8.same s9).exc e9 i9;have GcA:=(Gc.weak k8).exc e9 i9;have kA:aH Hb (upd H9 x (.ins Z.a_System dx (cE "look" (.ref c) (cE "ins" (.int pt.9) (cE "put" (.ref b) (cE "states" (.int mv.9) (cE "move" (.ref a) []))))))):=(k8.trans s9).after nx;generalize upd H9 x (.ins Z.a_System dx (cE "look" (.ref c) (cE "ins" (.int pt.9) (cE "put" (.ref b) (cE "states" (.int mv.9) (cE "move" (.ref a) []))))))=HA at e9 hxA GaA GbA GcA kA ⊢;obtain cs|gc|qc|_:=id GcA;have lc:=qc.9;exists #[x,Z.a_System,dx,_,_,rfl,hxA,T.cl_System,T.na_look,(by rw[bH,if_pos rfl]),?_];exists #[_,_,rfl,.inl (bC.of gc),?_];exists #[x,Z.a_System,dx,_,rfl,hxA,T.cl_System,T.na_outs,bc fB (bc (dY (af fB (dY (af fB (dY (af fB (dY fB))))))) (by show 5 < 1000;decide)),?_];rw[show ((cs.9:Nat):Int)=((lk.9:Nat):Int) by rw[lc]];have iA:uY HA x:=#[_,_,_,hxA];exact k _ (kA.after nx) #[dx,a,b,c,aK,back na,k5.none nb,k8.none nc,(GaA.exc Fx.upd iA).weak s0,GbA.exc Fx.upd iA,GcA.exc Fx.upd iA]
theorem zS:sC ["_law_grid"] 1 pM:=by walk_at "d"
theorem oA (T:Txt K mg Z) (ptree:P.given.tree=none):T.ir.o P w base 1 (zJ K):=by
 refine T.ir.F.k zS ?_;walk_at "i";obtain p|H0|rows|rfl|hp|hl|hm|k:=h;refine #[_,(az (aT (cn ["_law_row_here"] [] [] (cC bL) (λ_=>(eX 0)) (λ_=>cA) (λ_=>(dB (dI K (by rfl)) (by rfl) T.list PyProof.Rows.boot_list (c4 bL)))))),?_];walk_at "s"
 try rw[ib]
 obtain xs|gx|qx|_:=id hp;exists #[#[_,bC.of gx],?_];refine dc (K:=K) (F:=dq K H0) (dq K H) id gx qx hl (λa b=>a.same b) (λa b=>a.same b) ?_ ?_
 ·rintro i ns x H' NY NN en s ⟨u,rfl,_,zs,gz,qz⟩ k1;exists #[u,zs,rfl,.inl (bC.of gz),λl1 hl1=>?_];exact k1 _ _ (aH.new hl1) #[l1,rfl,s.none hl1,zs,aK,Paired.imp' (λ_ _ z=>z.same (aH.new hl1)) qz]
 ·rintro ys' H' r hr s g pr nx;rw[iE] at pr nx;exact k r H' hr s #[ys',g,pr,jC nx]
theorem DW:sC ["_law_parts_here"] 1 tI:=by walk_at "d"
theorem Ej (T:Txt K mg Z) (ptree:P.given.tree=none):T.nQ.o P w base 7 (zj K Z.a_System):=by
 refine T.nQ.F.k DW ?_;walk_at "i";obtain r|H0|mv|pt|lk|rfl|PQ|D|F|k:=h;refine #[_,(az (aT (Qw T.mk_System (vH T ptree) (hr.mono ()) rfl T.mg_System T.oX .nil CP (qq (cw (oA T ptree) hr T.ir (c4 (aS br bL ai))) (cw (oA T ptree) hr T.ir (c4 (aS br bL ai))) (cw (oA T ptree) hr T.ir (c4 (aS br bL ai))))))),?_];walk_at "s"
 try rw[ib]
 obtain m|p|l|g|n1|n2|n3|Gm|Gp|Gl:=id PQ;have d1:=D.n8;have d2:=D.i4;have d3:=D.o4;exists #[m,H0,mv,rfl,Gm,(),λxs hx=>by rw[D.mw xs hx];lia,λa H1 na s1 Ga=>?_];have g1:=s1 _ _ g;exists #[p,H0,pt,rfl,Gp.same s1,(),λxs hx=>by rw[D.pw xs hx];lia,λb H2 nb s2 Gb=>?_];have s12:=s1.trans s2;have g2:=s12 _ _ g;exists #[l,H0,lk,rfl,Gl.same s12,(),λxs hx=>by rw[D.lw xs hx];lia,λc H3 nc s3 Gc=>?_];have s13:=s12.trans s3;walk_at "w";intro x dx nx ndx nex;exact #[x,dx,a,b,c,H3,H,H1,H2,mv,pt,lk,rfl,nx,ndx,nex,rfl,(Ga.same s2).same s3,Gb.same s3,Gc,D,F.ok.1,F.ok.2.1,F.ok.2.2,λH' s' S'=>#[rfl,k x H' (s13.none nx) (s13.trans s') (S'.weak s13)]]
theorem iS:sC ["_law_bag_here","_law_many","_law_begin","_law_found","_law_wide","_law_k"] 3 oj:=by walk_at "d"
theorem rM (T:Txt K mg Z) (ptree:P.given.tree=none):T.iT.o P w base 2 (Kj K):=by
 refine T.iT.F.k iS ?_;walk_at "i";obtain b|m|rfl|hB|hm|k:=h
 refine #[_,(ao (d6 3 iS.nd (dG jy))
  (ao (d6 4 iS.nd (aS bE (dG (xK ai ai ai ai)) (cw (aY T ptree) hr T.aU (cH bL ai))))
  (ao (dF PassesOwn.never rfl (cu rfl T.range (c4 cM)) (eX 5 iS.nd)
   (az (cN (be fj (cw (aY T ptree) hr T.aU (cH bL ai)) ai (bo _)) (az (iK (tT cI c6 c5 jN fX (c4 (cP (cH ai ai)))))) (az (iK (tT cI c6 c5 jN fX (c4 (cw (gG T ptree) hr T.d7 (cH (bD fV eo (cw (aY T ptree) hr T.aU (cH bL mU))) (bD fV ai (cw (aY T ptree) hr T.aU (cH bL (bD (jA rfl iS rfl rfl rfl ptree (uj hr)) mU ai)))))))))))))
  (az (aT fX))))),?_]
 walk_at "s"
 try rw[ib]
 exists c7 λf H1 s1 n1 g1=>?_
 exists c7 λl0 H2 s2 n2 g2=>?_
 have B2:=(hB.same s1).same s2;exists #[b,4,rfl,B2,(),(),λv H3 v0 v1 B3 u3=>?_];have fb:f≠b:=λz=>hB.at (by rw[<- z];exact n1)
 have g3:=u3.other (λz=>(hB.same s1).at (by rw[<- z];exact n2)) g2;have gf:=u3.other fb (s2 _ _ g1);obtain x|ex|mx|_:=lA (xs:=[V.int 9,V.int 9,V.int 9,V.int 1000]) v0 (by simpa using v1)
 obtain ⟨w,rfl,hw⟩:∃w:Nat,x=.int w/\(w=9\/w=1000):=by
  simp only[aD,aO,or_false] at mx;rcases mx with rfl | rfl | rfl | rfl
  ·exact #[9,rfl,.inl rfl]
  ·exact #[9,rfl,.inl rfl]
  ·exact #[9,rfl,.inl rfl]
  ·exact #[1000,rfl,.inr rfl]
 obtain q0|I0|xs0|gq0:=hB.inner;have fq:f≠q0:=λz=>by rw[<- z,n1] at gq0;cases gq0
 have u03:cY b H H3:=((s1.trans s2).upto (p:=b)).trans u3;have I3:Inner H3 b q0:=u03.2 _ I0;exists b7 (bC.of g3) ex ?_;exists #[(),(),?_];refine dO (n:=m) (λi σ' H'=>∃(y:Option V) (us:List V) (ws:List Rat),σ'=[some (.ref b),some (.int m),some (.int 1),some (.ref f),some (.int w),y]/\H' f=some (.lst us)/\Paired (bO K H') ws us/\ws.9=i/\(∀z∈ws,0 < z/\Dr 1000 z)/\ji H' b/\Inner H' b q0/\cY b H H') #[none,[],[],rfl,gf,.nil,rfl,(λ_ z=>nomatch z),B3,I3,u03] ?_ ?_
 ·rintro i σ' H' hi ⟨y,us,ws,rfl,gu,pr,lw,hd,B',I',u'⟩;have lu:=pr.9
  have fin:∀(t:V) (z:Rat) (H5:Hp),ji H5 b->cY b H' H5->bO K H5 z t->0 < z/\Dr 1000 z->H5 f=some (.lst us)/\us.9 < sizeLine/\∃(y:Option V) (us':List V) (ws':List Rat),[some (V.ref b),some (.int m),some (.int 1),some (.ref f),some (.int w),some (.int i)]=[some (.ref b),some (.int m),some (.int 1),some (.ref f),some (.int w),y]/\(upd H5 f (.lst (us++[t]))) f=some (.lst us')/\Paired (bO K (upd H5 f (.lst (us++[t])))) ws' us'/\ws'.9=i+1/\(∀z∈ws',0 < z/\Dr 1000 z)/\ji (upd H5 f (.lst (us++[t]))) b/\Inner (upd H5 f (.lst (us++[t]))) b q0/\cY b H (upd H5 f (.lst (us++[t]))):=λt z H5 B5 u5 nz dz=>by
   have g5:=u5.other fb gu;have I5:=u5.2 _ I';refine #[g5,dA (),_,_,ws++[z],rfl,aK,bM (Paired.imp' (λ_ _ y=>(y.upto u5 B').updL g5) pr) (.cons (nz.updL g5) .nil),by simp [lw],E7 hd dz,B5.upd I5 fb fq,I5.upd fb,(u'.trans u5).after n1]
  exists #[b,2,rfl,B',(),(),λc Ha c0 c1 Ba ua=>?_];exists iO (λh0=>?_) (λh0=>?_)
  ·exists #[.inl #[rfl,_,bC.of (ua.other fb gu)],?_];exists bR λt Hb sb gt=>?_
   obtain e1|e2|e3:=fin (.ref t) 1 Hb (Ba.same sb) (ua.same sb) (bO.mk gt rfl) #[(),(),()];exists iX e1 e2 ?_;exact e3
  ·exists #[.inl #[rfl,_,bC.of (ua.other fb gu)],?_];exists #[b,_,rfl,Ba,(),(),λt Hb t0 t1 Bb ub=>?_];exists fU (show o6 _ _ from #[(),by show (2:Nat) < 2^8999000;exact bw (show 2 < 2^2 by decide) (ak () ())]) ?_;rw[cm _ ()];exists #[b,_,rfl,Bb,(),(),λd Hc d0 d1 Bc uc=>?_];exists #[_,_,rfl,(),(IY ()).mono (),λr Hd sd gd=>?_];obtain z|ez|dz|ze:=Jz (t:=1+t) (b:=1+d) (W:=1000) () () ();obtain e1|e2|e3:=fin (.ref r) z Hd (Bc.same sd) (((ua.trans ub).trans uc).same sd) (bO.mk gd ez) #[TH ze () (),dz];exists iX e1 e2 ?_;exact e3
 ·rintro σ' H' ⟨y,us,ws,rfl,gu,pr,lw,hd,B',I',u'⟩;exists k f ws H' n1 #[us,gu,pr] lw hd B' u'
theorem j3:sC ["_law_bag_here","_law_parts_here","_law_bottoms","_law_row_here"] 2 qM:=by walk_at "d"
theorem By (T:Txt K mg Z) (ptree:P.given.tree=none):T.mo.o P w base 2 (Cy K):=by
 refine T.mo.F.k j3 ?_;walk_at "i";obtain b|r|H0|mv|pt|lk|rfl|hB|nb|PQ|D|sz|k:=h
 refine #[_,(ao (d6 2 j3.nd (dG (c4 ai)))
  (ao (dF PassesOwn.never rfl (cC (bD ni (aS br cM ai) (aS br cM ai))) (eX 3 j3.nd)
   (az (d6 2 j3.nd (bD ni eo (cn ["_law_one"] [] [] (cC fX) (λ_=>(eX 0)) (λ_=>cA) (λ_=>(bD fV (aS (rn K (by rfl)) bL ai) (bD cR (bD (jA rfl j3 rfl rfl rfl ptree (uj hr)) (ba wX (by rfl) T.abs PyProof.Rows.boot_abs (c4 (aS (rn K (by rfl)) bL ai))) ai) ai))))))))
  (ao (cN (be tY (ba (Mn rfl) (by rfl) T.max PyProof.Rows.boot_max (c4 eo)) ai (bo _)) (az (aT (cw (aY T ptree) hr T.aU (cH bL ai)))) bI)
  (ao (cN (be tY (ba aR (by rfl) T.len aL (c4 (aS br cM ai))) ai (bo _)) (az (aT (aS bE (dG (cH (cw (aY T ptree) hr T.aU (cH bL ai)) (ba aR (by rfl) T.len aL (c4 (aS br cM ai))))) (cw (aY T ptree) hr T.aU (cH bL ai))))) bI)
  (ao (cN (PW.pt (kK (be tW (ba aR (by rfl) T.len aL (c4 (aS br cM ai))) ai (bo _)) (ma (be fj (cw (aY T ptree) hr T.aU (cH bL ai)) ai (bo _))))) (az (aT (cw (aY T ptree) hr T.aU (cH bL ai)))) bI)
  (az (aT (cw (aY T ptree) hr T.aU (cH bL (bD fV ai (ba aR (by rfl) T.len aL (c4 (aS br cM ai))))))))))))),?_]
 walk_at "s"
 try rw[ib]
 have d8:=D.n8;have i4:=D.i4;obtain m|p|l|g|n1|n2|n3|Gm|Gp|Gl:=id PQ;obtain um|gm|qm|_:=id Gm;obtain up|gp|qp|_:=id Gp;have lum:=qm.9;have lup:=qp.9;exists c7 λbl0 H1 s1 nbl g1=>?_
 have g':=s1 _ _ g;exists ou (s1 _ _ gm) (s1 _ _ gp) mR λcc H2 s2 nc gc=>?_
 have s02:=s1.trans s2;have qc:Paired (dq K H0 H2) (mv++pt) (um++up):=Paired.imp' (λ_ _ z=>dq.same z s02) (bM qm qp)
 have wc:∀xs∈mv++pt,xs.9=mv.9:=λxs hx=>by
  rcases av.mp hx with hx | hx
  ·exact D.mw xs hx
  ·exact D.pw xs hx
 have lc:(mv++pt).9=(um++up).9:=qc.9;rw[aj,aj] at lc;exists #[#[_,bC.of gc],?_];refine gP (K:=K) (a:=cc) (xs:=um++up) (λi σ' H'=>aH H2 H'/\∃bl ns y,σ'=[some (.ref b),some (.ref r),some (.ref bl),y]/\H' bl=some (.lst (ns.map V.int))/\1<=ns.9/\ns.9<=1+i*8/\∀j xs,j < i->(mv++pt)[j]?=some xs->∀x∈xs,UE x∈ns) #[aH.refl _,bl0,[1],_,rfl,s2 _ _ g1,(),(),λj xs h=>absurd h (dw _)] (λi σ' H' _ #[e,_]=>bC.of (e _ _ gc)) ?_ ?_
 ·rintro i v σ' H' hv ⟨e,bl,ns,y,rfl,gb,b1,b2,hn⟩;obtain xs|exs|u|rfl|_|zs|gz|qz:=bW qc hv;have mx:=ar exs;have wx:=wc xs mx;have hi:i < (um++up).9:=(aJ.mp hv).1;rw[aj] at hi;exists #[#[_,bC.of (e _ _ gz)],?_];refine dc (K:=K) (F:=bO K) (λ_ c x=>x=V.int (UE c)) id (e _ _ gz) (Paired.imp' (λ_ _ z=>z.same e) qz) () (λa b=>a.same b) (λa _=>a) ?_ ?_
  ·rintro j c x Ha NY NN ec sa ⟨pp,rfl,hp⟩ k1;have mc:=ar ec;have szc:=sz xs mx c mc;walk_at "w"
   have e1:(if (nm c).1 < 0 then -(nm c).1 else (nm c).1)=(c.num.natAbs:Int):=by
    show (if c.num < 0 then -c.num else c.num)=_
    split <;> lia
   have e2:(c.num.natAbs:Int).fdiv 1000=(c.num.natAbs:Int) / 1000:=cm _ ();rw[e1];refine fU (show o6 _ _ from #[(),bw (show (1000:Int).natAbs < 2^20 by decide) (ak () ())]) ?_;rw[e2];exists k1 _ _ (aH.refl _) rfl
  rintro ys Hb cl hcl sb gcl prl _
  have ey:ys=(xs.map UE).map V.int:=by
   rw[iE] at prl;rw[o9];exact CQ prl
  have ly:=prl.9;rw[ag] at ly;have gbb:=sb _ _ gb;rw[ey] at gcl;exists ou gbb gcl (dn (dA (by rw[ag,ag,ag];lia))) λc2 Hc sc nc2 gc2=>?_
  rw[<- cO] at gc2;refine #[(e.trans sb).trans sc,c2,ns++xs.map UE,_,rfl,gc2,by rw[aj];lia,by rw[aj,ag];lia,λj ys' hj ej x hx=>?_];rcases bZ j i with z | z
  ·exact dM _ (hn j ys' z ej x hx)
  ·have:j=i:=()
   subst this;rw[exs] at ej;cases ej;exact bB _ (aA.mpr #[x,hx,rfl])
 ·rintro σ' H' ⟨e,bl,ns,y,rfl,gb,b1,b2,hn⟩;have e0:=s02.trans e;have B':=hB.same e0;have PQ':=PQ.same e0;obtain m'|p'|l'|g2|_|_|_|Gm'|_|_:=id PQ'
  have em:m'=m:=by
   have:=e0 _ _ g;rw[this] at g2;cases g2;rfl
  subst em;obtain um'|gm'|qm'|_:=id Gm';have lum':=qm'.9;have u0:cY b H H':=e0.upto;exists #[bl,ns,rfl,bC.of gb,(),λM hM hmax=>?_];exists iO (λh=>?_) (λh=>?_)
  ·exists #[b,4,rfl,B',(),(),λv H3 v0 v1 B3 u3=>?_];obtain v|rfl:=cK v0;exact k v H3 #[(),.inl ()] B3 (u0.trans u3)
  ·have M9:M<=9:=by rw[decide_eq_true_eq] at h;lia
   have sm:∀xs∈mv++pt,∀x∈xs,x.den<=9/\x.num.natAbs < 1000:=λxs hx x hx'=>by
    obtain j|hj|rfl:=aX hx;have:=hn j _ (by rw[aj,<- lum,<- lup];rw[aj] at hj;exact hj) (ae hj) x hx';exact Q4 (Int.le_trans (hmax _ this) M9)
   exists #[_,_,rfl,.inl (bC.of gm'),?_];rw[<- lum'];exists iO (λh1=>?_) (λh1=>?_)
   ·have n5:5 < mv.9:=by have:=of_decide_eq_true h1;lia
    exists #[b,4,rfl,B',(),(),λv H3 v0 v1 B3 u3=>?_];obtain v|rfl:=cK v0;obtain m3|p3|l3|g3|_|_|_|Gm3|_|_:=PQ'.upto u3 B' nb;obtain um3|gm3|qm3|_:=id Gm3;have lum3:=qm3.9;exists #[_,_,rfl,.inl (bC.of gm3),?_];rw[<- lum3];exists c7 λl4 H4 s4 n4 g4=>?_
    exists #[b,2,rfl,B3.same s4,(),(),λv2 H5 v20 v21 B5 u5=>?_];have g5:=u5.other (λz=>B3.at (by rw[<- z];exact n4)) g4;obtain x|ex|mx|_:=lA (xs:=[V.int (v:Int),V.int (mv.9:Int)]) v20 (by simpa using v21);exists b7 (bC.of g5) ex ?_;have u05:=(u0.trans (u3.same s4)).trans u5;simp only[aD,aO,or_false] at mx;rcases mx with rfl | rfl
    ·exact k v H5 #[(),.inl ()] B5 u05
    ·exact k mv.9 H5 #[(),.inr #[sm,λ_=>ah _,λ_ _=>oI _]] B5 u05
   ·have n5:mv.9<=5:=by rw[decide_eq_true_eq] at h1;lia
    exists #[_,_,rfl,.inl (bC.of gm'),?_];rw[<- lum'];have last:∀(Hx:Hp),ji Hx b->cY b H Hx->∀(v:Nat),v < 2+mv.9->Q (.int v) Hx:=λHx Bx ux v hv=>k v Hx #[(),.inr #[sm,λz=>(),λ_ _=>()]] Bx ux
    exists iO (λh2=>?_) (λh2=>?_)
    ·have n3':mv.9 < 3:=by have:=of_decide_eq_true h2;lia
     exists #[b,8,rfl,B',(),(),λv H3 v0 v1 B3 u3=>?_];exists iO (λh3=>?_) (λh3=>?_)
     ·exists #[b,13,rfl,B3,(),(),λv4 H4 v40 v41 B4 u4=>?_];obtain v4|rfl:=cK v40;exact k v4 H4 #[(),.inr #[sm,λz=>(),λz _=>()]] B4 ((u0.trans u3).trans u4)
     ·obtain m3|p3|l3|g3|_|_|_|Gm3|_|_:=PQ'.upto u3 B' nb;obtain um3|gm3|qm3|_:=id Gm3;have lum3:=qm3.9;exists #[_,_,rfl,.inl (bC.of gm3),?_];rw[<- lum3];walk_at "w";rw[show ((2:Int)+(mv.9:Int))=((2+mv.9:Nat):Int) by lia];refine #[b,2+mv.9,rfl,B3,(),(),λv4 H4 v40 v41 B4 u4=>?_];obtain v4|rfl:=cK v40;exact last H4 B4 ((u0.trans u3).trans u4) v4 ()
    ·exists #[_,_,rfl,.inl (bC.of gm'),?_];rw[<- lum'];walk_at "w";rw[show ((2:Int)+(mv.9:Int))=((2+mv.9:Nat):Int) by lia];refine #[b,2+mv.9,rfl,B',(),(),λv4 H4 v40 v41 B4 u4=>?_];obtain v4|rfl:=cK v40;exact last H4 B4 (u0.trans u4) v4 ()
theorem oQ:sC ["_law_one","_law_other","_law_total","_law_k"] 2 vv:=by walk_at "d"
theorem oT (T:Txt K mg Z) (ptree:P.given.tree=none):T.jF.o P w base 3 (DJ K):=by
 refine T.jF.F.k oQ ?_;walk_at "i";obtain p|q|xs|ys|rfl|hp|hq|hl|hz|⟨k1,j1,k2,j2,h1,h2,hkj⟩|kk:=h
 refine #[_,(ao (d6 2 oQ.nd (cP (cH ai ai)))
  (ao (dF PassesOwn.never rfl (cu rfl T.range (c4 (ba aR (by rfl) T.len aL (c4 bL)))) (eX 3 oQ.nd)
   (az (d6 2 oQ.nd (cw (kv T ptree) hr T.gJ (cH eo (cw (iL T ptree) hr T.eO (cH (aS bE bL fX) (aS bE cM fX))))))))
  (az (aT eo)))),?_]
 walk_at "s"
 try rw[ib]
 obtain us|gu|qu:=id hp;obtain ws|gw|qw:=id hq;have lu:=qu.9;have lw:=qw.9;exists bR λr0 H0 s0 g0=>?_
 exists #[_,_,rfl,.inl (bC.of (s0 _ _ gu)),?_];exists #[(),(),?_];refine dO (n:=us.9) (λi σ' H'=>aH H H'/\∃(r:V) (v:Option V),σ'=[some (.ref p),some (.ref q),some r,v]/\bO K H' (bJ (xs.take i) (ys.take i)) r) #[s0,_,none,rfl,bO.mk g0 rfl] ?_ ?_
 ·rintro i σ' H' hi ⟨s,r,v,rfl,hr⟩;have ix:i < xs.9:=()
  have iy:i < ys.9:=()
  obtain vx|ex|nx:=Eu (Paired.imp' (λ_ _ z=>z.same s) qu) ix;obtain vy|ey|ny:=Eu (Paired.imp' (λ_ _ z=>z.same s) qw) iy;exists b7 (bC.of (s _ _ gu)) ex ?_;exists b7 (bC.of (s _ _ gw)) ey ?_;exists #[_,_,_,_,rfl,nx,ny,h1.szn (getD_mem ix) (),h2.szn (getD_mem iy) (),λr3 H3 s3 n3=>?_];exists #[_,_,_,_,rfl,hr.same s3,n3,OF h1 h2 hz i hkj,NO (h1.one (getD_mem ix)) (h2.one (getD_mem iy)) hkj,λr4 H4 s4 n4=>?_];exists #[(s.trans s3).trans s4,_,_,rfl,by rw[xU ix iy];exact n4]
 ·rintro σ' H' ⟨s,r,v,rfl,hr⟩;rw[aE (),aE ()] at hr;obtain t|rfl|ht:=hr;exists kk _ H' s #[t,rfl,ht]
theorem Jf:sC ["_law_grid","_law_row_here"] 2 xD:=by walk_at "d"
theorem vG (T:Txt K mg Z) (ptree:P.given.tree=none):T.lS.o P w base 4 (DI K):=by
 refine T.lS.F.k Jf ?_;walk_at "i";obtain p|q|H0|rows|ys|rfl|hp|hq|hz|hl|hr1|kk:=h;refine #[_,(az (aT (cn ["_law_one"] ["_law_row_here"] [1] (cC bL) (λ_=>(eX 0)) (λ_=>cA) (λ_=>(cw (oT T ptree) hr T.jF (cH bL cM)))))),?_];walk_at "s"
 try rw[ib]
 obtain xs|gx|qx|_:=id hp;exists #[#[_,bC.of gx],?_];refine dc (K:=K) (F:=dq K H0) (bO K) (λxs=>bJ xs ys) gx qx hz (λa b=>a.same b) (λa b=>a.same b) ?_ ?_
 ·rintro i ns x H' NY NN en s ⟨u,rfl,_,hu⟩ k;obtain e1|e2:=hr1 ns (ar en);exists #[u,q,ns,ys,rfl,hu,hq.same s,e1.symm,(),e2,λr H2 s2 h2'=>k _ _ s2 h2']
 ·rintro ys' H' r hr s g pr nx;exact kk r H' hr s #[ys',g,pr]
theorem iJ:sC ["_law_parts_here","_law_state","_law_puts_here","_law_move_here","_law_put","_law_look","_law_found","_law_k"] 3 tG:=by walk_at "d"
theorem Eh (T:Txt K mg Z) (ptree:P.given.tree=none):T.nO.o P w base 5 (FT K):=by
 refine T.nO.F.k iJ ?_;walk_at "i";obtain r|s0|u0|H0|mv|pt|lk|st|pu|rfl|PQ|D|hs|hu|l1|l2|NX|k:=h
 refine #[_,(ao (gW bL (vB rfl (cG (eX 3 iJ.nd) (cG (eX 4 iJ.nd) (cG (eX 5 iJ.nd) jg)))))
  (ao (d6 6 iJ.nd (cw (vG T ptree) hr T.lS (cH fX cM)))
  (ao (dF PassesOwn.never rfl (cu rfl T.range (c4 (ba aR (by rfl) T.len aL (c4 mU)))) (eX 7 iJ.nd)
   (az (d6 6 iJ.nd (cw (wD T ptree) hr T.kW (cH nY (cw (oB T ptree) hr T.jG (cH (aS bE eo qj) (aS bE mU qj))))))))
  (az (aT nY))))),?_]
 walk_at "s"
 try rw[ib]
 obtain m|p|l|g|n1|n2|n3|Gm|Gp|Gl:=id PQ;have d1:=D.n8;have d2:=D.i4;exists #[m,s0,H0,mv,st,rfl,Gm,hs,(),(),λxs hx=>#[by rw[D.mw xs hx,l1],NX.f2 xs hx],λf H1 nf s1 R1=>?_];obtain ps|gp|qp|_:=Gp.same s1;have lp:=qp.9;exists #[_,_,rfl,.inl (bC.of gp),?_];exists #[(),(),?_];refine dO (n:=ps.9) (λkk σ' H'=>∃(f:Addr) (x:Option V),σ'=[some (.ref r),some (.ref s0),some (.ref u0),some (.ref m),some (.ref p),some (.ref l),some (.ref f),x]/\H f=none/\aH H1 H'/\bK K H' f (nextK mv pt st pu kk)) #[f,none,rfl,nf,aH.refl _,by rw[Js];exact R1] ?_ ?_
 ·rintro kk σ' H' hk ⟨f',x,rfl,nf',s',R'⟩;have kp:kk < pt.9:=()
  have ku:kk < pu.9:=()
  obtain zs|gz|qz:=(hu.same s1).same s';have lz:=qz.9;obtain vu|eu|nu:=Eu qz ku;obtain row|vr|er|ev|mr|q|rfl|_|Rq:=fu qp kp
  have er':pt[kk]=row:=by
   rw[ae kp] at er;exact cp er
  have eu':pu.getD kk 0=pu[kk]:=by rw[aa,ae ku];rfl
  have mu:pu.getD kk 0∈pu:=getD_mem ku;exists b7 (bC.of gz) eu ?_;exists b7 (bC.of (s' _ _ gp)) (fJ ev) ?_;exists #[vu,q,_,row,rfl,nu,NX.su _ mu,Rq.same s',by rw[D.pw row mr];lia,NX.sp row mr,λr1 H2 n1' s2 R2=>?_];exists #[f',r1,_,_,rfl,R'.same s2,R2,by rw[ag,kx,D.pw row mr],by rw[kx];lia,NX.part kk,λy hy=>?_,λr2 H3 n2' s3 R3=>?_]
  ·obtain y'|hy'|rfl:=aA.mp hy;exact NX.mul _ mu row mr y' hy'
  ·exists #[s1.none (s'.none (s2.none n2')),(s'.trans s2).trans s3,?_];have e:=Jt (st:=st) (pu:=pu) (λxs hx=>by rw[D.mw xs hx,l1]) kp ku (by rw[er'];exact D.pw row mr);rw[er',<- eu'] at e;rw[<- e];exact R3
 ·rintro σ' H' ⟨f',x,rfl,nf',s',R'⟩;rw[uD () ()] at R';exists k f' H' nf' (s1.trans s') R'
theorem oP:sC ["_law_parts_here","_law_start","_law_rows","_law_state","_law_puts_here"] 3 vq:=by walk_at "d"
theorem yo (T:Txt K mg Z) (ptree:P.given.tree=none):T.mQ.o P w base 6 (Kr K):=by
 refine T.mQ.F.k oP ?_;walk_at "i";obtain r|s|p|H0|H1|mv|pt|lk|pus|st|rfl|PQ|D|Rs|ls|Gp|lp|wp|EF|k:=h
 refine #[_,(ao (d6 3 oP.nd (dB (dI K (by rfl)) (by rfl) T.list PyProof.Rows.boot_list (c4 cM)))
  (ao (dF PassesOwn.never rfl (cC eo) (eX 4 oP.nd)
   (az (d6 3 oP.nd (cw (Eh T ptree) hr T.nO (qq bL fX mU)))))
  (az (aT fX)))),?_]
 walk_at "s"
 try rw[ib]
 have d1:=D.n8;obtain ss|gs|qs:=id Rs;obtain ps|gp|qp|_:=id Gp;have lps:=qp.9;exists #[s,ss,rfl,.inl (bC.of gs),λc hc=>?_];have sc:aH H (upd H c (.lst ss)):=aH.new hc;have Rc:bK K (upd H c (.lst ss)) c st:=#[ss,aK,Paired.imp' (λ_ _ z=>z.same sc) qs];generalize upd H c (.lst ss)=Hc at sc Rc ⊢;exists #[#[_,bC.of (sc _ _ gp)],?_];refine gP (K:=K) (a:=p) (xs:=ps) (λi σ' H'=>aH H H'/\∃q y,σ'=[some (.ref r),some (.ref s),some (.ref p),some (.ref q),y]/\H q=none/\bK K H' q (qi mv pt st pus i)) #[sc,c,_,rfl,hc,Rc] (λi σ' H' _ #[e,_]=>bC.of (e _ _ gp)) ?_ ?_
 ·rintro i v σ' H' hv ⟨e,q,y,rfl,nq,Rq⟩;obtain pu|epu|u|rfl|_|Ru:=bW qp hv;have hi:i < pus.9:=(aJ.mp epu).1;have mp:=ar epu;exists #[r,q,u,H0,mv,pt,lk,_,pu,rfl,PQ.same e,D,Rq,bK.same Ru e,qE ls (),wp pu mp,EF.nx D ls wp () epu,λq2 H2 n2 s2 R2=>?_];rw[<- sP epu] at R2;exact #[e.trans s2,q2,_,rfl,e.none n2,R2]
 ·rintro σ' H' ⟨e,q,y,rfl,nq,Rq⟩;rw[<- lps] at Rq;exists k q H' nq e Rq
theorem DT:sC ["_law_bag_here","_law_parts_here","_law_steps_here","_law_wide"] 4 tz:=by walk_at "d"
theorem Eg (T:Txt K mg Z) (ptree:P.given.tree=none):T.nN.o P w base 4 (FO K):=by
 refine T.nN.F.k DT ?_;walk_at "i";obtain b|r|tt|w|H0|mv|pt|lk|rfl|hT|w1|w2|hB|nb|PQ|D|k:=h;refine #[_,(az (aT (cn ["_law_turn"] ["_law_bag_here","_law_parts_here","_law_wide"] [0,1,3] (cu rfl T.range (c4 eo)) (λ_=>(eX 0)) (λ_=>cA) (λ_=>(cw (mN T ptree) hr T.gK (qq cM (ba (BW K (by rfl)) (by rfl) T.len aL (c4 (aS (rn K (by rfl)) eo ai))) fX)))))),?_];walk_at "s"
 try rw[ib]
 have i4:=D.i4;exists #[(),(),?_]
 refine xX (n:=tt) (b:=b) (dq K H) (λxs=>xs.9=pt.9/\∀x∈xs,Dr (max w 6) x) hB () (λ{H' H'' c x} a u B=>by
  obtain q|e|nq|R:=a;exact #[q,e,nq,R.upto u B (λz=>hB.at (by rw[<- z];exact nq))]) ?_ ?_
 ·rintro i Ha NY NN hi ua Ba k1;obtain m|p|l|g|n1|n2|n3|Gm|Gp|Gl:=PQ.upto ua hB nb;obtain up|gp|qp|_:=id Gp;have lup:=qp.9;exists #[_,_,rfl,.inl (bC.of gp),?_];rw[<- lup];exists #[b,pt.9,w,rfl,Ba,(),w1,(),λq xs Hb nq R lx dx Bb ub=>?_];exact k1 _ xs _ ub Bb #[lx,dx] #[q,rfl,ua.none Ba nq,R]
 ·rintro ys cs Hz t ht uz Bz gz lc hc prz nx;exact k t cs Hz ht #[ys,gz,prz,jC nx] lc hc Bz uz
theorem qG:sC ["_law_bag_here","_law_parts_here","_law_start","_law_steps_here","_law_wide","_law_goal_here","_law_at"] 5 tP:=by walk_at "d"
theorem wH (T:Txt K mg Z) (ptree:P.given.tree=none):T.kZ.o P w base 7 (FX K):=by
 refine T.kZ.F.k qG ?_;walk_at "i";obtain b|r|s|tt|w|H0|mv|pt|lk|st|rfl|hT|w1|w2|hB|nb|PQ|D|Rs|sb|ls|EN|k:=h
 refine #[_,(ao (cN (be fj (cw (aY T ptree) hr T.aU (cH bL ai)) ai (bo _)) (az (aT (cw (mN T ptree) hr T.gK (qq bL (ba aR (by rfl) T.len aL (c4 eo)) mU)))) bI)
  (ao (d6 5 qG.nd (cw (yo T ptree) hr T.mQ (qq cM eo (cw (Eg T ptree) hr T.nN (xK bL cM fX mU)))))
  (ao (cN (PW.pt (kK (be tY (ba aR (by rfl) T.len aL (c4 qo)) ai (bo _)) (ma (be fj (cw (aY T ptree) hr T.aU (cH bL ai)) ai (bo _))))) (ao (d6 6 qG.nd (cw (aY T ptree) hr T.aU (cH bL (ba aR (by rfl) T.len aL (c4 qo)))))
  (az (gW (cw (kv T ptree) hr T.gJ (cH (aS bE qo nY) (cP (cH ai (bD fV ai (cw (aY T ptree) hr T.aU (cH bL ai))))))) (i8 qo nY set_list)))) bI)
  (az (aT qo))))),?_]
 walk_at "s"
 try rw[ib]
 have d8:=D.n8;exists #[b,2,rfl,hB,(),(),λv H1 v0 v1 B1 u1=>?_];have Rs1:=Rs.upto u1 hB sb;obtain zs|gz|qz:=id Rs1;have lz:=qz.9;exists iO (λh=>?_) (λh=>?_)
 ·exists #[_,_,rfl,.inl (bC.of gz),?_];rw[<- lz];exists #[b,st.9,w,rfl,B1,(),w1,(),λq xs H2 nq R2 l2 d2 B2 u2=>?_];exact k q xs H2 (u1.none B1 nq) R2 () (.inl d2) B2 (u1.trans u2)
 ·have PQ1:=PQ.upto u1 hB nb;exists #[b,r,tt,w,H0,mv,pt,lk,rfl,hT,w1,w2,B1,nb,PQ1,D,λp pus H2 np Gp lp dp B2 u2=>?_];have DP:Wa pt tt w pus:=#[lp,dp];have EF:=EN pus DP;have wp:∀xs∈pus,xs.9=pt.9:=λxs hx=>(dp xs hx).1
  have u02:=u1.trans u2;exists #[r,s,p,H0,H1,mv,pt,lk,pus,st,rfl,PQ1.upto u2 B1 nb,D,Rs1.upto u2 B1 sb,ls,Gp,(),wp,EF,λg H3 ng s3 Rg=>?_];rw[lp] at Rg;have B3:=B2.same s3;have u03:cY b H H3:=u02.same s3;have ng0:H g=none:=u02.none B2 ng;have gb:g≠b:=λz=>B2.at (by rw[<- z];exact ng)
  have lst:(qi mv pt st pus tt).9=mv.9:=qE ls ();have fin0:∀H':Hp,cY b H3 H'->ji H' b->Q (.ref g) H':=λH' u B=>k g _ H' ng0 (Rg.upto u B3 gb) lst (.inr #[pus,DP,.inl rfl]) B (u03.trans u)
  obtain ys|gy|qy:=id Rg;have ly:=qy.9;rw[lst] at ly;exists #[_,_,rfl,.inl (bC.of gy),?_];rw[<- ly];exists iO (λh1=>?_) (λh1=>?_)
  ·have np0:0 < mv.9:=by have:=of_decide_eq_true h1;lia
   exists #[b,4,rfl,B3,(),(),λv4 H4 v40 v41 B4 u4=>?_];exists iO (λh2=>?_) (λh2=>?_)
   ·obtain ys4|gy4|qy4:=Rg.upto u4 B3 gb;have ly4:=qy4.9;rw[lst] at ly4;exists #[_,_,rfl,.inl (bC.of gy4),?_];rw[<- ly4];exists #[b,mv.9,rfl,B4,(),(),λat' H5 a0 a1 B5 u5=>?_];obtain at'|rfl:=cK a0;have u35:=u4.trans u5;obtain ys5|gy5|qy5:=Rg.upto u35 B3 gb;have ly5:=qy5.9;rw[lst] at ly5;obtain vx|ex|nx:=Eu qy5 (j:=at') (by rw[lst];lia);exists b7 (bC.of gy5) ex ?_;exists #[b,3,rfl,B5,(),(),λv6 H6 v60 v61 B6 u6=>?_];obtain v6|rfl:=cK v60;exists bR λt7 H7 s7 g7=>?_
    rw[show ((1:Int)+(v6:Int))=((v6+1:Nat):Int) by lia] at g7;have u37:cY b H3 H7:=(u35.trans u6).same s7;obtain ys7|gy7|qy7:=Rg.upto u37 B3 gb;have ly7:=qy7.9;rw[lst] at ly7
    have e57:ys7=ys5:=by
     have:=(u6.same s7).other gb gy5;rw[gy7] at this;cases this;rfl
    have szst:=EF.szn D ls wp (k:=tt) ();have mx:(qi mv pt st pus tt).getD at' 0∈qi mv pt st pus tt:=getD_in (by rw[lst];lia);have szu:i5 (Ph v6):=rz () (show 6<=2^3 by decide) (show 1<=2^0 by decide) () (RH ());exists #[_,_,(qi mv pt st pus tt).getD at' 0,Ph v6,rfl,(nx.upto (u6.same s7) B5),bO.mk (q:=Ph v6) g7 rfl,szst _ mx,szu,λr8 H8 s8 N8=>?_];have gy8:=s8 _ _ gy7;have B8:=(B6.same s7).same s8;have u38:=u37.same s8;obtain q0|I0|xq0|gq0:=hB.inner;have gq:g≠q0:=λz=>by rw[<- z,ng0] at gq0;cases gq0
    have u08:cY b H H8:=u03.trans u38;have I8:=u08.2 _ I0;exists fW gy8 (gO ()) rfl ?_;exists k g _ _ ng0 #[_,aK,vD (N8.updL gy8) at' (Paired.imp' (λ_ _ z=>(z.same s8).updL gy8) qy7)] (by rw[eH];exact lst) (.inr #[pus,DP,.inr #[at',v6,(),rfl]]) (B8.upd I8 gb gq) (u08.after ng0)
   ·exists fin0 H4 u4 B4
  ·exists fin0 H3 (aH.refl _).upto B3
theorem fR:sC ["wholes","multiple","whole"] 1 kI:=by walk_at "d"
theorem vF (T:Txt K mg Z) (ptree:P.given.tree=none):T.iN.o P w base 2 (M6 K):=by
 refine T.iN.F.k fR ?_;walk_at "i";obtain p|bs|M|rfl|hp|hM|sM|hb|q:=h
 refine #[_,(ao (d6 1 fR.nd ai)
  (ao (dF PassesOwn.never rfl (cC bL) (eX 2 fR.nd)
   (az (d6 1 fR.nd (bD cR cM (bD (jA rfl fR rfl rfl rfl ptree (uj hr)) eo (cw (kN T ptree) hr T.fk (cH cM eo)))))))
  (az (aT cM)))),?_]
 walk_at "s"
 try rw[ib]
 exists #[#[_,hp],?_];refine gP (K:=K) (a:=p) (xs:=bs.map V.int) (λi σ' H'=>H'=H/\∃x,σ'=[some (.ref p),some (.int (xM (bs.take i) 1)),x]) #[rfl,none,rfl] (λi σ' H' _ #[e,_]=>by subst e;exact hp) ?_ ?_
 ·rintro i x σ' H' hx ⟨rfl,y,rfl⟩;rw[aB] at hx
  obtain ⟨b,eb,rfl⟩:∃b,bs[i]?=some b/\x=.int b:=by
   cases e:bs[i]? with
   | none=>rw[e] at hx;cases hx
   | some b=>rw[e] at hx;cases hx;exact #[b,rfl,rfl]
  have b1:=hb b (ar eb);have sb:Sz 4400000 b:=EB hM b1.2 sM;have ht:∀c∈bs.take i,0 < c/\c∣M:=λc hc=>hb c (bN hc)
  have msz:Sz 4400000 (xM (bs.take i) 1):=EB hM (yP () (Int.one_dvd _) ht) sM;generalize hm:xM (bs.take i) 1=m at msz ⊢;have gp:0 < g m b:=AQ ();exists #[m,b,rfl,?_];exists fU (show o6 _ _ from #[(),(Wm b1.1 sb).mono ()]) ?_;rw[cm _ ()];exists fU (show fZ _ _ from .inr #[_,_,msz,sb.hi (t:=m) (),()]) ?_;exists #[rfl,_,by rw[take_snoc eb,CZ,hm];rfl]
 ·rintro σ' H' ⟨rfl,y,rfl⟩;walk_at "w";rw[aE (by simp)];exact q
theorem xu:sC ["row"] 1 mY:=by walk_at "d"
theorem ij (T:Txt K mg Z) (ptree:P.given.tree=none):T.dS.o P w base 3 (M7 K):=by
 refine T.dS.F.k xu ?_;walk_at "i";obtain p|ns|M|rfl|hp|hl|hz|q:=h;refine #[_,(az (aT (cw (vF T ptree) hr T.iN (c4 (cn ["value"] [] [] (cC bL) (λ_=>(eX 0)) (λ_=>cA) (λ_=>(aS (rn K (by rfl)) bL ai))))))),?_];walk_at "s"
 try rw[ib]
 obtain xs|gx|qx:=id hp;have lx:=qx.9;exists #[#[_,bC.of gx],?_];refine iu (K:=K) (xs:=xs) (λi ys H'=>H'=H/\ys=((ns.take i).map (·.2)).map V.int) mR #[rfl,rfl] (λi ys H' _ #[e,_]=>by subst e;exact bC.of gx) ?_ ?_
 ·rintro i x ys H' hx hlen ⟨rfl,rfl⟩;obtain n|en|r|rfl|hr1:=bW qx hx;exists #[rfl,by rw[take_snoc en];simp]
 ·rintro ys H' hy ⟨rfl,rfl⟩ l hl';exists #[l,ns.map (·.2),M,rfl,bC.of (by rw[aK,aE ()]),hz.1,hz.2.1,λb hb=>?_,?_]
  ·obtain n|hn|rfl:=aA.mp hb;exact #[(hz.2.2 n hn).1,(hz.2.2 n hn).2.1]
  ·exact q _ (aH.new hl')
theorem vT:sC ["row","bottom"] 2 sV:=by walk_at "d"
theorem kM (T:Txt K mg Z) (ptree:P.given.tree=none):T.gI.o P w base 1 (FN K):=by
 refine T.gI.F.k vT ?_;walk_at "i";obtain p|ns|M|B|rfl|hp|hl|hz|hB|sB|q:=h;refine #[_,(az (aT (cn ["value"] ["bottom"] [1] (cC bL) (λ_=>(eX 0)) (λ_=>cA) (λ_=>(bD cR (aS (rn K (by rfl)) bL ai) (bD (jA rfl vT rfl rfl rfl ptree (uj hr)) cM (aS (rn K (by rfl)) bL ai))))))),?_];walk_at "s"
 try rw[ib]
 obtain xs|gx|qx:=id hp;have lx:=qx.9;exists #[#[_,bC.of gx],?_];refine iu (K:=K) (xs:=xs) (λi ys H'=>H'=H/\ys=(d5 (ns.take i) B).map V.int) mR #[rfl,rfl] (λi ys H' _ #[e,_]=>by subst e;exact bC.of gx) ?_ ?_
 ·rintro i x ys H' hx hlen ⟨rfl,rfl⟩;obtain n|en|r|rfl|hr1:=bW qx hx;have nz:=hz.2.2 n (ar en);have sn:Sz 4400000 n.2:=EB hz.1 nz.2.1 hz.2.1;exists fU (show o6 _ _ from #[(),sn.mono ()]) ?_;rw[cm _ ()]
  have sq:Sz 4400000 (B / n.2):=sB.le (by
   rw[UB ()];exact Nat.div_le_self ..)
  exists fU (show fZ _ _ from .inr #[_,_,nz.2.2,sq,()]) ?_;exact #[rfl,by rw[take_snoc en];simp [d5]]
 ·rintro ys H' hy ⟨rfl,rfl⟩ l hl';exact q l _ hl' (aH.new hl') (by rw[aK,aE ()])
theorem pV:sC ["top","bottom","divisor"] 2 zV:=by walk_at "d"
theorem nZ (T:Txt K mg Z) (ptree:P.given.tree=none):T.jP.o P w base 2 Lp:=by
 refine T.jP.F.k pV ?_;walk_at "i";obtain t|b|rfl|hb|hs|k:=h
 refine #[_,(ao (d6 2 pV.nd (cw (kN T ptree) hr T.fk (cH bL cM)))
  (ao (cN (be tW cM ai (bo _)) (az (d6 2 pV.nd (yj so eo))) bI)
  (az (aT (cP (cH (bD (jA rfl pV rfl rfl rfl ptree (uj hr)) bL eo) (bD (jA rfl pV rfl rfl rfl ptree (uj hr)) cM eo))))))),?_]
 walk_at "s"
 try rw[ib]
 exists #[t,b,rfl,?_];have hg:=AQ (t:=t) hb
 have hgs:Sz 8999000 (g t b):=hs.le (by
  have h1:(g t b).natAbs=Int.gcd t b:=by unfold g;simp
  rw[h1];exact iD () (by have:=gU (a:=t) (b:=b);exact fM.mpr this |> λz=>by simpa using z))
 have hgn:g (-t) (-b)=g t b:=by unfold g;rw[Int.gcd_neg,Int.neg_gcd]
 exists iO (λh=>?_) (λh=>?_)
 ·have hb0:b < 0:=of_decide_eq_true h;exists fU (show o6 _ _ from #[(),hgs.neg]) ?_;exists fU (show o6 _ _ from #[(),hgs.neg]) ?_;exists bR λr H' s' h'=>?_
  have e1:t.fdiv (-g t b)=lo (-t) (-b):=by
   unfold Nm.lo;rw[hgn,<- cm _ (),<- Int.neg_fdiv_neg (-t),Int.neg_neg]
  have e2:b.fdiv (-g t b)=hi (-t) (-b):=by
   unfold Nm.hi;rw[hgn,<- cm _ (),<- Int.neg_fdiv_neg (-b),Int.neg_neg]
  exact k r H' s' (by rw[if_pos hb0,if_pos hb0,<- e1,<- e2];exact h')
 ·have hb0:¬b < 0:=λz=>h (decide_eq_true z)
  exists fU (show o6 _ _ from #[(),hgs]) ?_;exists fU (show o6 _ _ from #[(),hgs]) ?_;exists bR λr H' s' h'=>?_
  rw[cm _ (),cm _ ()] at h';exact k r H' s' (by rw[if_neg hb0,if_neg hb0];exact h')
theorem jt:sC ["one","other","one_bottom","other_bottom","pairs"] 2 xv:=by walk_at "d"
theorem Am (T:Txt K mg Z) (ptree:P.given.tree=none):T.iM.o P w base 4 (DJ K):=by
 refine T.iM.F.k jt ?_;walk_at "i";obtain p|q|xs|ys|rfl|hp|hq|hl|hz|⟨k1,j1,k2,j2,h1,h2,hkj⟩|kk:=h
 refine #[_,(ao (d6 2 jt.nd (cw (ij T ptree) hr T.dS (c4 bL)))
  (ao (d6 3 jt.nd (cw (ij T ptree) hr T.dS (c4 cM)))
  (ao (d6 4 jt.nd (Aj rfl T.list rfl T.zip (cH (cw (kM T ptree) hr T.gI (cH bL eo)) (cw (kM T ptree) hr T.gI (cH cM fX)))))
  (az (aT (cw (nZ T ptree) hr T.jP (cH (ba (Ih rfl) (by rfl) T.sum PyProof.Rows.boot_sum (c4 (cn ["mine","yours"] [] [] (cC mU) (λ_=>(oR K 2 (cG (eX 0) (cG (eX 1) jg)))) (λ_=>cA) (λ_=>(bD cR bL cM))))) (bD cR eo fX)))))))),?_]
 walk_at "s"
 try rw[ib]
 obtain M|h1:=h1.rowM ();obtain N|h2:=h2.rowM ();replace hp:=hp.rowK;replace hq:=hq.rowK;replace hl:(ys.map nm).9=(xs.map nm).9:=by simpa using hl
 replace hz:(xs.map nm).9<=1000:=by simpa using hz
 obtain b1|s1:=h1.bot;obtain b2|s2:=h2.bot;have k2:∀r H',aH H H'->H' r=some (.tup [.int (lo (JK (xs.map nm) (ys.map nm)) (fF (xs.map nm)*fF (ys.map nm))),.int (hi (JK (xs.map nm) (ys.map nm)) (fF (xs.map nm)*fF (ys.map nm)))])->Q (.ref r) H':=λr H' s g=>kk r H' s (bO.mk g (K5 b1 b2))
 clear kk;generalize xs.map nm=ns at hp hq hl hz h1 h2 b1 b2 s1 s2 k2;generalize ys.map nm=ms at hp hq hl hz h1 h2 b1 b2 s1 s2 k2;have hb:0 < fF ns*fF ms:=iF b1 b2;exists #[p,ns,M,rfl,hp,hz,h1,λH1 t1=>?_];exists #[q,ms,N,rfl,hq.same t1,(),h2,λH2 t2=>?_];have u2:=t1.trans t2;exists #[p,ns,M,_,rfl,hp.same u2,hz,h1,b1,s1,λr1 H3 n3 t3 g3=>?_];exists #[q,ms,N,_,rfl,(hq.same u2).same t3,(),h2,b2,s2,λr2 H4 n4 t4 g4=>?_];exists #[r1,r2,_,_,rfl,bC.of (t4 _ _ g3),bC.of g4,by simp [d5,hl],λL ts H5 t5 n5 g5 pr=>?_];have lt:=pr.9;have ll:(d5 ns (fF ns)).9=ns.9:=by simp [d5]
 have lm:(d5 ms (fF ms)).9=ns.9:=by simp [d5,hl]
 rw[rY,ag,ag,ll,lm] at lt;exists #[#[_,bC.of g5],?_];refine iu (K:=K) (xs:=ts) (λi ys H'=>H'=H5/\ys=((List.zipWith (λx y=>x*y) (d5 ns (fF ns)) (d5 ms (fF ms))).take i).map V.int) mR #[rfl,rfl] (λi ys H' _ #[e,_]=>by subst e;exact bC.of g5) ?_ ?_
 ·rintro i x ys H' hx hlen ⟨rfl,rfl⟩;obtain pq|epq|T|rfl|gT:=bW pr hx;obtain t|u|et|eu|rfl:=Kb epq;exists fU (show fZ _ _ from .inr #[_,_,vP h1 b1 s1 (ar et),vP h2 b2 s2 (ar eu),()]) ?_;have ez:(List.zipWith (λx y=>x*y) (d5 ns (fF ns)) (d5 ms (fF ms)))[i]?=some (t*u):=by rw[bp,et,eu]
  exact #[rfl,by rw[take_snoc ez];simp]
 ·rintro ys H' hy ⟨rfl,rfl⟩ l hl';exists #[l,List.zipWith (λx y=>x*y) (d5 ns (fF ns)) (d5 ms (fF ms)),rfl,bC.of (by rw[aK,aE (by rw[aZ];lia)]),?_];exists fU (show fZ _ _ from .inr #[_,_,s1,s2,()]) ?_;exists #[_,_,rfl,(),(s1.mul s2).mono (),λr H6 t6 g6=>?_];rw[if_neg (),if_neg ()] at g6;exact k2 r H6 ((((u2.trans t3).trans t4).trans t5).trans ((aH.new hl').trans t6)) g6
theorem zP:sC ["grid","row"] 2 xB:=by walk_at "d"
theorem Jq (T:Txt K mg Z) (ptree:P.given.tree=none):T.jE.o P w base 5 (DI K):=by
 refine T.jE.F.k zP ?_;walk_at "i";obtain p|q|H0|rows|ys|rfl|hp|hq|hz|hl|hr1|kk:=h;refine #[_,(az (aT (cn ["line"] ["row"] [1] (cC bL) (λ_=>(eX 0)) (λ_=>cA) (λ_=>(cw (Am T ptree) hr T.iM (cH bL cM)))))),?_];walk_at "s"
 try rw[ib]
 obtain xs|gx|qx|_:=id hp;exists #[#[_,bC.of gx],?_];refine dc (K:=K) (F:=dq K H0) (bO K) (λxs=>bJ xs ys) gx qx hz (λa b=>a.same b) (λa b=>a.same b) ?_ ?_
 ·rintro i ns x H' NY NN en s ⟨u,rfl,_,hu⟩ k;obtain e1|e2:=hr1 ns (ar en);exists #[u,q,ns,ys,rfl,hu,hq.same s,e1.symm,(),e2,λr H2 s2 h2'=>k _ _ s2 h2']
 ·rintro ys' H' r hr s g pr nx;exact kk r H' hr s #[ys',g,pr]
theorem Bq:sC ["system","rows"] 2 qI:=by walk_at "d"
theorem uW (T:Txt K mg Z) (ptree:P.given.tree=none):T.j4.o P w base 6 (CB K Z.a_System):=by
 refine T.j4.F.k Bq ?_;walk_at "i";obtain x|p|H0|H1|mv|pt|lk|R|rfl|S|D|G|l100|wR|hf|k:=h;refine #[_,(az (aT (cn ["row"] ["system"] [0] (cC cM) (λ_=>(eX 0)) (λ_=>cA) (λ_=>(cw (Jq T ptree) hr T.jE (cH (KG K cM rfl) bL)))))),?_];walk_at "s"
 try rw[ib]
 obtain dx|a'|b'|c'|gx|_|_|_|Ga|Gb|Gc:=id S;have d8:=D.n8;obtain xs|gxs|qx|_:=id G;exists #[#[_,bC.of gxs],?_];refine dc (K:=K) (F:=dq K H1) (dq K H) (rV mv) gxs qx () (λa b=>a.same b) (λa b=>a.same b) ?_ ?_
 ·rintro i ns v H' NY NN en s ⟨u,rfl,_,hu⟩ k1;have mn:=ar en;exists #[x,Z.a_System,dx,_,_,rfl,s _ _ gx,T.cl_System,T.na_move,FK,?_];exists #[a',u,H0,mv,ns,rfl,Ga.same s,hu,(),by rw[wR ns mn];lia,λxs hx=>#[by rw[D.mw xs hx,wR ns mn],hf xs hx ns mn],λr H2 nr s2 R2=>k1 _ _ s2 #[r,rfl,s.none nr,R2]]
 ·rintro ys H' r hr s g pr nx;exact k r H' hr s #[ys,g,pr,jC nx]
theorem kG:sC ["system","steps","lists","rows","step"] 2 sZ:=by walk_at "d"
theorem wC (T:Txt K mg Z) (ptree:P.given.tree=none):T.kS.o P w base 7 (F2 K Z.a_System):=by
 refine T.kS.F.k kG ?_;walk_at "i";obtain x|u|H0|mv|pt|lk|rfl|hu|S|D|F|k:=h
 refine #[_,(ao (d6 2 kG.nd (dG jy))
  (ao (d6 3 kG.nd (jX bL rfl))
  (ao (dF PassesOwn.never rfl (cu rfl T.range (c4 cM)) (eX 4 kG.nd)
   (ao (iK (tT cI c6 c5 jN eo (c4 fX)))
  (az (d6 3 kG.nd (cw (uW T ptree) hr T.j4 (cH bL fX))))))
  (az (aT eo))))),?_]
 walk_at "s"
 try rw[ib]
 obtain dx|a'|b'|c'|gx|_|_|_|Ga|Gb|Gc:=id S;have d8:=D.n8;have i4:=D.i4;exists c7 λl H1 s1 n1 g1=>?_
 exists #[x,Z.a_System,dx,_,_,rfl,s1 _ _ gx,T.cl_System,T.na_put,DD,?_];walk_at "w";obtain bl|G0:=Gb.off n1;have G1:=G0.same s1;refine #[(),(),?_];refine dO (n:=u) (λi σ' H'=>aH H H'/\∃q us y,σ'=[some (.ref x),some (.int u),some (.ref l),some (.ref q),y]/\q≠l/\H' l=some (.lst us)/\Paired (IP K l H') (Bl mv pt i) us/\bu K (En l) H' q (pt.map (ia mv i))) #[s1,b',[],_,rfl,bl,g1,.nil,by rw[show pt.map (ia mv 0)=pt from iE pt];exact G1] ?_ ?_
 ·rintro i σ' H' hi ⟨s',q,us,y,rfl,ql,gu,pu,Gq⟩;have lu:=pu.9;have la:(Bl mv pt i).9=i:=by unfold Bl;rw[ag,bU]
  exists #[.inl #[rfl,_,bC.of gu],?_];exists iX gu (dA ()) ?_;have s2:aH H (upd H' l (.lst (us++[V.ref q]))):=s'.after n1;have g2:(upd H' l (.lst (us++[V.ref q]))) l=some (.lst (us++[V.ref q])):=aK
  have p2:Paired (IP K l (upd H' l (.lst (us++[V.ref q])))) (Bl mv pt (i+1)) (us++[V.ref q]):=by
   rw[yS];exact bM (Paired.imp' (λ_ _ z=>IP.upd z gu) pu) (.cons #[q,rfl,ql,Gq.updL gu off_ne ql] .nil)
  have Gq2:=Gq.updL (o:=.lst (us++[V.ref q])) gu off_ne ql;generalize upd H' l (.lst (us++[V.ref q]))=H2 at s2 g2 p2 Gq2 ⊢;walk_at "w"
  refine #[x,q,H0,En l,mv,pt,lk,_,rfl,S.same s2,D,Gq2,by rw[ag];lia,λr hr=>?_,λxs hx r hr=>(by
    obtain y|hy|rfl:=aA.mp hr;exact ((F.row D.mw D.pw y hy).fit D.mw (D.pw y hy) ()).1 xs hx),λr H3 nr s3 G3=>?_]
  ·obtain y|hy|rfl:=aA.mp hr;exact jf (D.pw y hy) i
  ·have e:(pt.map (ia mv i)).map (rV mv)=pt.map (ia mv (i+1)):=by rw[o9];rfl
   rw[e] at G3;exact #[s2.trans s3,r,_,_,rfl,λz=>(by rw[z,g2] at nr;cases nr),s3 _ _ g2,Paired.imp' (λ_ _ z=>IP.same z s3) p2,G3.weakN λq h=>NK λz=>by rw[z,g2] at h;cases h]
 ·rintro σ' H' ⟨s',q,us,y,rfl,ql,gu,pu,Gq⟩;exists k l us H' n1 s' gu pu
theorem Nd:sC ["one","other"] 2 D3:=by walk_at "d"
theorem NJ (T:Txt K mg Z) (ptree:P.given.tree=none):T.wI.o P w base 3 (qF K (λx y=>x - y)):=by
 refine T.wI.F.ok Nd (λvs H Q E h=>?_) (λcdv A outer s H vs Q E hr h=>?_)
 ·obtain p|q|a|b|c|d|rfl|hp|hq|hb|hd|sa|sb|sc|sd|k:=yK h;rfl
 ·obtain p|q|a|b|c|d|rfl|hp|hq|hb|hd|sa|sb|sc|sd|k:=yK h;refine #[_,(az (aT (cw (nZ T ptree) hr T.jP (cH (bD jz (bD cR (aS br bL ai) (aS br cM ai)) (bD cR (aS br cM ai) (aS br bL ai))) (bD cR (aS br bL ai) (aS br cM ai)))))),?_];refine oq (σ:=[some (.ref p),some (.ref q)]) rfl ?_
  try rw[ib]
  have hbd:0 < b*d:=iF hb hd;have sbd:Sz 8999000 (b*d):=(sb.mul sd).mono ();exists fU (show fZ _ _ from .inr #[_,_,sa,sd,()]) ?_;exists fU (show fZ _ _ from .inr #[_,_,sc,sb,()]) ?_;exists fU (show fZ _ _ from .inr #[_,_,sb,sd,()]) ?_;walk_at "w";exists #[_,_,rfl,(),sbd,λr H' s' h'=>?_];rw[if_neg (),if_neg ()] at h';exact k r H' s' h'
theorem DN:sC ["one","other"] 2 sW:=by walk_at "d"
theorem D9 (T:Txt K mg Z) (ptree:P.given.tree=none):T.nG.o P w base 4 (xn K):=by
 refine T.nG.F.k DN ?_;walk_at "i";obtain p|q|xq|yq|rfl|hp|hq|hl|hz|hn|hm|k:=h;refine #[_,(az (aT (cn ["mine","yours"] [] [] (qV rfl T.zip (cH bL cM)) (λ_=>(oR K 2 (cG (eX 0) (cG (eX 1) jg)))) (λ_=>cA) (λ_=>(cw (NJ T ptree) hr T.wI (cH bL cM)))))),?_];walk_at "s"
 try rw[ib]
 obtain xs|gx|qx:=id hp;obtain ys|gy|qy:=id hq;have lx:=qx.9;have ly:=qy.9;exists #[#[_,bC.of gx],#[_,bC.of gy],?_];refine pZ (K:=K) (xs:=xs) (ws:=ys) (λi zs H'=>aH H H'/\Paired (bO K H') ((List.zipWith (λx y=>x - y) xq yq).take i) zs) mR () #[aH.refl _,.nil] (λi zs H' _ #[s,_]=>#[bC.of (s _ _ gx),bC.of (s _ _ gy)]) ?_ ?_
 ·rintro i x y zs H' r hx hy hlen ⟨s,hP⟩ hr;obtain n|en|hn1:=bW qx hx;obtain m|em|hm1:=bW qy hy;have s1:=aH.new (o:=.tup [x,y]) hr;have s01:=s.trans s1;have gr:(upd H' r (.tup [x,y])) r=some (.tup [x,y]):=aK;generalize upd H' r (.tup [x,y])=Hr at s1 s01 gr ⊢;exists #[_,_,n,m,rfl,hn1.same s01,hm1.same s01,hn n (ar en),hm m (ar em),λr3 H3 s3 h3=>?_];refine #[s01.trans s3,?_];have ez:(List.zipWith (λx y=>x - y) xq yq)[i]?=some (n - m):=by rw[bp,en,em]
  rw[take_snoc ez];exact bM (Paired.imp' (λ_ _ z=>z.same (s1.trans s3)) hP) (.cons h3 .nil)
 ·rintro zs H' hy ⟨s,hP⟩ l hl';rw[aE (by rw[aZ];lia)] at hP;exact k l _ (s.none hl') (s.trans (aH.new hl')) #[zs,aK,Paired.imp' (λ_ _ z=>z.same (aH.new hl')) hP]
theorem zO:sC ["grid","wide"] 2 pC:=by walk_at "d"
theorem jB (T:Txt K mg Z) (ptree:P.given.tree=none):T.eQ.o P w base 1 (FL K):=by
 refine T.eQ.F.k zO ?_;walk_at "i";obtain p|w|H0|rows|rfl|hp|hz|hw|hl|kk:=h;refine #[_,(az (aT (cn ["place"] ["grid"] [0] (cu rfl T.range (c4 cM)) (λ_=>(eX 0)) (λ_=>cA) (λ_=>(cn ["line"] ["place"] [0] (Gx K cM) (λ_=>(eX 0)) (λ_=>cA) (λ_=>(aS (jH K (by rfl)) bL cM))))))),?_];walk_at "s"
 try rw[ib]
 exists #[(),(),?_];refine jQ (n:=w) (dq K H) (λj=>rows.map λxs=>xs.getD j 0) hw (λa b=>a.same b) ?_ ?_
 ·rintro j H1 NY NN hj s1 k1;obtain xs|gx|qx|_:=hp.same s1;exists #[#[_,bC.of gx],?_];refine dc (K:=K) (F:=dq K H0) (bO K) (λxs=>xs.getD j 0) gx qx hz (λa b=>a.same b) (λa b=>a.same b) ?_ ?_
  ·rintro i ns x H2 NY2 NN2 en s2 ⟨u,rfl,_,zs,gz,qz⟩ k2;obtain v|ev|hv:=Eu qz (j:=j) (by rw[hl ns (ar en)];exact hj);exists b7 (bC.of gz) ev ?_;exact k2 _ _ (aH.refl _) hv
  ·rintro ys' H2 r hr s2 g pr nx;exact k1 _ _ s2 #[r,rfl,s1.none hr,ys',g,pr]
 ·rintro ys' H1 r hr s1 g pr nx;exact kk r H1 hr s1 #[ys',g,pr,jC nx]
theorem rK:sC ["self","state","puts","columns"] 3 ig:=by walk_at "d"
theorem yD (T:Txt K mg Z) (ptree:P.given.tree=none):oN P w K mg base FC 5 Z.oH Z.oF ["self","state","puts"] (CC K Z.a_System):=by
 refine T.uB.k rK ?_;walk_at "i";obtain x|p|q|H0|mv|pt|lk|st|pu|rfl|S|D|F|hp|hq|l1|l2|fs|k:=h
 refine #[_,(ao (d6 3 rK.nd (cw (jB T ptree) hr T.eQ (cH (jX bL rfl) (jX bL rfl))))
  (az (aT (cn ["line","column"] ["state","puts"] [1,2] (qV rfl T.zip (cH (jX bL rfl) fX)) (λ_=>(oR K 2 (cG (eX 0) (cG (eX 1) jg)))) (λ_=>cA) (λ_=>(cw (Am T ptree) hr T.iM (cH (bD ni bL cM) (bD ni eo fX)))))))),?_]
 walk_at "s"
 try rw[ib]
 obtain dx|a|b|c|gx|n1|n2|n3|Ga|Gb|Gc:=id S;have d1:=D.n8;have d2:=D.i4;exists #[x,Z.a_System,dx,_,_,rfl,gx,T.cl_System,T.na_put,DD,?_];exists #[x,Z.a_System,dx,_,_,rfl,gx,T.cl_System,T.na_states,oa,?_];exists #[b,mv.9,H0,pt,rfl,Gb,(),(),D.pw,λt H1 nt s1 Gt=>?_];obtain as|ga|qa|_:=Ga.same s1;obtain ts|gt|qt|_:=id Gt;have la:=qa.9;have lt:=qt.9;rw[cy] at lt;have gx1:=s1 _ _ gx;exists #[x,Z.a_System,dx,_,_,rfl,gx1,T.cl_System,T.na_move,FK,?_];exists #[#[_,bC.of ga],#[_,bC.of gt],?_];refine pZ (K:=K) (xs:=as) (ws:=ts) (λi ys H'=>aH H1 H'/\Paired (bO K H') ((ja mv pt st pu).take i) ys) mR () #[aH.refl _,.nil] (λi ys H' _ #[s,_]=>#[bC.of (s _ _ ga),bC.of (s _ _ gt)]) ?_ ?_
 ·rintro i v1 v2 ys H' r h1 h2 hy ⟨s,pr⟩ hr;obtain line|el|u1|rfl|_|R1:=bW qa h1;obtain col|ec|u2|rfl|_|R2:=bW qt h2;have ml:=ar el;have mc:=ar ec;have sr:aH H' (upd H' r (.tup [.ref u1,.ref u2])):=aH.new hr;have gr:(upd H' r (.tup [.ref u1,.ref u2])) r=some (.tup [.ref u1,.ref u2]):=aK;have s2:=s.trans sr;generalize upd H' r (.tup [.ref u1,.ref u2])=H2 at sr gr s2 ⊢;have lc:col.9=pt.9:=ie col mc;have ll:line.9=mv.9:=D.mw line ml;obtain z1|g1|q1:=R1.same s2;obtain z2|g2|q2:=R2.same s2;have y1:=q1.9;have y2:=q2.9;exists ou g1 g2 mR λc1 H3 s3 n3' g3=>?_
  have s13:=s2.trans s3;obtain z3|g4|q3:=(hp.same s1).same s13;obtain z4|g5|q4:=(hq.same s1).same s13;have y3:=q3.9;have y4:=q4.9;exists ou g4 g5 mR λc2 H4 s4 n4 g6=>?_
  have s34:=s3.trans s4;exists #[c1,c2,line++col,st++pu,rfl,#[_,s4 _ _ g3,Paired.imp' (λ_ _ z=>z.same s34) (bM q1 q2)],#[_,g6,Paired.imp' (λ_ _ z=>z.same s4) (bM q3 q4)],by rw[aj,aj];lia,by rw[aj];lia,.sys ?_ fs,λr2 H5 s5 h5=>?_]
  ·refine F.fits λy hy=>?_
   rcases av.mp hy with hy | hy
   ·exact .inl #[line,ml,hy]
   ·obtain j|_|rfl:=aA.mp mc;obtain xs|hx|rfl:=aA.mp hy;by_cases hj:j < xs.9
    ·refine .inr (.inl #[xs,hx,?_]);rw[aa,ae hj];exact aF hj
    ·exact .inr (.inr (.inr (by rw[aa,aP ()];rfl)))
  ·have em:(ja mv pt st pu)[i]?=some (bJ (line++col) (st++pu)):=by
    unfold ja;rw[bp,el,ec]
   refine #[((s2.trans s34).trans s5),?_];rw[take_snoc em];exact bM (Paired.imp' (λ_ _ z=>(z.same (sr.trans s34)).same s5) pr) (.cons h5 .nil)
 ·rintro ys H' hy ⟨s,pr⟩ l hl;have lm:(ja mv pt st pu).9=mv.9:=by unfold ja;rw[aZ,cy];lia
  rw[aE ()] at pr;exact k l _ (s1.none (s.none hl)) ((s1.trans s).trans (aH.new hl)) #[ys,aK,Paired.imp' (λ_ _ z=>z.same (aH.new hl)) pr]
theorem xr:sC ["system","start","puts","states","row"] 3 zY:=by walk_at "d"
theorem LO (T:Txt K mg Z) (ptree:P.given.tree=none):T.uI.o P w base 6 (zI K Z.a_System):=by
 refine T.uI.F.k xr ?_;walk_at "i";obtain x|s|p|H0|H1|mv|pt|lk|pus|st|rfl|S|D|F|Rs|ls|Gp|lp|wp|cf|k:=h
 refine #[_,(ao (d6 3 xr.nd (dG (c4 (dB rF (by rfl) T.list PyProof.Rows.boot_list (c4 cM)))))
  (ao (dF PassesOwn.never rfl (cC eo) (eX 4 xr.nd)
   (az (iK (tT cI c6 c5 jN fX (c4 (Qv bL T.cl_System T.rN (yD T ptree) (hr.mono ()) T.uu .nil CP (cH (aS bE fX (yj so ai)) mU)))))))
  (az (aT fX)))),?_]
 walk_at "s"
 try rw[ib]
 have d1:=D.n8;obtain ss|gs|qs:=id Rs;obtain ps|gp|qp|_:=id Gp;have lps:=qp.9;exists #[s,ss,rfl,.inl (bC.of gs),λc hc=>?_];have sc:aH H (upd H c (.lst ss)):=aH.new hc;have Rc:bK K (upd H c (.lst ss)) c st:=#[ss,aK,Paired.imp' (λ_ _ z=>z.same sc) qs];generalize upd H c (.lst ss)=Hc at sc Rc ⊢;exists c7 λl Hl sl nl gl=>?_
 have hl0:=sc.none nl;have s0:=sc.trans sl;have cl:c≠l:=λz=>by obtain _|g|_:=Rc;rw[z,nl] at g;cases g
 have pr0:Paired (yc K H l Hl) ((oW mv pt st pus).take 1) [V.ref c]:=by
  have:(oW mv pt st pus).take 1=[st]:=by
   have e:=take_snoc (uL (mv:=mv) (pt:=pt) (st:=st) (pus:=pus) (k:=0) (aW _));rw[e];rfl
  rw[this];exact .cons #[c,rfl,hc,cl,Rc.same sl] .nil
 exists #[#[_,bC.of (s0 _ _ gp)],?_];refine gP (K:=K) (a:=p) (xs:=ps) (λi σ' H'=>aH H H'/\(∃y ys,σ'=[some (.ref x),some (.ref s),some (.ref p),some (.ref l),y]/\H' l=some (.lst ys)/\Paired (yc K H l H') ((oW mv pt st pus).take (i+1)) ys)) #[s0,_,_,rfl,gl,pr0] (λi σ' H' _ #[e,_]=>bC.of (e _ _ gp)) ?_ ?_
 ·rintro i v σ' H' hv ⟨e,y,ys,rfl,g,pr⟩;obtain pu|epu|u|rfl|_|Ru:=bW qp hv;have hi:i < pus.9:=(aJ.mp epu).1;have mp:=ar epu;have ly:=pr.9;rw[bY,vJ] at ly;have ec:=uL (mv:=mv) (pt:=pt) (st:=st) (pus:=pus) (k:=i) ();have el:ys[i]?=some (ys[i]'()):=ae ()
  obtain ⟨vl,evl,q,hq1,hq2,hq3,Rq⟩:∃vl,ys[i]?=some vl/\∃q,vl=V.ref q/\H q=none/\q≠l/\bK K H' q (qi mv pt st pus i):=by
   obtain xs|ex|w:=bW pr el;rw[jo (),ec] at ex;cases ex;exact #[_,el,w]
  subst hq1
  have ey:∃zs,ys=zs++[V.ref q]:=by
   refine #[ys.take i,?_];rw[<- take_snoc evl,aE ()]
  obtain zs|rfl:=ey;exists #[.inl #[rfl,_,bC.of g],?_];walk_at "w";obtain dx|_|_|_|gx|_:=S.same e;refine #[x,dx,_,rfl,gx,Lm,?_];exists b7 (bC.of g) (wY _ _) ?_;exists #[x,q,u,H0,mv,pt,lk,_,pu,rfl,S.same e,D,F,Rq,Ru.same e,qE ls (),wp pu mp,cf.both () mp,λr1 H2 n2 s2 R2=>?_];have gn:=s2 _ _ g;exists iX gn (dA ()) ?_;refine #[Lx (e.trans s2) hl0,_,_,rfl,aK,?_];rw[take_snoc (uL ()),sP epu];have rl:r1≠l:=λz=>by rw[z,g] at n2;cases n2
  exact bM (Paired.imp' (λ_ _ z=>(yc.same z s2).upd gn) pr) (.cons #[r1,rfl,e.none n2,rl,R2.updL gn rl] .nil)
 ·rintro σ' H' ⟨e,y,ys,rfl,g,pr⟩;walk_at "w";rw[aE (by rw[vJ];lia)] at pr;exact k l H' hl0 e #[ys,g,Paired.imp' (λ_ _ z=>yc.rowF z) pr,Ab pr]
theorem Bp:sC ["many"] 1 qH:=by walk_at "d"
theorem pO (T:Txt K mg Z) (ptree:P.given.tree=none):T.iY.o P w base 1 (SS K):=by
 refine T.iY.F.k Bp ?_;walk_at "i";obtain m|rfl|hm|k:=h;refine #[_,(az (aT (cn ["place"] [] [] (cu rfl T.range (c4 bL)) (λ_=>(eX 0)) (λ_=>cA) (λ_=>(v9 (v:=.ref Z.a_NOUGHT) rfl T.mg_NOUGHT rfl))))),?_];walk_at "s"
 try rw[ib]
 exists #[(),(),?_];refine jQ (n:=m) (bO K) (λ_=>0) () (λa b=>a.same b) ?_ ?_
 ·rintro i Ha NY NN hi sa k1;exists k1 _ _ (aH.refl _) #[_,rfl,T.sq_NOUGHT _]
 ·rintro ys H1 t ht s1 g1 pr _;exact k t H1 ht s1 #[ys,g1,by rw[<- NT];exact pr]
theorem zN:sC ["system","steps"] 2 pB:=by walk_at "d"
theorem t8 (T:Txt K mg Z) (ptree:P.given.tree=none):T.jD.o P w base 2 (FR K Z.a_System):=by
 refine T.jD.F.k zN ?_;walk_at "i";obtain x|tt|H0|mv|pt|lk|rfl|hT|S|D|k:=h;refine #[_,(az (aT (cn ["step"] ["system"] [0] (cu rfl T.range (c4 cM)) (λ_=>(eX 0)) (λ_=>cA) (λ_=>(cw (pO T ptree) hr T.iY (c4 (KG K cM rfl))))))),?_];walk_at "s"
 try rw[ib]
 obtain dx|a'|b'|c'|gx|_|_|_|Ga|Gb|Gc:=id S;have i4:=D.i4;exists #[(),(),?_];refine jQ (n:=tt) (dq K H) (λ(_:Nat)=>List.replicate pt.9 (0:Rat)) () (λa b=>a.same b) ?_ ?_
 ·rintro i Hb NY NN hi sa k1;exists #[x,Z.a_System,dx,_,_,rfl,sa _ _ gx,T.cl_System,T.na_ins,Pn,?_];exists #[pt.9,rfl,(),λr H2 nr s2 R2=>k1 _ _ s2 #[r,rfl,sa.none nr,R2]]
 rintro ys Hz t ht sz g pr nx;have e:(List.range tt).map (λ(_:Nat)=>List.replicate pt.9 (0:Rat))=List.replicate tt (List.replicate pt.9 0):=by rw[Pc,bU]
 rw[e] at pr nx;exact k t Hz ht sz #[ys,g,pr,jC nx]
theorem Je:sC ["system","start","goal","steps"] 4 xA:=by walk_at "d"
theorem Ao (T:Txt K mg Z) (ptree:P.given.tree=none):T.oC.o P w base 7 (FW K Z.a_System):=by
 refine T.oC.F.k Je ?_;walk_at "i";obtain x|s|g|tt|H0|mv|pt|lk|st|go|rfl|hT|S|D|F|Rs|ls|Rg|lg|cf|sg|k:=h;refine #[_,(az (aT (cw (D9 T ptree) hr T.nG (cH eo (aS bE (cw (LO T ptree) hr T.uI (qq bL cM (cw (t8 T ptree) hr T.jD (cH bL fX)))) (yj so ai)))))),?_];walk_at "s"
 try rw[ib]
 have d8:=D.n8;have i4:=D.i4;exists #[x,tt,H0,mv,pt,lk,rfl,(),S,D,λp1 H1 n1 s1 G1=>?_];exists #[x,s,p1,H0,H,mv,pt,lk,_,st,rfl,S.same s1,D,F,Rs.same s1,ls,G1,by rw[aV];lia,λxs hx=>by rw[(kf.mp hx).2,aV],cf,λp2 H2 n2 s2 G2=>?_];obtain us|gu|qu|_:=id G2;have lu:=qu.9;rw[vJ,aV] at lu;have ec:=uL (mv:=mv) (pt:=pt) (st:=st) (pus:=List.replicate tt (List.replicate pt.9 0)) (k:=tt) (by rw[aV];exact ah _);have el:us[tt]?=some (us[tt]'()):=ae ()
 obtain ⟨q,eq,Rq⟩:∃q,us[tt]?=some (V.ref q)/\bK K H2 q (ia mv tt st):=by
  obtain xs|ex|q|e|_|w:=bW qu el;rw[ec] at ex;cases ex;rw[MX D ls] at w;exact #[q,by rw[el,e],w]
 have ey:∃zs,us=zs++[V.ref q]:=by
  refine #[us.take tt,?_];rw[<- take_snoc eq,aE ()]
 obtain zs|rfl:=ey
 have szp:∀y∈ia mv tt st,i5 y:=λy hy=>by
  have:=(cf.state (k:=tt) (by rw[aV];exact ah _)).szn (x:=y);rw[MX D ls] at this;exact this hy
 exists b7 (bC.of gu) (wY _ _) ?_;exists #[g,q,go,_,rfl,(Rg.same s1).same s2,Rq,by rw[lg,jf ls],(),sg,szp,λr H3 n3 s3 R3=>k r H3 ((s1.trans s2).none n3) ((s1.trans s2).trans s3) R3]
theorem uR:sC ["lines","begin","place","at"] 3 qK:=by walk_at "d"
theorem Bu (T:Txt K mg Z) (ptree:P.given.tree=none):T.mi.o P w base 1 CI:=by
 refine T.mi.F.k uR ?_;walk_at "i";obtain l|p|ls|b|c|rfl|G|l1000|b1000|hc|k1|k2:=h
 refine #[_,(ao (dF PassesOwn.never rfl (LI rfl T.range (cH cM (ba aR (by rfl) T.len aL (c4 bL)))) (eX 3 uR.nd)
   (az (cN (be uU (aS bE (aS bE bL fX) eo) ai (bo _)) (az (aT fX)) bI)))
  (az (aT D6))),?_]
 walk_at "s"
 try rw[ib]
 obtain _|xs|gx|qx:=id G;have lx:=qx.9;exists #[_,_,rfl,.inl (bC.of gx),?_];rw[<- lx];exists #[#[(),(),(),()],?_];refine C3 (lo:=(b:Int)) (n:=((ls.9:Int) - (b:Int)).toNat) (λi σ' H'=>H'=H/\(∃y,σ'=[some (.ref p),some (.int b),some (.int c),y])/\∀s,b<=s->s < b+i->fv ls s c=0) #[rfl,#[_,rfl],λs h1 h2=>absurd h2 ()] ?_ ?_
 ·rintro i σ' H' hi ⟨rfl,⟨y,rfl⟩,hz⟩;rw[show ((b:Int)+(i:Int))=((b+i:Nat):Int) by lia];obtain zs|v|ez|ev|mz|q|rfl|_|gq:=fu qx (i:=b+i) ();exists b7 (bC.of gx) (fJ ev) ?_;exists b7 (bC.of gq) (y8 (hc zs mz)) ?_;walk_at "w";have ef:=MP (c:=c) ez;by_cases e:zs.getD c 0=0
  ·rw[decide_eq_true e];exists #[rfl,#[_,rfl],λs h1 h2=>?_];by_cases e2:s=b+i
   ·rw[e2,ef,e];rfl
   ·exact hz s h1 ()
  ·rw[decide_eq_false e];exists k1 (b+i) () () (by rw[ef];exact Wc.mpr e)
 ·rintro σ' H' ⟨rfl,⟨y,rfl⟩,hz⟩;exists k2 λt h1 h2=>hz t h1 ()
theorem oi:sC ["lines","at","place","before","used","by","swept"] 4 xC:=by walk_at "d"
theorem Jr (T:Txt K mg Z) (ptree:P.given.tree=none):T.rg.o P w base 1 CJ:=by
 refine T.rg.F.k oi ?_;walk_at "i";obtain l|p|ls|kk|c|n|b|rfl|hl|G|l1000|hk|hw|n1000|hc|b0|sb|hs|k:=h
 refine #[_,(ao (d6 4 oi.nd (aS bE bL cM))
  (ao (d6 5 oi.nd (aS bE mU eo))
  (ao (nB 6 ["line"] ["used","by","place","before"] [4,5,2,3] oi.nd rfl rfl (cC bL) (λ_=>(eX 0)) (λ_=>cA) (λ_=>(cn ["mine","yours"] ["by","line","place","before"] [2,0,3,4] (NF K rfl T.zip (cH bL cM)) (λ_=>(oR K 2 (cG (eX 0) (cG (eX 1) jg)))) (λ_=>cA) (λ_=>(bD (jA rfl oi rfl rfl rfl ptree (uj hr)) (bD jz (bD cR eo bL) (bD cR (aS (jH K (by rfl)) fX mU) cM)) qo)))))
  (ao (gW mU (i8 nY cM set_list))
  (az (aT nY)))))),?_]
 walk_at "s"
 try rw[ib]
 obtain pl|xs|gx|qx:=id G;have lx:=qx.9;obtain zk|vk|ek|evk|mk|qk|rfl|qkl|gk:=fu qx hk;have wk:=hw zk mk;have ek':ls.getD kk []=zk:=by rw[aa,ek];rfl
 exists b7 (bC.of gx) (fJ evk) ?_;exists b7 (bC.of gk) (y8 ()) ?_;exists #[#[_,bC.of gx],?_];refine iu (K:=K) (xs:=xs) (λi ys H'=>aH H H'/\Paired (Le l H') ((ls.take i).map λzs=>List.zipWith (λx y=>(zk.getD c 0*x - zs.getD c 0*y).fdiv b) zs zk) ys) mR #[aH.refl _,.nil] (λi ys H' _ #[s,_]=>bC.of (s _ _ gx)) ?_ ?_
 ·rintro i v ys0 H' hx hlen ⟨s',pr⟩;obtain zs|ec|q|rfl|ql|gq:=bW qx hx;have mz:=ar ec;have wz:=hw zs mz;have gq':=s' _ _ gq;have gk':=s' _ _ gk;exists #[#[_,bC.of gq'],#[_,bC.of gk'],?_];refine pZ (K:=K) (xs:=zs.map V.int) (ws:=zk.map V.int) (λj ys H2=>aH H' H2/\ys=((List.zipWith (λx y=>(zk.getD c 0*x - zs.getD c 0*y).fdiv b) zs zk).take j).map V.int) (dn (dA (by rw[ag];lia))) (by rw[ag,ag];lia) #[aH.refl _,rfl] (λj ys H2 _ #[s2,_]=>#[bC.of (s2 _ _ gq'),bC.of (s2 _ _ gk')]) ?_ ?_
  ·rintro j v1 v2 ys H2 r h1 h2 hy ⟨s2,rfl⟩ hr
   obtain ⟨x,ex,rfl⟩:∃x,zs[j]?=some x/\V.int x=v1:=by
    rw[aB] at h1;cases e:zs[j]? with
    | none=>rw[e] at h1;cases h1
    | some x=>rw[e] at h1;exact #[x,rfl,cp h1]
   obtain ⟨y,ey,rfl⟩:∃y,zk[j]?=some y/\V.int y=v2:=by
    rw[aB] at h2;cases e:zk[j]? with
    | none=>rw[e] at h2;cases h2
    | some x=>rw[e] at h2;exact #[x,rfl,cp h2]
   have sr:aH H2 (upd H2 r (.tup [.int x,.int y])):=aH.new hr;have gr:(upd H2 r (.tup [.int x,.int y])) r=some (.tup [.int x,.int y]):=aK;generalize upd H2 r (.tup [.int x,.int y])=H3 at sr gr ⊢;have gq3:=sr _ _ (s2 _ _ gq');have sx:=hs zs mz x (ar ex);have sy:=hs zk mk y (ar ey);have s1:=hs zk mk _ (getD_in (e:=0) (show c < zk.9 by lia));have s3:=hs zs mz _ (getD_in (e:=0) (show c < zs.9 by lia));exists fU (show fZ _ _ from .inr #[_,_,s1,sx,()]) ?_;exists b7 (bC.of gq3) (y8 ()) ?_;exists fU (show fZ _ _ from .inr #[_,_,s3,sy,()]) ?_;exists fU (show o6 _ _ from #[b0,sb]) ?_;have ez:(List.zipWith (λx y=>(zk.getD c 0*x - zs.getD c 0*y).fdiv b) zs zk)[j]?=some ((zk.getD c 0*x - zs.getD c 0*y).fdiv b):=by rw[bp,ex,ey]
   exact #[s2.trans sr,by rw[take_snoc ez];simp]
  ·rintro ys H2 hy ⟨s2,rfl⟩ r hr;have sn:aH H2 (upd H2 r (.lst (((List.zipWith (λx y=>(zk.getD c 0*x - zs.getD c 0*y).fdiv b) zs zk).take (zs.map V.int).9).map V.int))):=aH.new hr;refine #[(s'.trans s2).trans sn,?_];rw[take_snoc ec,cO];refine bM (Paired.imp' (λ_ _ z=>(Le.same z s2).same sn) pr) (.cons #[r,rfl,ne_old (λz=>hl (s'.none (s2.none z))) hr,?_] .nil);rw[aK,aE (by rw[aZ,ag];lia)]
 ·rintro ys H1 hy ⟨s1,pr⟩ r hr;have sn:aH H1 (upd H1 r (.lst ys)):=aH.new hr;have gn:(upd H1 r (.lst ys)) r=some (.lst ys):=aK;have ly:=pr.9;rw[ag,bY] at ly;generalize upd H1 r (.lst ys)=H2 at sn gn ⊢;exists fW gn (gO ()) rfl ?_;have s2:aH H1 (upd H2 r (.lst (ys.set kk (.ref qk)))):=sn.after hr;exists k r _ (s1.none hr) (s1.trans s2) #[ne_old (λz=>hl (s1.none z)) hr,_,aK,?_];unfold Ib;rw[ek'];rw[aE ()] at pr;exact lO (Paired.imp' (λ_ _ z=>Le.same z s2) pr) kk #[qk,rfl,qkl,(s1.trans s2) _ _ gk]
theorem uS:sC ["lines","at","to","swapped"] 3 qL:=by walk_at "d"
theorem Bv (T:Txt K mg Z) (ptree:P.given.tree=none):T.mj.o P w base 1 yi:=by
 refine T.mj.F.k uS ?_;walk_at "i";obtain l|p|ls|t|kk|rfl|hl|G|l1000|ht|hk|k:=h
 refine #[_,(ao (d6 3 uS.nd (dB rF (by rfl) T.list PyProof.Rows.boot_list (c4 bL)))
  (ao (gW (aS bE bL cM) (i8 fX eo set_list))
  (ao (gW (aS bE bL eo) (i8 fX cM set_list))
  (az (aT fX))))),?_]
 walk_at "s"
 try rw[ib]
 obtain pl|xs|gx|qx:=id G;have lx:=qx.9;obtain zt|vt|et|evt|_|Ft:=fu qx ht;obtain zk|vk|ek|evk|_|Fk:=fu qx hk;exists #[p,xs,rfl,.inl (bC.of gx),λc hc=>?_];have sc:aH H (upd H c (.lst xs)):=aH.new hc;have gc:(upd H c (.lst xs)) c=some (.lst xs):=aK;generalize upd H c (.lst xs)=Hc at sc gc ⊢;exists b7 (bC.of (sc _ _ gx)) (fJ evt) ?_;exists fW gc (gO ()) rfl ?_;have s1:aH H (upd Hc c (.lst (xs.set kk vt))):=sc.after hc;have g1:(upd Hc c (.lst (xs.set kk vt))) c=some (.lst (xs.set kk vt)):=aK;generalize upd Hc c (.lst (xs.set kk vt))=H1 at s1 g1 ⊢;exists b7 (bC.of (s1 _ _ gx)) (fJ evk) ?_;exists fW g1 (gO (by rw[eH];lia)) rfl ?_;have s2:aH H (upd H1 c (.lst ((xs.set kk vt).set t vk))):=s1.after hc;exists k c _ hc s2 #[ne_old hl hc,_,aK,?_];have et':ls.getD t []=zt:=by rw[aa,et];rfl
 have ek':ls.getD kk []=zk:=by rw[aa,ek];rfl
 unfold qD;rw[et',ek'];exact lO (lO (Paired.imp' (λ_ _ z=>Le.same z s2) qx) kk (Le.same Ft s2)) t (Le.same Fk s2)
theorem kF:sC ["rows","wide","lines","leads","before","place","many","at"] 2 DY:=by walk_at "d"
theorem GA (T:Txt K mg Z) (ptree:P.given.tree=none):T.ue.o P w base 4 (Cw K):=by
 refine T.ue.F.k kF ?_;walk_at "i";obtain p|n|w|H0|rows|rfl|G|r100|n100|hw|F|k:=h
 refine #[_,(ao (nB 2 ["row"] [] [] kF.nd rfl rfl (cC bL) (λ_=>(eX 0)) (λ_=>cA) (λ_=>(cw (kM T ptree) hr T.gI (cH bL (cw (ij T ptree) hr T.dS (c4 bL))))))
  (ao (d6 3 kF.nd (dG jy))
  (ao (d6 4 kF.nd ai)
  (ao (dF PassesOwn.never rfl (cu rfl T.range (c4 cM)) (eX 5 kF.nd)
   (ao (d6 6 kF.nd (ba aR (by rfl) T.len aL (c4 fX)))
  (ao (d6 7 kF.nd (cw (Bu T ptree) hr T.mi (qq eo nY qo)))
  (az (cN (be KH qj D6 (bo _)) (ao (d6 2 kF.nd (cw (Jr T ptree) hr T.rg (xK (cw (Bv T ptree) hr T.mj (qq eo qj nY)) nY qo mU)))
  (ao (d6 4 kF.nd (aS bE (aS bE eo nY) qo))
  (az (iK (tT cI c6 c5 jN fX (c4 qo)))))) bI)))))
  (az (aT (cP (cH (Gy Kw eo KE (KD (ba aR (by rfl) T.len aL (c4 fX)))) fX)))))))),?_]
 walk_at "s"
 try rw[ib]
 obtain xs|gx|qx|_:=id G;obtain W|hW|W2|ent:=F.ent;obtain _|_|_|_|_|_|_|_|r15|r89:=id F;exists #[#[_,bC.of gx],?_];refine dc (K:=K) (as:=rows) (F:=dq K H0) (λ(H:Hp) (zs:List Int) (v:V)=>∃q,v=V.ref q/\H q=some (.lst (zs.map V.int))) js gx qx () (λa b=>a.same b) (λ#[q,a,b] s=>#[q,a,s _ _ b]) ?_ ?_
 ·rintro i qs v H' NY NN ec s' ⟨u,rfl,_,R⟩ k1;have mx:=ar ec;obtain M|hM:=F.rowM mx;obtain b1|sb:=hM.bot;have lq:(qs.map nm).9<=1000:=by rw[ag,hw qs mx];lia
  exists #[u,_,M,rfl,R.rowK,lq,hM,λH2 s2=>?_];exists #[u,_,M,_,rfl,(R.same s2).rowK,lq,hM,b1,sb,λr H3 n3 s3 g3=>k1 _ _ (s2.trans s3) #[r,rfl,g3]]
 rintro ys H1 lp0 hlp s1 g1 pr1 nx1;exists c7 λqp H2 s2 nq gq=>?_
 have G2:uA qp H2 lp0 (rows.map js):=#[(λz=>by rw[z,nq] at g1;cases g1),ys,s2 _ _ g1,Paired.imp' (λ_ _ #[q,a,b]=>#[q,a,(λz=>by rw[z,nq] at b;cases b),s2 _ _ b]) pr1];have hq0:H qp=none:=s1.none nq;have s02:=s1.trans s2;have hm:(rows.map js).9=rows.9:=ag ..;clear g1 pr1 nx1;exists #[(),(),?_];refine dO (n:=n) (λP σ' H'=>aH H H'/\∃lp ls ps d y1 y2 y3,σ'=[some (.ref p),some (.int n),some (.ref lp),some (.ref qp),some (.int d),y1,y2,y3]/\H' qp=some (.lst (il ps))/\uA qp H' lp ls/\Dk (rows.map js) n P ls ps d) #[s02,lp0,rows.map js,[],1,_,_,_,rfl,gq,G2,Dk.start λzs hz=>by obtain x|hx|rfl:=aA.mp hz;rw[sO];exact hw x hx] ?_ ?_
 ·rintro P σ' H' hP ⟨s',lp,ls,ps,d,y1,y2,y3,rfl,gq',G',I⟩;have hl:=I.len;have kP:=I.el.kP;have km:=I.el.km;have lps:(il ps).9=ps.9:=ag ..;have hqp:H' qp≠none:=by rw[gq'];exact λz=>nomatch z
  obtain z1|z2:=I.sz (r:=min rows.9 n) hW ent () (by rw[hm];exact ah _) r15;have big:(16*W)^min rows.9 n < 2^8999000:=bc (xI W2) (dg () ());exists #[_,_,rfl,.inl (bC.of gq'),?_];rw[lps];exists #[qp,lp,ls,ps.9,P,rfl,G',(),(),λzs hz=>by rw[I.wide zs hz];exact hP,λt h1 h2 h3=>?_,λhz=>?_]
  ·exists #[rfl,_,rfl,?_];rw[show decide (V.int (t:Int)=V.non)=false from decide_eq_false (λz=>nomatch z)];exists #[qp,lp,ls,t,ps.9,rfl,hqp,G',(),h2,(),λl1 Ha na sa Ga=>?_];exists #[qp,l1,_,ps.9,P,n,d,rfl,λz=>hqp (sa.none z),Ga,by rw[xk];lia,by rw[xk];lia,Kh I.wide () h2,(),hP,I.d0,bc z1 big,λzs hz z hz'=>?_,λl2 Hb nb sb Gb=>?_]
   ·unfold qD at hz;have key:∀ys,ys∈ls->∀z∈ys,Sz 8999000 z:=λys hy z hz=>bc (z2 ys hy z hz) big
    rcases cx hz with h | h
    ·rcases cx h with h | h
     ·exact key zs h z hz'
     ·rw[h] at hz';exact key _ (getD_in h2) z hz'
    ·rw[h] at hz';exact key _ (getD_in ()) z hz'
   have sab:=sa.trans sb;have I2:=I.step hW ent h1 h2 h3;have hk2:ps.9 < (Ib (qD ls ps.9 t) ps.9 P d).9:=by rw[OT,xk];lia
   obtain n2|xs2|gx2|qx2:=id Gb;obtain zk|vk|ek|evk|mk|qk|rfl|_|gk:=fu qx2 hk2;have wk:=I2.wide zk mk;exists b7 (bC.of gx2) (fJ evk) ?_;exists b7 (bC.of gk) (y8 ()) ?_;have gqb:=sab _ _ gq';exists #[.inl #[rfl,_,bC.of gqb],?_];exists iX gqb (dA ()) ?_;refine #[(s'.trans sab).after hq0,l2,_,ps++[P],_,_,_,_,rfl,?_,Gb.upd,?_]
   ·rw[aK];unfold il;rw[cO];rfl
   ·have e:(Ib (qD ls ps.9 t) ps.9 P d).getD ps.9 []=zk:=by rw[aa,ek];rfl
    rw[e] at I2;exact I2
  ·exists #[rfl,_,rfl,?_];rw[show decide (V.non=V.non)=true from decide_eq_true rfl];exists #[s',lp,ls,ps,d,_,_,_,rfl,gq',G',I.skip hz]
 rintro σ' H' ⟨s',lp,ls,ps,d,y1,y2,y3,rfl,gq',G',I⟩;obtain R|hR:=I.done hw F;have lps:(il ps).9=ps.9:=ag ..;obtain nl|xs'|gx'|qx':=id G';exists #[_,_,rfl,.inl (bC.of gq'),?_];rw[lps];exists S8 (bC.of gx') λsl H3 s3 n3 g3=>?_
 rw[OP] at g3;exists bR λt H4 s4 g4=>?_
 have s34:=s3.trans s4;exact k t sl qp R ps d _ H4 g4 (s34 _ _ gq') #[(λz=>by rw[z,gq'] at n3;cases n3),_,s4 _ _ g3,Paired.imp' (λ_ _ z=>Le.same z s34) (yk qx' ps.9)] (s'.trans s34) hR
theorem pU:sC ["rows","wide","due","found","answer","line","lead"] 3 zT:=by walk_at "d"
theorem CU (T:Txt K mg Z) (ptree:P.given.tree=none):T.pW.o P w base 5 (zm K):=by
 refine T.pW.F.k pU ?_;walk_at "i";obtain p|q|n|w|H0|rows|due|rfl|G|Rd|hd|m99|n99|hw|F|k1|k2:=h
 refine #[_,(ao (d6 3 pU.nd (cw (GA T ptree) hr T.ue (cH (cn ["row","wanted"] [] [] (qV rfl T.zip (cH bL eo)) (λ_=>(oR K 2 (cG (eX 0) (cG (eX 1) jg)))) (λ_=>cA) (λ_=>(bD ni bL (dG (c4 cM))))) (bD fV cM ai))))
  (ao (cN (be LK cM (aS br fX ai) (by with_unfolding_all rfl)) (az (aT D6)) bI)
  (ao (d6 4 pU.nd (cw (pO T ptree) hr T.iY (c4 cM)))
  (ao (dF PassesOwn.never rfl (qV rfl T.zip (cH (aS br fX ai) (aS br fX ai))) (vB rfl (cG (eX 5 pU.nd) (cG (eX 6 pU.nd) jg)))
   (az (gW (cw (nZ T ptree) hr T.jP (cH (aS bE qo cM) (aS bE qo nY))) (i8 mU nY set_list))))
  (az (aT mU)))))),?_]
 walk_at "s"
 try rw[ib]
 obtain xs|gx|qx|_:=id G;obtain ds|gd|qd:=id Rd;have lx:=qx.9;have ld:=qd.9;have lj:=lU hd;exists #[#[_,bC.of gx],#[_,bC.of gd],?_];refine pZ (K:=K) (xs:=xs) (ws:=ds) (λi ys H'=>aH H H'/\Paired (dq K H H') ((c8 rows due).take i) ys) mR () #[aH.refl _,.nil] (λi ys H' _ #[s,_]=>#[bC.of (s _ _ gx),bC.of (s _ _ gd)]) ?_ ?_
 ·rintro i v1 v2 ys H' r h1 h2 hy ⟨s,pr⟩ hr;obtain row|er|u|rfl|_|Ru:=bW qx h1;obtain d|ed|nd:=bW qd h2;have wr:=hw row (ar er);have sr:aH H' (upd H' r (.tup [.ref u,v2])):=aH.new hr;have gr:(upd H' r (.tup [.ref u,v2])) r=some (.tup [.ref u,v2]):=aK;generalize upd H' r (.tup [.ref u,v2])=H2 at sr gr ⊢;have s2:=s.trans sr;exists c7 λl1 H3 s3 n3 g3=>?_
  have s23:=s2.trans s3;obtain zs|gz|qz:=Ru.same s23;have lz:=qz.9;exists ou gz g3 (dn (dA (by rw[bg];lia))) λl2 H4 s4 n4 g4=>?_
  refine #[s23.trans s4,?_];rw[take_snoc (Sa er ed)];exact bM (Paired.imp' (λ_ _ z=>dq.same z ((sr.trans s3).trans s4)) pr) (.cons #[l2,rfl,s23.none n4,_,g4,Paired.imp' (λ_ _ z=>bO.same z s4) (bM qz (.cons (nd.same s23) .nil))] .nil)
 rintro ys H1 hy ⟨s1,pr⟩ l hl;have sn:aH H1 (upd H1 l (.lst ys)):=aH.new hl;have gn:(upd H1 l (.lst ys)) l=some (.lst ys):=aK;rw[aE ()] at pr;generalize upd H1 l (.lst ys)=H2 at sn gn ⊢;have GJ:bu K H H2 l (c8 rows due):=xQ pr sn hl gn;have s02:=s1.trans sn;walk_at "w";rw[show ((n:Int)+1)=((n+1:Nat):Int) by lia];refine #[l,n+1,w,H,_,rfl,GJ,(),(),Et hw,F,λt lp qp R ps d ls H3 gt gq GZ s3 S=>?_];have s03:=s02.trans s3;have pn:=S.rr.le;exists #[qp,il ps,rfl,.inl (bC.of gq),rfl,LV,?_];rw[Of];by_cases hn:n∈ps
 ·rw[decide_eq_true hn,show (if false=true then !true else true)=true from rfl];exists k2 R ps H3 S.rr hn s03
 ·rw[decide_eq_false hn,show (if false=true then !false else false)=false from rfl];obtain lR|wR|rr:=id S.rr;obtain _|zs|gz|qz:=id GZ;have lz:=qz.9;have hl':=S.len
  have low:∀j,j < ps.9->ps.getD j 0 < n:=λj hj=>by
   have:=rr.low j hj;have:ps.getD j 0≠n:=λz=>hn (by rw[<- z];exact getD_in hj)
   lia
  obtain _|_|_|_|_|_|_|_|_|e89:=id F;rw[lj] at e89;have dsz:Sz 8999000 d:=bc S.dsz (dg () (by rw[lj];lia));have lps:=NM (ps:=ps);exists #[n,rfl,(),λan H4 na s4 R4=>?_];rw[<- Px (R:=R) (ps:=ps)] at R4;obtain vs0|g0|q0:=id R4;have gt4:=s4 _ _ gt;exists #[#[_,bC.of (s4 _ _ gz)],#[_,bC.of (s4 _ _ gq)],?_];refine QQ (K:=K) (xs:=zs) (ws:=il ps) (λj σ' H'=>aH H3 H'/\∃y1 y2 vs,σ'=[some (.ref p),some (.int n),some (.ref q),some (.ref t),some (.ref an),y1,y2]/\H' an=some (.lst vs)/\Paired (bO K H') (vS R ps n j) vs) () #[s4,_,_,vs0,rfl,g0,q0] (λj σ' H' _ #[e,_]=>#[bC.of (e _ _ gz),bC.of (e _ _ gq)]) ?_ ?_
  ·rintro j v1 v2 σ' H' r h1 h2 ⟨s',y1,y2,vs,rfl,ga,qa⟩ hr;obtain line|el|u|rfl|_|gu:=bW qz h1;have wl:=S.wide line (ar el);obtain pj|ej|rfl:=QG h2;have hj:j < ps.9:=(aJ.mp ej).1;have ejD:ps.getD j 0=pj:=by rw[aa,ej];rfl
   have pjn:=low j hj;rw[ejD] at pjn;have v0:=S.val j n;rw[MP el] at v0
   have ed:line.getD pj 0=d:=by
    have h:=S.val j pj;rw[MP el] at h;have u:=rr.unit j hj j hj;rw[if_pos rfl,ejD] at u;rw[u,rQ] at h;exact du.mp h
   have sr:aH H' (upd H' r (.tup [.ref u,.int pj])):=aH.new hr;have gr:(upd H' r (.tup [.ref u,.int pj])) r=some (.tup [.ref u,.int pj]):=aK;generalize upd H' r (.tup [.ref u,.int pj])=H5 at sr gr ⊢;have gu5:=(s'.trans sr) _ _ gu;exists b7 (bC.of gu5) (y8 ()) ?_;exists b7 (bC.of gu5) (y8 ()) ?_;rw[ed];exists #[_,d,rfl,S.d0,dsz,λr6 H6 s6 g6=>?_];have d0:(d:Rat)≠0:=λz=>S.d0 (oG z)
   have n6:bO K H6 (bV R j n) (.ref r6):=by
    refine bO.mk g6 ?_;rcases Int.lt_or_lt_of_ne S.d0 with hd' | hd'
    ·rw[if_pos hd',if_pos hd'];refine mG () ?_;rw[cU,cU,v0];grind
    ·rw[if_neg (),if_neg ()];refine mG hd' ?_;rw[v0];grind
   have ga6:=(sr.trans s6) _ _ ga;have la:=qa.9;rw[kj] at la;exists fW ga6 (gO ()) rfl ?_;refine #[((s'.trans sr).trans s6).after na,_,_,_,rfl,aK,?_];rw[<- Py S.rr hj,ejD];exact lO (Paired.imp' (λ_ _ z=>(bO.same z (sr.trans s6)).updL ga6) qa) pj (n6.updL ga6)
  ·rintro σ' H' ⟨s',y1,y2,vs,rfl,ga,qa⟩;rw[show zs.9=ps.9 by lia] at qa;exists k1 an R ps d.natAbs H' S.rr hn (s03.none na) (s03.trans s') #[vs,ga,qa] (by have:=S.d0;lia) (by rw[<- lj];exact S.dsz) ?_;rw[<- lj];exact U5 (by have:=S.d0;lia) S.tp S.rr
theorem zL:sC ["rows","wide","due","answer","columns"] 3 DZ:=by walk_at "d"
theorem GC (T:Txt K mg Z) (ptree:P.given.tree=none):T.uf.o P w base 6 (Cz K):=by
 refine T.uf.F.k zL ?_;walk_at "i";obtain p|q|n|w|w1|H0|rows|due|rfl|G|Rd|hd|m90|n90|hw|F|F1|k1|k2:=h
 refine #[_,(ao (d6 3 zL.nd (cw (CU T ptree) hr T.pW (qq bL cM eo)))
  (ao (cN (be KH fX D6 (bo _)) (az (aT (cP (cH nh fX)))) bI)
  (ao (d6 4 zL.nd (cw (jB T ptree) hr T.eQ (cH bL cM)))
  (az (aT (cP (cH nh (cw (CU T ptree) hr T.pW (qq (bD ni mU (dG (c4 eo))) (ba aR (by rfl) T.len aL (c4 bL)) (bD ni (cw (pO T ptree) hr T.iY (c4 cM)) (dG (c4 (v9 (v:=.ref Z.a_ONE) rfl T.mg_ONE rfl))))))))))))),?_]
 walk_at "s"
 try rw[ib]
 exists #[p,q,n,w,H0,rows,due,rfl,G,Rd,hd,(),(),hw,F,λx R ps M H1 RR hn nx s1 Rx M0 M1 tM=>?_,λR ps H1 RR hn s1=>?_]
 ·exists #[rfl,_,rfl,?_];rw[show decide (V.ref x=V.non)=false from decide_eq_false (λz=>nomatch z)];exists bR λt H2 s2 g2=>?_
  exact k1 t x R ps M H2 RR hn g2 nx (s1.trans s2) (Rx.same s2) M0 M1 tM
 ·exists #[rfl,_,rfl,?_];rw[show decide (V.non=V.non)=true from decide_eq_true rfl];exists #[p,n,H0,rows,rfl,G.same s1,(),(),hw,λco H2 nc s2 G2=>?_];have s02:=s1.trans s2;exists c7 λl3 H3 s3 n3 g3=>?_
  obtain cs|gc|qc|_:=G2.same s3;have lc:=qc.9;rw[cy] at lc;exists ou gc g3 (dn (dA (by rw[bg];lia))) λl4 H4 s4 n4 g4=>?_
  have s03:=s02.trans s3;have s04:=s03.trans s4;have G4:bu K (λ_=>none) H4 l4 (cv rows n++[due]):=xQ (H:=H3) (bM (Paired.imp' (λ_ _ #[q',a,_,c]=>#[q',a,rfl,c]) qc) (.cons #[q,rfl,rfl,Rd.same s03] .nil)) s4 n4 g4;obtain xs|gx|qx|_:=G.same s04;have lx:=qx.9;exists #[_,_,rfl,.inl (bC.of gx),?_];rw[<- lx];exists #[n,rfl,(),λl5 H5 n5 s5 R5=>?_];exists c7 λl6 H6 s6 n6 g6=>?_
  obtain zs|gz|qz:=R5.same s6;have lz:=qz.9;rw[aV] at lz;exists ou gz g6 (dn (dA (by rw[bg];lia))) λl7 H7 s7 n7 g7=>?_
  have s47:=(s5.trans s6).trans s7;have s07:=s04.trans s47;have R7:bK K H7 l7 (List.replicate n 0++[1]):=#[_,g7,Paired.imp' (λ_ _ z=>bO.same z s7) (bM qz (.cons #[_,rfl,T.sq_ONE _] .nil))];have l1:(cv rows n++[due]).9=n+1:=by rw[aj,cy];rfl
  have w1':∀xs∈cv rows n++[due],xs.9=rows.9:=λxs hx=>by
   rcases av.mp hx with hx | hx
   ·exact ie xs hx
   ·rw[bh.mp hx];exact hd
  exists #[l4,l7,rows.9,w1,_,_,_,rfl,G4.same s47,R7,by rw[l1,aj,aV];rfl,(),(),w1',F1,λx R1 p1 M H8 RR1 hn1 nx s8 Rx M0 M1 tM=>?_,λR1 p1 H8 RR1 hn1 s8=>?_]
  ·exists bR λt H9 s9 g9=>?_
   rw[l1] at M1 tM;exact k2 t x R ps R1 p1 M H9 RR hn RR1 hn1 g9 (s07.none nx) ((s07.trans s8).trans s9) (Rx.same s9) M0 M1 tM
  ·exact absurd hn1 (LF hd hw RR hn RR1)
theorem DR:sC ["lists","joined","each"] 1 Jh:=by walk_at "d"
theorem Ec (T:Txt K mg Z) (ptree:P.given.tree=none):T.uH.o P w base 1 FY:=by
 refine T.uH.F.k DR ?_;walk_at "i";obtain p|us|zss|rfl|gx|qx|hl|k:=h
 refine #[_,(ao (d6 1 DR.nd (dG jy))
  (ao (dF PassesOwn.never rfl (cC bL) (eX 2 DR.nd)
   (az (iK (tT cI PySem.F.slot_list_extend PySem.F.type_list_extend LW cM (c4 eo)))))
  (az (aT cM)))),?_]
 walk_at "s"
 try rw[ib]
 have lx:=qx.9;exists c7 λj H1 s1 n1 g1=>?_
 exists #[#[_,bC.of (s1 _ _ gx)],?_];refine gP (K:=K) (a:=p) (xs:=us) (λi σ' H'=>aH H H'/\∃x:Option V,σ'=[some (.ref p),some (.ref j),x]/\H' j=some (.lst (zss.take i).flatten)) #[s1,none,rfl,g1] (λi σ' H' _ #[s,_]=>bC.of (s _ _ gx)) ?_ ?_
 ·rintro i x σ' H' hx ⟨s,y,rfl,gj⟩;obtain zs|ez|q|rfl|gz:=bW qx hx;have tl:(zss.take (i+1)).flatten=(zss.take i).flatten++zs:=by rw[take_snoc ez,fA];simp
  have bl:(zss.take i).flatten.length+zs.9<=1000:=by
   have e:zss.flatten=(zss.take (i+1)).flatten++(zss.drop (i+1)).flatten:=by rw[<- fA,List.take_append_drop]
   rw[e,tl,aj,aj] at hl
   lia
  exists #[.inl #[rfl,_,bC.of gj],?_];exists #[j,q,_,zs,rfl,rfl,gj,s _ _ gz,dn (dA ()),?_];exact #[s.after n1,_,rfl,by rw[aK,tl]]
 ·rintro σ' H' ⟨s,y,rfl,gj⟩;rw[aE ()] at gj;exists k j H' n1 s gj
theorem wg (T:Txt K mg Z) (ptree:P.given.tree=none):T.iM.o P w base 4 (Ks K):=by
 refine T.iM.F.k jt ?_;walk_at "i";obtain p|q|xs|ys|rfl|hp|hq|hl|hz|⟨⟨M,h1⟩,⟨N,h2⟩⟩|kk:=h
 refine #[_,(ao (d6 2 jt.nd (cw (ij T ptree) hr T.dS (c4 bL)))
  (ao (d6 3 jt.nd (cw (ij T ptree) hr T.dS (c4 cM)))
  (ao (d6 4 jt.nd (Aj rfl T.list rfl T.zip (cH (cw (kM T ptree) hr T.gI (cH bL eo)) (cw (kM T ptree) hr T.gI (cH cM fX)))))
  (az (aT (cw (nZ T ptree) hr T.jP (cH (ba (Ih rfl) (by rfl) T.sum PyProof.Rows.boot_sum (c4 (cn ["mine","yours"] [] [] (cC mU) (λ_=>(oR K 2 (cG (eX 0) (cG (eX 1) jg)))) (λ_=>cA) (λ_=>(bD cR bL cM))))) (bD cR eo fX)))))))),?_]
 walk_at "s"
 try rw[ib]
 replace hp:=hp.rowK;replace hq:=hq.rowK;replace hl:(ys.map nm).9=(xs.map nm).9:=by simpa using hl
 replace hz:(xs.map nm).9<=1000:=by simpa using hz
 obtain b1|s1:=h1.bot;obtain b2|s2:=h2.bot;have k2:∀r H',aH H H'->H' r=some (.tup [.int (lo (JK (xs.map nm) (ys.map nm)) (fF (xs.map nm)*fF (ys.map nm))),.int (hi (JK (xs.map nm) (ys.map nm)) (fF (xs.map nm)*fF (ys.map nm)))])->Q (.ref r) H':=λr H' s g=>kk r H' s (bO.mk g (K5 b1 b2))
 clear kk;generalize xs.map nm=ns at hp hq hl hz h1 h2 b1 b2 s1 s2 k2;generalize ys.map nm=ms at hp hq hl hz h1 h2 b1 b2 s1 s2 k2;have hb:0 < fF ns*fF ms:=iF b1 b2;exists #[p,ns,M,rfl,hp,hz,h1,λH1 t1=>?_];exists #[q,ms,N,rfl,hq.same t1,(),h2,λH2 t2=>?_];have u2:=t1.trans t2;exists #[p,ns,M,_,rfl,hp.same u2,hz,h1,b1,s1,λr1 H3 n3 t3 g3=>?_];exists #[q,ms,N,_,rfl,(hq.same u2).same t3,(),h2,b2,s2,λr2 H4 n4 t4 g4=>?_];exists #[r1,r2,_,_,rfl,bC.of (t4 _ _ g3),bC.of g4,by simp [d5,hl],λL ts H5 t5 n5 g5 pr=>?_];have lt:=pr.9;have ll:(d5 ns (fF ns)).9=ns.9:=by simp [d5]
 have lm:(d5 ms (fF ms)).9=ns.9:=by simp [d5,hl]
 rw[rY,ag,ag,ll,lm] at lt;exists #[#[_,bC.of g5],?_];refine iu (K:=K) (xs:=ts) (λi ys H'=>H'=H5/\ys=((List.zipWith (λx y=>x*y) (d5 ns (fF ns)) (d5 ms (fF ms))).take i).map V.int) mR #[rfl,rfl] (λi ys H' _ #[e,_]=>by subst e;exact bC.of g5) ?_ ?_
 ·rintro i x ys H' hx hlen ⟨rfl,rfl⟩;obtain pq|epq|T|rfl|gT:=bW pr hx;obtain t|u|et|eu|rfl:=Kb epq;exists fU (show fZ _ _ from .inr #[_,_,vP h1 b1 s1 (ar et),vP h2 b2 s2 (ar eu),()]) ?_;have ez:(List.zipWith (λx y=>x*y) (d5 ns (fF ns)) (d5 ms (fF ms)))[i]?=some (t*u):=by rw[bp,et,eu]
  exact #[rfl,by rw[take_snoc ez];simp]
 ·rintro ys H' hy ⟨rfl,rfl⟩ l hl';exists #[l,List.zipWith (λx y=>x*y) (d5 ns (fF ns)) (d5 ms (fF ms)),rfl,bC.of (by rw[aK,aE (by rw[aZ];lia)]),?_];exists fU (show fZ _ _ from .inr #[_,_,s1,s2,()]) ?_;exists #[_,_,rfl,(),(s1.mul s2).mono (),λr H6 t6 g6=>?_];rw[if_neg (),if_neg ()] at g6;exact k2 r H6 ((((u2.trans t3).trans t4).trans t5).trans ((aH.new hl').trans t6)) g6
theorem wA (T:Txt K mg Z) (ptree:P.given.tree=none):T.jE.o P w base 5 (Kq K):=by
 refine T.jE.F.k zP ?_;walk_at "i";obtain p|q|H0|rows|ys|rfl|hp|hq|hz|hl|hr1|kk:=h;refine #[_,(az (aT (cn ["line"] ["row"] [1] (cC bL) (λ_=>(eX 0)) (λ_=>cA) (λ_=>(cw (wg T ptree) hr T.iM (cH bL cM)))))),?_];walk_at "s"
 try rw[ib]
 obtain xs|gx|qx|_:=id hp;exists #[#[_,bC.of gx],?_];refine dc (K:=K) (F:=dq K H0) (bO K) (λxs=>bJ xs ys) gx qx hz (λa b=>a.same b) (λa b=>a.same b) ?_ ?_
 ·rintro i ns x H' NY NN en s ⟨u,rfl,_,hu⟩ k;obtain e1|e2:=hr1 ns (ar en);exists #[u,q,ns,ys,rfl,hu,hq.same s,e1.symm,(),e2,λr H2 s2 h2'=>k _ _ s2 h2']
 ·rintro ys' H' r hr s g pr nx;exact kk r H' hr s #[ys',g,pr]
theorem uQ:sC ["one","other","wide","columns"] 3 qJ:=by walk_at "d"
theorem Bt (T:Txt K mg Z) (ptree:P.given.tree=none):T.mh.o P w base 6 (zH K):=by
 refine T.mh.F.k uQ ?_;walk_at "i";obtain p|q|w|H0|H1|one|other|rfl|hp|hq|z1|z2|hw|h1|h2|kk:=h
 refine #[_,(ao (d6 3 uQ.nd (cw (jB T ptree) hr T.eQ (cH cM eo)))
  (az (aT (cn ["line"] ["columns"] [3] (cC bL) (λ_=>(eX 0)) (λ_=>cA) (λ_=>(cw (wA T ptree) hr T.jE (cH cM bL))))))),?_]
 walk_at "s"
 try rw[ib]
 exists #[q,w,H1,other,rfl,hq,z2,hw,h2,λc H2 nc s2 hc=>?_];obtain xs|gx|qx|_:=hp.same s2;exists #[#[_,bC.of gx],?_];refine dc (K:=K) (F:=dq K H0) (dq K H) (λxs=>(cv other w).map λys=>bJ ys xs) gx qx z1 (λa b=>a.same b) (λa b=>a.same b) ?_ ?_
 ·rintro i ns x H3 NY NN en s3 ⟨u,rfl,_,hu⟩ k;obtain e1|e2:=h1 ns (ar en);exists #[c,u,H,cv other w,ns,rfl,hc.same s3,hu,by simp [cv];lia,(),λys hy=>#[?_,e2 ys hy],λr H4 nr s4 hr=>k _ _ s4 #[r,rfl,s2.none (s3.none nr),hr]];obtain j|_|rfl:=aA.mp hy;rw[ag];exact e1.symm
 ·rintro ys' H3 r hr s3 g pr nx;exact kk r H3 (s2.none hr) (s2.trans s3) #[ys',g,pr,jC nx]
theorem Lu:sC ["one","other"] 2 zU:=by walk_at "d"
theorem LL (T:Txt K mg Z) (ptree:P.given.tree=none):T.uE.o P w base 3 (zA K):=by
 refine T.uE.F.ok Lu (λvs H Q E h=>?_) (λcdv A outer s H vs Q E hr h=>?_)
 ·obtain u|v|x|y|rfl|hx|hy|y0|sx|sy|k:=h;rfl
 ·obtain u|v|x|y|rfl|hx|hy|y0|sx|sy|k:=h;obtain p|rfl|gp:=id hx;obtain q|rfl|gq:=id hy
  refine #[_,(ao (cN (be fj (aS br cM ai) ai (bo _)) (az KA) bI)
   (az (aT (cw (nZ T ptree) hr T.jP (cH (bD cR (aS br bL ai) (aS br cM ai)) (bD cR (aS br bL ai) (aS br cM ai))))))),?_]
  refine oq (σ:=[some (.ref p),some (.ref q)]) rfl ?_
  try rw[ib]
  obtain hb|e:=QF (x:=x) y0;have yn:0 < (nm y).1:=rW.mp y0;walk_at "w";rw[decide_eq_false (show ¬((nm y).1=0) by lia)];exists fU (show fZ _ _ from .inr #[_,_,sx.1,sy.2,()]) ?_;exists fU (show fZ _ _ from .inr #[_,_,sx.2,sy.1,()]) ?_;exists #[_,_,rfl,(),(sx.2.mul sy.1).mono (),λr H' s' h'=>?_];rw[if_neg (),if_neg ()] at h';exact k r H' s' (bO.mk h' e)
theorem DO:sC ["weights","row"] 2 sX:=by walk_at "d"
theorem wo (T:Txt K mg Z) (ptree:P.given.tree=none):T.kR.o P w base 4 (Kl K):=by
 refine T.kR.F.k DO ?_;walk_at "i";obtain p|q|wq|xq|rfl|hp|hq|hl|hz|hw|hx|k:=h;refine #[_,(az (aT (cn ["value","weight"] [] [] (qV rfl T.zip (cH cM bL)) (λ_=>(oR K 2 (cG (eX 0) (cG (eX 1) jg)))) (λ_=>cA) (λ_=>(cw (LL T ptree) hr T.uE (cH bL cM)))))),?_];walk_at "s"
 try rw[ib]
 obtain ws|gw|qw:=id hp;obtain xs|gx|qx:=id hq;have lx:=qx.9;have lw:=qw.9;exists #[#[_,bC.of gx],#[_,bC.of gw],?_];refine pZ (K:=K) (xs:=xs) (ws:=ws) (λi zs H'=>aH H H'/\Paired (bO K H') ((tS wq xq).take i) zs) mR () #[aH.refl _,.nil] (λi zs H' _ #[s,_]=>#[bC.of (s _ _ gx),bC.of (s _ _ gw)]) ?_ ?_
 ·rintro i x y zs H' r h1 h2 hlen ⟨s,hP⟩ hr;obtain n|en|hn1:=bW qx h1;obtain m|em|hm1:=bW qw h2;obtain w0|w1:=hw m (ar em);have s1:=aH.new (o:=.tup [x,y]) hr;have s01:=s.trans s1;have gr:(upd H' r (.tup [x,y])) r=some (.tup [x,y]):=aK;generalize upd H' r (.tup [x,y])=Hr at s1 s01 gr ⊢;exists #[_,_,n,m,rfl,hn1.same s01,hm1.same s01,w0,hx n (ar en),w1,λr3 H3 s3 h3=>?_];refine #[s01.trans s3,?_];have ez:(tS wq xq)[i]?=some (n / m):=by unfold tS;rw[bp,en,em]
  rw[take_snoc ez];exact bM (Paired.imp' (λ_ _ z=>z.same (s1.trans s3)) hP) (.cons h3 .nil)
 ·rintro zs H' hy ⟨s,hP⟩ l hl';rw[aE (by unfold tS;rw[aZ];lia)] at hP;exact k l _ (s.none hl') (s.trans (aH.new hl')) #[zs,aK,Paired.imp' (λ_ _ z=>z.same (aH.new hl')) hP]
theorem uC:sC ["weights","lists","wide","rows","all_weights","columns"] 3 zW:=by walk_at "d"
theorem LM (T:Txt K mg Z) (ptree:P.given.tree=none):T.uF.o P w base 7 (Km K):=by
 refine T.uF.F.k uC ?_;walk_at "i";obtain q|l|n|us|Rs|ws|rfl|Rq|gl|pl|n1|l1|f1|fw|hx|hw|rc|k:=h
 refine #[_,(ao (d6 3 uC.nd (cw (Ec T ptree) hr T.uH (c4 cM)))
  (ao (d6 4 uC.nd (cw (Ec T ptree) hr T.uH (c4 (cn ["each"] ["weights"] [0] (cC cM) (λ_=>(eX 0)) (λ_=>cA) (λ_=>cM)))))
  (ao (d6 5 uC.nd (cw (jB T ptree) hr T.eQ (cH fX eo)))
  (az (aT (cw (Bt T ptree) hr T.mh (qq (cn ["column"] ["all_weights"] [4] (cC qo) (λ_=>(eX 0)) (λ_=>cA) (λ_=>(cw (wo T ptree) hr T.kR (cH cM bL)))) fX eo))))))),?_]
 walk_at "s"
 try rw[ib]
 have lu:=pl.9;obtain zss|pz|pr:=AO pl;have pf:=nF pr;have lf:=pf.9;exists #[l,us,zss,rfl,gl,pz,(),λr1 H1 nr1 s1 g1=>?_];have G1:bu K (λ_=>none) H1 r1 Rs.flatten:=#[_,g1,Paired.imp' (λ_ _ #[a,b,_,d]=>#[a,b,rfl,d.same s1]) pf,jC #[H,nr1,pf]];obtain wz|gw|qw:=id Rq;exists #[#[_,bC.of (s1 _ _ gl)],?_];refine dc (K:=K) (F:=λ_ (_:LR9) _=>True) (λ_ (_:LR9) v=>v=V.ref q) id (as:=Rs) (s1 _ _ gl) (Paired.imp' (λ_ _ _=>trivial) pl) () (λa b=>a) (λa b=>a) ?_ ?_
 ·rintro i c x H' NY NN ec s' _ k1;exists k1 _ _ (aH.refl _) rfl
 rintro ys H2 r2 nr2 s2 g2 pr2 _;rw[iE] at pr2;have s02:=s1.trans s2;have py:Paired (λzs u=>∃q,u=V.ref q/\H2 q=some (.lst zs)) (List.replicate Rs.9 wz) ys:=Ad (λ_ y e=>#[q,e,s02 _ _ gw]) pr2;have pw:=nF (Ky (G:=λR zs=>Paired (bO K H) R zs) qw Rs.9);have lw:=pw.9;exists #[r2,ys,_,rfl,g2,py,by unfold kD at fw;lia,λr3 H3 nr3 s3 g3=>?_];have s03:=s02.trans s3;have R3:bK K H3 r3 (kD ws Rs.9):=#[_,g3,Paired.imp' (λ_ _ z=>z.same s03) pw];have s13:=s2.trans s3;exists #[r1,n,_,_,rfl,G1.same s13,f1,(),λxs h=>(hx xs h).1,λr4 H4 nr4 s4 G4=>?_];obtain cs|gc|qc|_:=id G4;have lc:=qc.9;rw[cy] at lc;exists #[#[_,bC.of gc],?_];refine dc (K:=K) (F:=dq K H3) (dq K H3) (tS (kD ws Rs.9)) gc qc (by rw[cy];lia) (λa b=>a.same b) (λa b=>a.same b) ?_ ?_
 ·rintro i c x H' NY NN ec s' ⟨u,rfl,nu,Ru⟩ k1;have mc:=ar ec;have wc:=ie c mc;exists #[r3,u,_,c,rfl,R3.same (s4.trans s'),Ru,by rw[fw,wc],(),λw h=>hw w (zb h),zg hx c mc,λr5 H5 nr5 s5 R5=>k1 _ _ s5 #[r5,rfl,(s4.trans s').none nr5,R5]]
 rintro zs H5 r5 nr5 s5 g5 pr5 nx5;have G5:bu K H3 H5 r5 ((cv Rs.flatten n).map (tS (kD ws Rs.9))):=#[zs,g5,pr5,jC nx5];have s15:=(s13.trans s4).trans s5;exists #[r5,r1,n,_,_,_,_,rfl,G5,G1.same s15,by rw[ag,cy];lia,f1,(),λxs h=>?_,λxs h=>(hx xs h).1,λr6 H6 nr6 s6 G6=>k r6 _ H6 ((s1.trans s15).none nr6) ((s1.trans s15).trans s6) G6];obtain ys'|hy|rfl:=aA.mp h;refine #[?_,λzs hz=>#[(rc zs hz).1,(rc ys' hy).2]];unfold tS;rw[aZ,fw,ie ys' hy,eF]
theorem zM:sC ["rows","wide","found"] 2 xx:=by walk_at "d"
theorem Jo (T:Txt K mg Z) (ptree:P.given.tree=none):T.qZ.o P w base 5 (yh K):=by
 refine T.qZ.F.k zM ?_;walk_at "i";obtain p|n|w|H0|rows|rfl|G|r100|n100|hw|F|k:=h
 refine #[_,(ao (d6 2 zM.nd (cw (GA T ptree) hr T.ue (cH bL cM)))
  (az (aT (cn ["line","lead"] [] [] (qV rfl T.zip (cH (aS br eo ai) (aS br eo ai))) (λ_=>(oR K 2 (cG (eX 0) (cG (eX 1) jg)))) (λ_=>cA) (λ_=>(cn ["top"] ["line","lead"] [0,1] (Gx K bL) (λ_=>(eX 0)) (λ_=>cA) (λ_=>(cw (nZ T ptree) hr T.jP (cH bL (aS (jH K (by rfl)) cM eo)))))))))),?_]
 walk_at "s"
 try rw[ib]
 obtain _|_|_|_|_|_|_|_|r15|r89:=id F;exists #[p,n,w,H0,rows,rfl,G,r100,n100,hw,F,λt lp qp R ps d ls H1 gt gq G1 s1 S=>?_];obtain lR|wR|RR:=id S.rr;have hl:=S.len;obtain _|xs|gx|qx:=id G1;have lx:=qx.9;have lps:(il ps).9=ps.9:=ag ..;have d0:(d:Rat)≠0:=λz=>S.d0 (oG z)
 have dsz:Sz 8999000 d:=bc S.dsz (dg () ())
 have km:ps.9<=n:=by
  rcases bZ n ps.9 with z | z
  ·have inc:∀j,j < ps.9->j<=ps.getD j 0:=by
    intro j
    induction j with
    | zero=>intro _;exact aW _
    | succ j ih =>
     intro hj;have:=ih ();have:=RR.inc j (j+1) () hj
     lia
   have h1:=inc (ps.9 - 1) ();have h2:=RR.low (ps.9 - 1) ()
   lia
  ·exact z
 exists #[#[_,bC.of gx],#[_,bC.of gq],?_];refine pZ (K:=K) (xs:=xs) (ws:=il ps) (λi ys H'=>aH H1 H'/\Paired (dq K H1 H') (R.take i) ys) mR () #[aH.refl _,.nil] (λi ys H' _ #[s,_]=>#[bC.of (s _ _ gx),bC.of (s _ _ gq)]) ?_ ?_
 ·rintro i v1 v2 ys H' r h1 h2 hy ⟨s,pr⟩ hr;obtain zs|ez|q|rfl|_|gq1:=bW qx h1;have hi:i < ls.9:=(aJ.mp ez).1;have mz:=ar ez;have wz:=S.wide zs mz
  obtain ⟨j,ej,rfl⟩:∃j:Nat,ps[i]?=some j/\V.int (j:Int)=v2:=by
   unfold il at h2;rw[aB] at h2;cases e:ps[i]? with
   | none=>rw[e] at h2;cases h2
   | some x=>rw[e] at h2;exact #[x,rfl,cp h2]
  have ej':ps.getD i 0=j:=by rw[aa,ej];rfl
  have jn:j < n:=by have:=RR.low i ();rw[ej'] at this;exact this
  have sr:aH H' (upd H' r (.tup [.ref q,.int j])):=aH.new hr;have gr:(upd H' r (.tup [.ref q,.int j])) r=some (.tup [.ref q,.int j]):=aK;generalize upd H' r (.tup [.ref q,.int j])=H2 at sr gr ⊢;have s2:=s.trans sr;have iR:i < R.9:=()
  have eR:=ae iR;have wRi:=wR _ (aF iR)
  have ed:zs.getD j 0=d:=by
   have h:=S.val i j;rw[MP ez] at h;have u:=RR.unit i () i ();rw[if_pos rfl,ej'] at u;rw[u,rQ] at h;exact du.mp h
  have val:∀c,((zs.getD c 0:Int):Rat)=(d:Rat)*(R[i]).getD c 0:=λc=>by
   have h:=S.val i c;rw[MP ez] at h;rw[h];unfold bV;rw[aa (l:=R),eR];rfl
  exists #[#[_,bC.of (s2 _ _ gq1)],?_];refine iu (K:=K) (xs:=zs.map V.int) (λc ys' H3=>aH H2 H3/\Paired (bO K H3) ((R[i]).take c) ys') (dn (dA (by rw[ag];lia))) #[aH.refl _,.nil] (λc ys' H3 _ #[s3,_]=>bC.of ((s2.trans s3) _ _ gq1)) ?_ ?_
  ·rintro c x ys' H3 hx hlen ⟨s3,pr3⟩
   obtain ⟨z,ec,rfl⟩:∃z,zs[c]?=some z/\V.int z=x:=by
    rw[aB] at hx;cases e:zs[c]? with
    | none=>rw[e] at hx;cases hx
    | some x=>rw[e] at hx;exact #[x,rfl,cp hx]
   have hc:c < zs.9:=(aJ.mp ec).1;have vc:=val c;have e1:zs.getD c 0=z:=by rw[aa,ec];rfl
   rw[e1] at vc;exists b7 (bC.of ((s2.trans s3) _ _ gq1)) (y8 ()) ?_;rw[ed];exists #[z,d,rfl,S.d0,dsz,λr4 H4 s4 g4=>?_];have ec':(R[i])[c]?=some ((R[i]).getD c 0):=by rw[aa,ae (show c < (R[i]).9 by lia)];rfl
   refine #[s3.trans s4,?_];rw[take_snoc ec'];refine bM (Paired.imp' (λ_ _ z=>bO.same z s4) pr3) (.cons (bO.mk g4 ?_) .nil);rcases Int.lt_or_lt_of_ne S.d0 with hd | hd
   ·rw[if_pos hd,if_pos hd];refine mG () ?_;rw[cU,cU,vc];grind
   ·rw[if_neg (),if_neg ()];refine mG hd ?_;rw[vc];grind
  ·rintro ys' H3 hy' ⟨s3,pr3⟩ l4 hl4;have sn:aH H3 (upd H3 l4 (.lst ys')):=aH.new hl4;refine #[(s2.trans s3).trans sn,?_];rw[take_snoc eR];rw[aE (by rw[ag];lia)] at pr3;exact bM (Paired.imp' (λ_ _ z=>dq.same z ((sr.trans s3).trans sn)) pr) (.cons #[l4,rfl,(s2.trans s3).none hl4,ys',aK,Paired.imp' (λ_ _ z=>bO.same z sn) pr3] .nil)
 ·rintro ys H' hy ⟨s,pr⟩ r hr;have sn:aH H' (upd H' r (.lst ys)):=aH.new hr;rw[aE ()] at pr;refine k r R ps d.natAbs _ (s1.none (s.none hr)) ((s1.trans s).trans sn) #[ys,aK,Paired.imp' (λ_ _ z=>(dq.weak z s1).same sn) pr,jC (H0:=H1) (rows:=R) #[H',hr,pr]] S.rr S.km ?_ S.dsz S.tp;have:=S.d0
  lia
theorem og:sC ["system","steps","lists","rows"] 2 pA:=by walk_at "d"
theorem An (T:Txt K mg Z) (ptree:P.given.tree=none):T.kQ.o P w base 7 (CH K Z.a_System):=by
 refine T.kQ.F.k og ?_;walk_at "i";obtain x|a|c|st|H0|mv|pt|lk|rfl|s1000|S|D|F|k:=h
 refine #[_,(ao (d6 2 og.nd (dG (c4 (dG jy))))
  (ao (Af PassesOwn.never (be Vq (ba aR (by rfl) T.len aL (c4 eo)) cM (bo _))
   (ao (d6 3 og.nd (cw (Jo T ptree) hr T.qZ (cH (bD ni (jX bL rfl) (cw (uW T ptree) hr T.j4 (cH bL (aS bE eo (yj so ai))))) (jX bL rfl))))
  (ao (cN (be fj (ba aR (by rfl) T.len aL (c4 fX)) (ba aR (by rfl) T.len aL (c4 (aS bE eo (yj so ai)))) (bo _)) (az (aT eo)) bI)
  (az (iK (tT cI c6 c5 jN eo (c4 fX)))))))
  (az (aT eo)))),?_]
 walk_at "s"
 try rw[ib]
 obtain dx|a'|b'|c'|gx|_|_|_|Ga|Gb|Gc:=id S;have d8:=D.n8;have i4:=D.i4;have lP:=dX (mv:=mv) (pt:=pt) rfl D.pw;exists c7 λq0 H1 s1 nq0 g1=>?_
 exists c7 λl H2 s2 nl g2=>?_
 have s02:=s1.trans s2;have nl0:H l=none:=s1.none nl;obtain ⟨Hz,eHz⟩:∃Hz,Hz=upd H l (.lst []):=#[_,rfl];have zl:Hz l≠none:=by rw[eHz,aK];exact λz=>nomatch z
 have zn:∀q,Hz q=none->H q=none/\q≠l:=λq h=>by
  have ne:q≠l:=λz=>zl (by rw[<- z];exact h)
  rw[eHz,bG ne] at h;exact #[h,ne]
 have nz:∀q,H q=none->q≠l->Hz q=none:=λq h ne=>by rw[eHz,bG ne];exact h
 clear eHz;have q0l:q0≠l:=λz=>by rw[z,nl] at g1;cases g1
 have G0:bu K Hz H2 q0 []:=#[[],s2 _ _ g1,.nil,λz=>nomatch z];exists Dw (λσ' H'=>aH H H'/\∃Rs R us y,σ'=[some (.ref x),some (.int st),some (.ref l),y]/\H' l=some (.lst us)/\Paired (λR v=>∃q,v=V.ref q/\Hz q=none/\bu K Hz H' q R) (Rs++[R]) us/\uy mv pt (Rs++[R])/\Rs.9<=st) (λ_ H'=>match H' l with | some (.lst us)=>st+1 - us.9 | _=>0) #[s02,[],[],_,_,rfl,g2,.cons #[q0,rfl,nz q0 nq0 q0l,G0] .nil,#[by simp,λt R e=>?_,λt R R' e e'=>?_],aW _] ?_
 ·have ht:=(aJ.mp e).1;have:t=0:=by simpa using ht
  subst this;cases e;exact #[[],S3]
 ·have ht:=(aJ.mp e').1;simp at ht
 rintro σ' Ha ⟨sa,Rs,R,us,y,rfl,gu,pa,Gw,hst⟩;have lu:=pa.9;rw[aj,bg] at lu;have eR:(Rs++[R])[Rs.9]?=some R:=by rw[a7 (ah _),fY];rfl
 obtain ps|RR:=Gw.rr _ _ eR;have tn:Rs.9<=mv.9:=by have:=Gw.len _ _ eR;have:=RR.le;have:=RR.1;lia
 have fin:∀(Hx:Hp) (sx:aH Ha Hx) (hh:∀s,(Rs.9=st/\s=st\/Rs.9 < st/\Rs.9<=s)->∃ps,bS (kry mv pt s) mv.9 R ps),Q (.ref l) Hx:=λHx sx hh=>by
  refine k l (Rs++[R]) Hx nl0 (sa.trans sx) #[us,sx _ _ gu,Paired.imp' (λ_ _ #[q,e1,e2,e3]=>#[q,e1,(zn q e2).1,(zn q e2).2,bu.weakN (bu.same e3 sx) λq h=>(zn q h).1]) pa] Gw (by rw[aj,bg];lia) λR2 e2 s hs=>?_
  rw[List.getLast?_concat] at e2;cases e2;rw[aj,bg,Nat.add_sub_cancel] at hs;exact hh s hs
 exists #[_,_,rfl,.inl (bC.of gu),?_];exists iO (λh0=>?_) (λh0=>?_)
 ·have h0:=of_decide_eq_true h0;refine RU ?_
  obtain ⟨zs,gS⟩:∃zs q,us=zs++[V.ref q]/\Hz q=none/\bu K Hz Ha q R:=by
   obtain ⟨v,ev,q,rfl,e2,e3⟩:∃v,us[Rs.9]?=some v/\∃q,v=V.ref q/\Hz q=none/\bu K Hz Ha q R:=by
    have ev:=ae (show Rs.9 < us.9 by lia);obtain R2|e2|w:=bW pa ev;rw[eR] at e2;cases e2;exact #[_,ev,w]
   refine #[us.take Rs.9,q,?_,e2,e3];rw[<- take_snoc ev,aE ()]
  obtain q|rfl|zq|Gq:=gS;have gxa:=sa _ _ gx;exists #[x,Z.a_System,dx,_,_,rfl,gxa,T.cl_System,T.na_put,DD,?_];exists b7 (bC.of gu) (wY _ _) ?_;have wR:=RR.2.1;have lR:=RR.1;have pn:=RR.le;exists #[x,q,H0,Hz,mv,pt,lk,R,rfl,S.same sa,D,Gq,(),wR,F.fit d8 D.mw D.pw tn RR,λmr Hb nmr sb Gm=>?_];obtain pv|gpv|qpv|_:=Gb.same (sa.trans sb);obtain mvs|gmv|qmv|_:=id Gm;have lpv:=qpv.9;have lmv:=qmv.9;rw[ag] at lmv;exists ou gpv gmv mR λcr Hc sc nc gc=>?_
  have sab:=sa.trans (sb.trans sc);have Gc':bu K (λ_=>none) Hc cr (pt++R.map (rV mv)):=xQ (H:=Hb) (bM (Paired.imp' (λ_ _ #[q,e1,e2,e3]=>#[q,e1,rfl,e3]) qpv) (Paired.imp' (λ_ _ #[q,e1,e2,e3]=>#[q,e1,rfl,e3]) qmv)) sc nc gc;exists #[x,Z.a_System,dx,_,_,rfl,sab _ _ gx,T.cl_System,T.na_states,oa,?_];exists #[cr,mv.9,_,_,_,rfl,Gc',by rw[aj,ag];lia,(),λxs hx=>?_,F.step d8 D.mw D.pw tn RR,λrr R' ps' M' Hd nrr sd G' RR' pm' _ _ _=>?_]
  ·rcases av.mp hx with hx | hx
   ·exact D.pw xs hx
   ·obtain y|_|rfl:=aA.mp hx;exact D8
  have sbd:=sb.trans (sc.trans sd);have sad:=sa.trans sbd;have K1:=AJ rfl D.mw D.pw RR RR';have gud:=sbd _ _ gu;obtain rv|grv|qrv|_:=id G';have lrv:=qrv.9;have lR':=RR'.1;have pn':=RR'.le;exists #[_,_,rfl,.inl (bC.of grv),?_];exists b7 (bC.of gud) (wY _ _) ?_;obtain ov|gov|qov|_:=Gq.same sbd;have lov:=qov.9;exists #[_,_,rfl,.inl (bC.of gov),?_];exists iO (λh1=>?_) (λh1=>?_)
  ·have h1:=of_decide_eq_true h1;exists fin Hd sbd λs hs=>#[ps,?_]
   obtain ⟨s',rfl⟩:∃s',s=Rs.9+s':=#[s - Rs.9,()];exact L5 rfl D.mw D.pw RR RR' () s'
  ·have h1:¬((rv.9:Int)=ov.9):=λz=>h1 (decide_eq_true z)
   have gr:=Ob rfl D.mw D.pw RR K1;have rl:rr≠l:=λz=>by rw[z,(sb.trans sc) _ _ gu] at nrr;cases nrr
   have zc:∀q,Hc q=none->Hz q=none:=λq h=>nz q (sab.none h) (λz=>by rw[z,(sb.trans sc) _ _ gu] at h;cases h)
   exists #[.inl #[rfl,_,bC.of gud],?_];exists iX gud (dA ()) ?_;refine #[#[sad.after nl0,Rs++[R],R',_,_,rfl,aK,bM (Paired.imp' (λ_ _ #[q,e1,e2,e3]=>#[q,e1,e2,bu.updL (bu.same e3 sbd) gud zl (zn q e2).2]) pa) (.cons #[rr,rfl,zc rr nrr,bu.updL (G'.weakN zc) gud zl rl] .nil),Gw.snoc K1 (),by rw[aj,bg];lia],?_];simp only[gu,aK,aj,bg] at lu h0 ⊢
   lia
 ·have h0:¬((us.9:Int)<=st):=λz=>h0 (decide_eq_true z)
  walk_at "w"
  exact fin Ha (aH.refl _) λs hs=>#[ps,by
   have:s=Rs.9:=()
   rw[this];exact RR]
theorem sQ:sC ["rows","wide","row","answer"] 3 pk:=by walk_at "d"
theorem Al (T:Txt K mg Z) (ptree:P.given.tree=none):T.kO.o P w base 7 (MZ K):=by
 refine T.kO.F.k sQ ?_;walk_at "i";obtain p|q|n|w|w1|H0|rows|row|rfl|G|Rr|hl|m90|n90|hw|F|F1|k0|k1:=h
 refine #[_,(ao (d6 3 sQ.nd (cw (GC T ptree) hr T.uf (qq (cw (jB T ptree) hr T.eQ (cH bL cM)) (ba aR (by rfl) T.len aL (c4 bL)) eo)))
  (az (aT (cP (cH (NH (be fj (aS br fX ai) nh (bo _)) nh nh) (aS br fX ai)))))),?_]
 walk_at "s"
 try rw[ib]
 exists #[p,n,H0,rows,rfl,G,(),(),hw,λco H1 nc s1 G1=>?_];obtain xs|gx|qx|_:=G.same s1;have lx:=qx.9;exists #[_,_,rfl,.inl (bC.of gx),?_];rw[<- lx];have lT:(cv rows n).9=n:=cy;have eS:DF (cv rows n) rows.9 row=c8 (rows++[row]) (List.replicate rows.9 0++[1]):=by unfold DF;rw[Cr hw]
 exists #[co,q,rows.9,w,w1,_,cv rows n,row,rfl,G1,Rr.same s1,(),(),(),λxs hx=>ie xs hx,F,by rw[eS,lT];exact F1,λt x R ps M H2 RR hn g2 nx s2 Rx M0 M1 tM=>?_,λt x R ps R1 p1 M H2 RR hn RR1 hn1 g2 nx s2 Rx M0 M1 tM=>?_]
 ·exact absurd (k0 R ps RR) hn
 ·rw[lT] at M1 tM RR1 hn1 Rx;rw[eS] at RR1;walk_at "w";rw[decide_eq_false (show ¬(Str.ofString "no"=Str.ofString "yes") by decide)];exists bR λt2 H3 s3 g3=>?_
  exact k1 t2 x R1 p1 H3 RR1 hn1 g3 (s1.none nx) ((s1.trans s2).trans s3) (Rx.same s3)
theorem SY:sC ["row","many","wide"] 3 Ng:=by walk_at "d"
theorem TR (T:Txt K mg Z) (ptree:P.given.tree=none):oN P w K mg base FC 1 Z.So Z.Sl ["row","many","wide"] Pu:=T.Ju.F.ok SY (λvs H Q E h=>(show False from h).elim) (λcdv A outer s H vs Q E hr h=>(show False from h).elim)
theorem vU:sC ["system","start","goal","steps","used","rows","answer","latest_first"] 4 Ji:=by walk_at "d"
theorem QC (T:Txt K mg Z) (ptree:P.given.tree=none):T.yO.o P w base 8 (F0 K Z.a_System):=by
 refine T.yO.F.k vU ?_;walk_at "i";obtain x|s|g|tt|a|c|D0|W0|E0|W1|H0|mv|pt|lk|st|go|rfl|hT|S|D|SF|F|AF|Rs|ls|Rg|lg|cf|sg|CF|hr9|k1:=h
 refine #[_,(ao (d6 4 vU.nd (bD jz (ba aR (by rfl) T.len aL (c4 (cw (An T ptree) hr T.kQ (cH bL fX)))) ai))
  (ao (d6 5 vU.nd (cw (Ec T ptree) hr T.uH (c4 (cw (wC T ptree) hr T.kS (cH bL mU)))))
  (ao (d6 6 vU.nd (cw (Al T ptree) hr T.kO (qq qo (jX bL rfl) (cw (Ao T ptree) hr T.oC (xK bL cM eo fX)))))
  (ao (cN (be fj (aS br nY ai) nh (bo _)) (az (aT (cP (cH nh (aS br nY ai))))) bI)
  (ao (d6 7 vU.nd (cw (TR T ptree) hr T.Ju (qq (aS br nY ai) mU (jX bL rfl))))
  (az (aT (cP (cH nh (bD ni (cw (t8 T ptree) hr T.jD (cH bL (bD jz fX mU))) (Jm K rfl T.list rfl T.reversed (c4 qj)))))))))))),?_]
 walk_at "s"
 try rw[ib]
 have d8:=D.n8;have i4:=D.i4;obtain dx|a'|b'|c'|gx|_:=id S;exists #[x,a,c,tt,H0,mv,pt,lk,rfl,(),S,D,F,λr1 Rs1 H1 n1 s1 GL Gw ln hlast=>?_];obtain us|gus|pus1:=id GL;have lus:=pus1.9;have rne:=Gw.ne;have lpos:0 < Rs1.9:=List.length_pos_iff.mpr rne;exists #[_,_,rfl,.inl (bC.of gus),?_];rw[<- lus];obtain ⟨u,eu⟩:∃u,Rs1.9=u+1:=#[Rs1.9 - 1,()];rw[eu];have eL:Rs1[u]?=some (Rs1[u]'()):=ae ();obtain ⟨R,eR⟩:∃R,Rs1[u]?=some R:=#[_,eL];obtain ps|RRu:=Gw.rr u R eR;have ul:=Gw.len u R eR;have un:u<=mv.9:=by have:=RRu.le;have:=RRu.1;lia
 have uT:u<=tt:=()
 obtain ⟨psT,RRT⟩:∃ps,bS (kry mv pt tt) mv.9 R ps:=by
  refine hlast R ?_ tt ();rw[List.getLast?_eq_getElem?,eu];exact eR
 walk_at "w";rw[show ((((u+1:Nat):Int)) - 1)=(u:Int) by lia];refine #[x,u,H0,mv,pt,lk,rfl,(),S.same s1,D,AF.le uT,λr2 us2 H2 n2 s2 g2 p2=>?_];have s02:=s1.trans s2;have kl:=gM (mv:=mv) (pt:=pt) u;have kl2:u*pt.9<=8*4:=aw () i4;walk_at "w";obtain zss|pz9|pr9:=AO p2;have pf9:=nF pr9;rw[jS] at pf9;have lf9:=pf9.9;refine #[r2,us2,zss,rfl,g2,pz9,(),λr3 H3 n3 s3 g3=>?_];obtain ⟨H9,G3⟩:∃H9,bu K H9 H3 r3 (kry mv pt u):=#[_,_,g3,Paired.imp' (λ_ _ z=>dq.same z s3) pf9,jC #[H2,n3,pf9]];have s03:=s02.trans s3;exists #[x,Z.a_System,dx,_,_,rfl,s03 _ _ gx,T.cl_System,T.na_states,oa,?_];exists #[x,s,g,tt,H0,mv,pt,lk,st,go,rfl,(),S.same s03,D,SF,Rs.same s03,ls,Rg.same s03,lg,cf,sg,λr4 H4 n4 s4 R4=>?_];have s04:=s03.trans s4;have lL:=oE (T:=tt) ls lg;have wk:=dX (mv:=mv) (pt:=pt) rfl D.pw u;have tk:=CF.tk u un;have up0:∀y,Tp D0 W0 y->Tp (D0*E0) (W0*E0+W1*D0+D0*E0) y:=λy h=>h.up E0 ()
 have up1:∀y,Tp E0 W1 y->Tp (D0*E0) (W0*E0+W1*D0+D0*E0) y:=λy h=>by
  rw[bQ D0 E0];exact h.up D0 ()
 have up2:∀y,y=0\/y=1->Tp (D0*E0) (W0*E0+W1*D0+D0*E0) y:=λy h=>by
  rcases h with rfl | rfl
  ·exact Tp.zero
  ·exact #[((D0*E0:Nat):Int),by rw[rP,aI],by rw[bx];lia]
 obtain wa|sw1:=CF.join (rows:=cv (kry mv pt u) mv.9) (due:=cL mv tt st go) (n':=(kry mv pt u).9+1) (by rw[cy];exact lL) (λys hy y hy'=>by
  obtain j|_|rfl:=aA.mp hy;obtain zs|hz|rfl:=aA.mp hy';exact up0 _ (jd (tk zs hz) j)) (λy hy=>up1 y (CF.tl y hy)) d8 (by rw[cy];lia)
 obtain wb|sw2:=CF.join (rows:=kry mv pt u++[cL mv tt st go]) (due:=List.replicate (kry mv pt u).9 0++[1]) (n':=mv.9+1) (by simp) (λys hy y hy'=>by
  rcases av.mp hy with hy | hy
  ·exact up0 _ (tk ys hy y hy')
  ·rw[bh.mp hy] at hy';exact up1 _ (CF.tl y hy')) (λy hy=>by
  rcases av.mp hy with hy | hy
  ·exact up2 _ (.inl (kf.mp hy).2)
  ·exact up2 _ (.inr (bh.mp hy))) d8 (yA _ _)
 have hin:∀R' ps',bS (c8 (cv (kry mv pt u) mv.9) (cL mv tt st go)) ((kry mv pt u).9+1) R' ps'->(kry mv pt u).9∈ps':=λR' ps' RR'=>Classical.byContradiction λhn=>hr9 (Qj D.pw lL uT kj (Lk lL RR' hn))
 exists #[r3,r4,mv.9,wa,wb,H9,kry mv pt u,cL mv tt st go,rfl,G3.same s4,R4,lL,(),(),wk,sw1,sw2,hin,λt5 x5 R6 ps6 H5 RR6 hn6 g5 n5 s5 R5'=>?_];have s05:=s04.trans s5;have x50:=s04.none n5;have lw:(iG R6 ps6 mv.9).9=mv.9:=kj;obtain pr1|pr2:=LD wk lL RR6 hn6;obtain q|q0|q1|q2:=NC wk lL () CF.d0 CF.e0 CF.w0 tk CF.tl RR6 hn6;walk_at "w";rw[decide_eq_true rfl];exists bR λt10 H10 s10 g10=>?_
 exact k1 t10 x5 _ q H10 g10 x50 (s05.trans s10) (R5'.same s10) lw (LG D.pw RRu RRT lw pr2) pr1 #[u,R6,ps6,Gw.cmu eR RRT,RR6,rfl] q0 q1 q2
theorem Jd:sC ["price","weights","lists"] 3 xy:=by walk_at "d"
theorem Jp (T:Txt K mg Z) (ptree:P.given.tree=none):T.rf.o P w base 6 (FP K):=by
 refine T.rf.F.k Jd ?_;walk_at "i";obtain p|q|l|us|Rs|ws|x|rfl|Rp|Rq|gl|pl|l1|l2|l3|rx|hw|hR|k:=h;refine #[_,(az (aT (cn ["rows"] ["weights","price"] [1,0] (TK rfl T.reversed (c4 eo)) (λ_=>(eX 0)) (λ_=>cA) (λ_=>(cw (wo T ptree) hr T.kR (cH cM (cw (wA T ptree) hr T.jE (cH bL eo)))))))),?_];walk_at "s"
 try rw[ib]
 have lu:=pl.9;walk_at "w";unfold VD;exists #[l,us,rfl,bC.of gl,?_];refine OS (K:=K) (a:=l) (xs:=us) (λi zs H'=>aH H H'/\Paired (dq K H H') ((Rs.reverse.map λrows=>tS ws (rows.map λr=>bJ r x)).take i) zs) mR #[aH.refl _,.nil] (λi zs H' _ #[s,_]=>bC.of (s _ _ gl)) ?_ ?_
 ·rintro i v zs H' hi hv hlen ⟨s,hP⟩;obtain R|eR|u|rfl|_|Gu:=bW pl hv;obtain h1|h2:=hR R (ar eR);exists #[u,p,_,R,x,rfl,Gu.same s,Rp.same s,(),(),λxs hx=>#[(h2 xs hx).1,(h2 xs hx).2.1,rx],λr1 H1 n1 s1 R1=>?_];have s01:=s.trans s1;exists #[q,r1,ws,_,rfl,Rq.same s01,R1,by rw[ag];exact h1.symm,by rw[ag];lia,hw,λy hy=>?_,λr2 H2 n2 s2 R2=>?_]
  ·obtain xs|hx|rfl:=aA.mp hy;exact (h2 xs hx).2.2
  refine #[s01.trans s2,?_]
  have ez:(Rs.reverse.map λrows=>tS ws (rows.map λr=>bJ r x))[i]?=some (tS ws (R.map λr=>bJ r x)):=by
   rw[aB,Bm (),show Rs.9 - 1 - i=us.9 - 1 - i by lia,eR];rfl
  rw[take_snoc ez];exact bM (Paired.imp' (λ_ _ z=>dq.same z (s1.trans s2)) hP) (.cons #[r2,rfl,s01.none n2,R2] .nil)
 ·rintro zs H' hy ⟨s,hP⟩ r hr;rw[aE (by rw[ag,bT];lia)] at hP;exact k r _ (s.none hr) (s.trans (aH.new hr)) #[zs,aK,Paired.imp' (λ_ _ z=>dq.same z (aH.new hr)) hP,jC #[_,hr,hP]]
theorem sR:sC ["system","weights","start","goal","steps","lists","due","answer","price"] 5 D4:=by walk_at "d"
theorem t9 (T:Txt K mg Z) (ptree:P.given.tree=none):T.mO.o P w base 9 (zD K Z.a_System):=by
 refine T.mO.F.k sR ?_;walk_at "i";obtain x|q|s|g|tt|N|X|a9|c9|D0|W0|E0|W1|H0|mv|pt|lk|ws|st|go|rfl|S|D|SF|KF|Rq|Rs|ls|Rg|lg|cf|sg|F|CF|k1|k2:=h
 refine #[_,(ao (d6 5 sR.nd (cw (wC T ptree) hr T.kS (cH bL mU)))
  (ao (d6 6 sR.nd (cw (Ao T ptree) hr T.oC (xK bL eo fX mU)))
  (ao (d6 7 sR.nd (cw (GC T ptree) hr T.uf (qq (cw (LM T ptree) hr T.uF (qq cM qo (jX bL rfl))) (jX bL rfl) nY)))
  (ao (cN (be fj (aS br qj ai) nh (bo _)) (az (aT (cw (QC T ptree) hr T.yO (xK bL eo fX mU)))) bI)
  (ao (d6 8 sR.nd (aS br qj ai))
  (az (aT (cP (xK nh (cw (wg T ptree) hr T.iM (cH vA nY)) (cw (Jp T ptree) hr T.rf (qq vA cM qo)) vA))))))))),?_]
 walk_at "s"
 try rw[ib]
 have d8:=D.n8;have i4:=D.i4;have t40:=F.t40;obtain dx|a'|b'|c'|gx|_:=id S;have kl:=gM (mv:=mv) (pt:=pt) tt;have kl2:tt*pt.9<=20*4:=aw t40 i4;have wk:=dX (mv:=mv) (pt:=pt) rfl D.pw tt;have lL:=oE (T:=tt) ls lg;have la:(Bl mv pt tt).9=tt:=by unfold Bl;rw[ag,bU]
 have lwt:(kD ws tt).9=(kry mv pt tt).9:=by rw[nk,kl,F.lw]
 exists #[x,tt,H0,mv,pt,lk,rfl,(),S,D,F.ad,λr1 us H1 n1 s1 g1 p1=>?_];exists #[x,s,g,tt,H0,mv,pt,lk,st,go,rfl,(),S.same s1,D,SF,Rs.same s1,ls,Rg.same s1,lg,cf,sg,λr2 H2 n2 s2 R2=>?_];have s02:=s1.trans s2;have p2:=Paired.imp' (λ_ _ z=>IP.same z s2) p1;exists #[x,Z.a_System,dx,_,_,rfl,s02 _ _ gx,T.cl_System,T.na_states,oa,?_];exists #[q,r1,mv.9,us,_,ws,rfl,Rq.same s02,s2 _ _ g1,p2,(),(),by rw[jS];lia,by rw[jS,la];exact lwt,λxs h=>?_,F.wp,by rw[jS,la];exact F.rc,λr3 H9 H3 n3 s3 G3=>?_]
 ·rw[jS] at h;exact #[wk xs h,(F.rk xs h).2]
 rw[jS,la] at G3;have s03:=s02.trans s3;obtain w|sw:=F.sw;exists #[x,Z.a_System,dx,_,_,rfl,s03 _ _ gx,T.cl_System,T.na_states,oa,?_];walk_at "w";obtain wB|swb:=F.sb;refine #[r3,r2,mv.9,w,wB,_,_,_,rfl,G3,R2.same s3,by rw[rj,lL],by rw[rj];lia,(),wJ,sw,by rw[rj];exact swb,#[λt4 x4 R ps M4 H4 RR hn g4 n4 s4 R4 _ _ _=>?_,λt4 x4 R ps R' ps' M4 H4 RR hn _ _ g4 n4 s4 R4 _ _ _=>?_]]
 rotate_left
 ·have s04:=s03.trans s4
  have no:∀pr,¬Rv mv pt ws tt (cL mv tt st go) pr:=λpr #[R2,p2,r2,h2,_]=>h2 (by
   obtain _|b:=bS.uniq RR r2 (λ_ hi=>eY.row hi) (λ_ hi=>eY.row hi);rw[<- b];exact hn)
  walk_at "w";rw[decide_eq_true rfl];exists #[x,s,g,tt,a9,c9,D0,W0,E0,W1,H0,mv,pt,lk,st,go,rfl,t40,S.same s04,D,SF,KF,F.ad,Rs.same s04,ls,Rg.same s04,lg,cf,sg,CF,λrc=>?_,λt p pr q5 H5 g5 n5 s5 R5 lp z1 z2 pT q0 q1 q2=>?_]
  ·exact absurd hn (PB wk lwt (λw h=>(F.wp w (zb h)).1) lL rc RR)
  exact k2 t p pr q5 H5 g5 (s04.none n5) (s04.trans s5) no R5 lp z1 z2 pT q0 q1 q2
 have tp:=F.ok R ps RR hn;have ls1:Rv mv pt ws tt (cL mv tt st go) (iG R ps mv.9):=#[R,ps,RR,hn,rfl];have sl:=SX wk lwt lL RR hn;have lx:(iG R ps mv.9).9=mv.9:=kj;generalize iG R ps mv.9=pr at R4 tp sl lx ls1;have s04:=s03.trans s4;have s24:=s3.trans s4;have rx:IK pr:=zZ F.n0 (af F.nb (ak () ())) (af F.xb (ak () ())) tp;walk_at "w";rw[decide_eq_false (show ¬(Str.ofString "yes"=Str.ofString "no") by decide)];exists #[x4,r2,pr,_,rfl,R4,R2.same s24,by rw[lL,lx],(),#[rx,F.rd],λe5 H5 s5 N5=>?_];have s05:=s04.trans s5;have s25:=s24.trans s5;exists #[x4,q,r1,us,_,ws,pr,rfl,R4.same s5,Rq.same s05,(s2.trans s25) _ _ g1,Paired.imp' (λ_ _ z=>IP.same z s25) p2,(),by rw[F.lw];lia,(),rx,F.wp,λR' hR=>?_,λp6 H6 n6 s6 G6=>?_]
 ·have:∀xs∈R',xs∈kry mv pt tt:=λxs hx=>by rw[<- jS];exact eI.mpr #[R',hR,hx]
  refine #[?_,λxs hx=>#[by rw[wk xs (this xs hx),lx],(F.rk xs (this xs hx)).1,F.pz xs (this xs hx) pr lx tp]];unfold Bl at hR;obtain t|_|rfl:=aA.mp hR;rw[ag,F.lw]
 have s06:=s05.trans s6;exists bR λt7 H7 s7 g7=>?_
 exact k1 t7 e5 p6 x4 pr H7 g7 (s03.none n4) #[H5,s05,(by obtain _|g|_:=R4.same s5;rw[g];exact λz=>nomatch z),n6,G6.same s7] (s06.trans s7) ((N5.same s6).same s7) ((R4.same (s5.trans s6)).same s7) sl ls1 tp
theorem vV:sC ["_law_thing"] 1 tO:=by walk_at "d"
theorem uV (T:Txt K mg Z) (ptree:P.given.tree=none):∀i:Nat,oN P w K mg base FC (0+i+1) Z.uv Z.uo ["_law_thing"] (xo K i)
| 0=>T.eP.F.ok vV (λvs H Q E h=>(show False from h).elim) (λcdv A outer s H vs Q E hr h=>(show False from h).elim)
| i+1=>by
 have yw:=uV T ptree i;refine T.eP.F.k vV ?_;walk_at "i";obtain x|rfl|h:=h
 refine #[_,(ao (cN (gV (qW rfl T.isinstance PyProof.Rows.boot_list T.list bL)) (az (aT (cn ["_law_one"] [] [] (cC bL) (λ_=>(eX 0)) (λ_=>cA) (λ_=>(yM yw (hr.mono ()) rfl T.eP.m T.eP.F.kp T.eP.b .nil CP (c4 bL)))))) bI)
  (ao (cN (gV (qW rfl T.isinstance PyProof.Rows.boot_tuple T.tuple bL)) (az (aT (dB BV (by rfl) T.tuple PyProof.Rows.boot_tuple (c4 (cn ["_law_one"] [] [] (NG bL) (λ_=>(eX 0)) (λ_=>cA) (λ_=>(yM yw (hr.mono ()) rfl T.eP.m T.eP.F.kp T.eP.b .nil CP (c4 bL)))))))) bI)
  (az (aT bL)))),?_]
 walk_at "s"
 try rw[ib]
 rcases h with ⟨fx,k⟩ | ⟨hi,q,nq,k⟩ | ⟨hi,p,qs,rfl,Rp,l100,k⟩ | ⟨hi,p,H0,rs,rfl,Gp,l100,w100,k⟩ | ⟨m,hi,t,xs,H0,ds,rfl,st,pd,l10,hok,k⟩
 ·walk_at "w";cases x with
  | non =>
   refine .inl #[_,false,.non,rfl,?_];exists .inl #[_,false,.non,rfl,?_];exists k _ (aH.refl _)
  | bl v =>
   refine .inl #[_,false,.bl v,rfl,?_];exists .inl #[_,false,.bl v,rfl,?_];exists k _ (aH.refl _)
  | int v =>
   refine .inl #[_,false,.int v,rfl,?_];exists .inl #[_,false,.int v,rfl,?_];exists k _ (aH.refl _)
  | str v =>
   refine .inl #[_,false,.str v,rfl,?_];exists .inl #[_,false,.str v,rfl,?_];exists k _ (aH.refl _)
  | _=>exact absurd (show false=true from fx) bf
 ·obtain ⟨j,rfl⟩:∃j,i=j+1:=#[i - 1,()];obtain p|rfl|sq:=id nq;exists .inr #[p,_,false,rfl,sq,rfl,?_];exists .inr #[p,_,true,rfl,sq,rfl,?_];exists #[#[_,sq],?_];refine C7 (K:=K) (as:=[(nm q).1,(nm q).2]) (F:=λ_ c x=>x=V.int c) (λ_ c x=>x=V.int c) id sq (.cons rfl (.cons rfl .nil)) (by simp) (λh _=>h) (λh _=>h) ?_ ?_
  ·rintro i2 c x H' NY NN ec s' rfl k1;exists #[_,rfl,.inl #[rfl,λH2 s2=>k1 _ _ s2 rfl]]
  rintro ys H2 l hl s2 g2 pr _
  obtain rfl:ys=[V.int (nm q).1,V.int (nm q).2]:=by
   cases pr with
   | cons h1 t=>cases t with
    | cons h2 t'=>cases t';rw[h1,h2];rfl
  exists #[l,_,rfl,.inl #[bC.of g2,λr hr=>?_]];exact k r _ (s2.trans (aH.new hr)) #[r,rfl,j8.of aK]
 ·obtain ⟨j,rfl⟩:∃j,i=j+1:=#[i - 1,()];obtain xs|g|qx:=id Rp;have lx:=qx.9;exists .inl #[_,true,.lst g,rfl,?_];exists #[#[_,bC.of g],?_];refine dc (K:=K) (as:=qs) (F:=bO K) (bO K) id g qx () (λh s=>h.same s) (λh s=>h.same s) ?_ ?_
  ·rintro i2 c x H' NY NN ec s' nc k1;exists #[_,rfl,.inr (.inl #[(),c,nc,λr H2 s2 n2=>k1 _ _ s2 n2])]
  rintro ys H2 l hl s2 g2 pr _;rw[iE] at pr;exact k l H2 hl s2 #[ys,g2,pr]
 ·obtain ⟨j,rfl⟩:∃j,i=j+1:=#[i - 1,()];obtain xs|g|qx|_:=id Gp;have lx:=qx.9;exists .inl #[_,true,.lst g,rfl,?_];exists #[#[_,bC.of g],?_];refine dc (K:=K) (as:=rs) (F:=dq K H0) (dq K H) id g qx () (λh s=>h.same s) (λh s=>h.same s) ?_ ?_
  ·rintro i2 c x H' NY NN ec s' ⟨q,rfl,nq,Rq⟩ k1;exists #[_,rfl,.inr (.inr (.inl #[(),q,c,rfl,Rq,w100 c (ar ec),λr H2 nr s2 R2=>k1 _ _ s2 #[r,rfl,s'.none nr,R2]]))]
  rintro ys H2 l hl s2 g2 pr nx;rw[iE] at pr nx;exact k l H2 hl s2 #[ys,g2,pr,jC nx]
 ·obtain ⟨j,rfl⟩:∃j,i=j+1:=#[i - 1,()];exists .inr #[t,_,false,rfl,st,rfl,?_];exists .inr #[t,_,true,rfl,st,rfl,?_];exists #[#[_,st],?_];refine C7 (K:=K) (as:=ds) (F:=A7 K H0) (A7 K H) id st pd () (λh s=>h.same s) (λh s=>h.same s) ?_ ?_
  ·rintro i2 c x H' NY NN ec s' ec' k1;obtain ok|lv:=hok c (ar ec);walk_at "w";cases c with
   | fl v =>
    obtain rfl:x=v:=ec';exact #[_,rfl,.inl #[ok,λH2 s2=>k1 _ _ s2 rfl]]
   | nm q=>exact #[_,rfl,.inr (.inl #[af (show 1<=m from lv) (),q,ec',λr H2 s2 n2=>k1 _ _ s2 n2])]
   | inn e rs qs =>
    have lv:4<=m:=lv;obtain u|a|p|y|rfl|gu|ne|⟨np,Gp⟩|ny|Ry:=ec';refine #[_,rfl,.inr (.inr (.inr (.inr #[3,(),u,_,H0,[.fl (.str (Str.ofString "puts")),.nm e,.grid rs,.row qs],rfl,j8.of gu,.cons rfl (.cons ne (.cons #[p,rfl,np,Gp] (.cons #[y,rfl,ny,Ry] .nil))),(show 4<=10 by decide),λd hd=>?_,λr ys H2 s2 g2 pr2=>k1 _ _ s2 ?_])))]
    ·simp only[aD,aO,or_false] at hd;rcases hd with rfl | rfl | rfl | rfl
     ·exact #[rfl,()]
     ·exact #[True.intro,(show 1<=3 by decide)]
     ·exact #[ok.1,ah _]
     ·exact #[ok.2,(show 2<=3 by decide)]
    ·obtain v1|v2|v3|v4|rfl|rfl|N2|⟨p2,rfl,np2,Gp2⟩|y2|rfl|ny2|Ry2:=Qr pr2;obtain a2|rfl|_:=id N2;exact #[r,a2,p2,y2,rfl,g2,N2,#[s'.none np2,Gp2.weak s'],s'.none ny2,Ry2]
   | row qs =>
    have lv:2<=m:=lv;obtain p|rfl|np|Rp:=ec';exact #[_,rfl,.inr (.inr (.inl #[(),p,qs,rfl,Rp,ok,λr H2 nr s2 R2=>k1 _ _ s2 #[r,rfl,s'.none nr,R2]]))]
   | grid rs =>
    have lv:3<=m:=lv;obtain p|rfl|np|Gp:=ec';exact #[_,rfl,.inr (.inr (.inr (.inl #[(),p,H0,rs,rfl,Gp,ok.1,ok.2,λr H2 nr s2 G2=>k1 _ _ s2 #[r,rfl,s'.none nr,G2.weak s']])))]
  rintro ys H2 l hl s2 g2 pr _;rw[iE] at pr;have ly:=pr.9;exists #[l,_,rfl,.inl #[bC.of g2,λr hr=>?_]];exact k r ys _ (s2.trans (aH.new hr)) aK (Paired.imp' (λ_ _ z=>A7.same z (aH.new hr)) pr)
theorem Em (T:Txt K mg Z) (ptree:P.given.tree=none):oN P w K mg base FC 6 Z.uv Z.uo ["_law_thing"] (xo K 5):=uV T ptree 5
theorem ph:sC ["_law_thing","_law_one"] 1 qN:=by walk_at "d"
theorem tZ (T:Txt K mg Z) (ptree:P.given.tree=none):∀i:Nat,oN P w K mg base FC (0+i+1) Z.rG Z.rB ["_law_thing"] (vg K i)
| 0=>T.gY.F.ok ph (λvs H Q E h=>(show False from h).elim) (λcdv A outer s H vs Q E hr h=>(show False from h).elim)
| i+1=>by
 have Fv:=tZ T ptree i;refine T.gY.F.k ph ?_;walk_at "i";obtain x|rfl|h:=h
 refine #[_,(ao (cN (gV (ba Mo (by rfl) T.isinstance PyProof.Rows.boot_isinstance (cH bL (cP (cH (yN (v:=.ty "list") rfl T.list PyProof.Rows.boot_list rfl) (yN (v:=.ty "tuple") rfl T.tuple PyProof.Rows.boot_tuple rfl)))))) (az (dF PassesOwn.never rfl (TJ bL) (eX 1 ph.nd)
   (az (iK (yM Fv (hr.mono ()) rfl T.gY.m T.gY.F.kp T.gY.b .nil CP (c4 cM)))))) bI)
  (az (cN (gV (qW rfl T.isinstance PyProof.Rows.boot_list T.list bL)) (az (iK (tT cI c6 c5 jN bL (c4 (cP (cH ai ai)))))) bI))),?_]
 walk_at "s"
 try rw[ib]
 exists bR λtp H1 s1 g1=>?_
 rcases h with ⟨fx,k⟩ | ⟨hi,n,nq,k⟩ | ⟨hi,p,zs,rfl,gp,l500,hz,k⟩ | ⟨hi,p,us,rfl,gp,l100,pu,hu,k⟩ | ⟨m9,hi,t,xs,ews,rfl,st,pd,l10,hok,dj,k⟩
 ·walk_at "w";cases x with
  | non =>
   refine #[_,tp,rfl,g1,.inl #[_,false,.non,rfl,?_]];exists .inl #[_,false,.non,rfl,?_];exists k _ s1
  | bl v =>
   refine #[_,tp,rfl,g1,.inl #[_,false,.bl v,rfl,?_]];exists .inl #[_,false,.bl v,rfl,?_];exists k _ s1
  | int v =>
   refine #[_,tp,rfl,g1,.inl #[_,false,.int v,rfl,?_]];exists .inl #[_,false,.int v,rfl,?_];exists k _ s1
  | str v =>
   refine #[_,tp,rfl,g1,.inl #[_,false,.str v,rfl,?_]];exists .inl #[_,false,.str v,rfl,?_];exists k _ s1
  | _=>exact absurd (show false=true from fx) bf
 ·obtain ⟨j,rfl⟩:∃j,i=j+1:=#[i - 1,()];obtain p|rfl|sq:=id nq;have sq1:=s1.sqt sq;exists #[_,tp,rfl,g1,.inr #[p,_,rfl,sq1,?_]];walk_at "w";unfold Og;exists .inr #[#[_,sq1],?_];refine EA (K:=K) (a:=p) (xs:=[V.int n.1,V.int n.2]) (λi σ' H'=>aH H1 H'/\∃y,σ'=[some (.ref p),y]) #[aH.refl _,_,rfl] (λi σ' H' _ #[s,_]=>s.sqt sq1) ?_ ?_
  ·rintro i2 x σ' H2 hx ⟨s2,y,rfl⟩;have hm:=ar hx
   have fx:pY x=true:=by
    simp only[aD,aO,or_false] at hm;rcases hm with rfl | rfl <;> rfl
   exists #[_,rfl,.inl #[fx,λH3 s3=>#[s2.trans s3,_,rfl]]]
  rintro σ' H2 ⟨s2,y,rfl⟩;exists .inr #[p,_,false,rfl,s2.sqt sq1,rfl,?_];exists k _ (s1.trans s2)
 ·obtain ⟨j,rfl⟩:∃j,i=j+1:=#[i - 1,()];have gp1:=s1 _ _ gp;exists #[_,tp,rfl,g1,.inl #[_,true,.lst gp1,rfl,?_]];walk_at "w";unfold Og;exists .inl #[#[_,bC.of gp1],?_];refine gP (K:=K) (a:=p) (xs:=zs) (λi σ' H'=>aH H1 H'/\∃y,σ'=[some (.ref p),y]) #[aH.refl _,_,rfl] (λi σ' H' _ #[s,_]=>bC.of (s _ _ gp1)) ?_ ?_
  ·rintro i2 x σ' H2 hx ⟨s2,y,rfl⟩;obtain n|nx:=hz x (ar hx);exists #[_,rfl,.inr (.inl #[(),n,(s1.trans s2).num nx,λH3 s3=>#[s2.trans s3,_,rfl]])]
  rintro σ' H2 ⟨s2,y,rfl⟩;have gp2:=s2 _ _ gp1;exists .inl #[_,true,.lst gp2,rfl,?_];exists #[.inl #[rfl,_,bC.of gp2],?_];exists bR λt7 H3 s3 g3=>?_
  walk_at "w";have gp3:=s3 _ _ gp2;refine iX gp3 (dA ()) ?_;exists k t7 _ ((Kp.of ((s1.trans s2).trans s3)).trans (Kp.upd gp3 rfl)) (by rw[bG λz=>by rw[z,gp3] at g3;cases g3];exact g3) aK
 ·obtain ⟨j,rfl⟩:∃j,i=j+1:=#[i - 1,()];have gp1:=s1 _ _ gp;exists #[_,tp,rfl,g1,.inl #[_,true,.lst gp1,rfl,?_]];walk_at "w";unfold Og;exists .inl #[#[_,bC.of gp1],?_];refine gP (K:=K) (a:=p) (xs:=us) (λi σ' H'=>Kp (λa=>V.ref a∈us) H H'/\H' p=some (.lst us)/\(∀y∈us,∃q zs,y=.ref q/\H' q=some (.lst zs)/\zs.9<=100+i/\∀z∈zs,∃n,xa K H' z n)/\∃y,σ'=[some (.ref p),y]) #[.of s1,gp1,λy hy=>?_,_,rfl] (λi σ' H' _ #[_,g,_]=>bC.of g) ?_ ?_
  ·obtain q|zs|a1|a2|a3|a4:=hu y hy;exact #[q,zs,a1,s1 _ _ a2,a3,λz hz=>by obtain n|hn:=a4 z hz;exact #[n,s1.num hn]]
  ·rintro i2 x σ' H2 hx ⟨k2,g2,hu2,y,rfl⟩;have mx:=ar hx;have hi2:i2 < us.9:=(aJ.mp hx).1;obtain q|zs|rfl|gq|lz|hz:=hu2 x mx;have qp:p≠q:=λz=>pu (by rw[z];exact mx)
   exists #[_,rfl,.inr (.inr (.inl #[(),q,zs,rfl,gq,(),hz,λt7 H3 k3 g7 gq3=>?_]))];refine #[k2.trans (k3.mono λa e=>by rw[e];exact mx),k3 _ _ g2 (.inl qp),λy' hy'=>?_,_,rfl];obtain q'|zs'|rfl|gq'|lz'|hz':=hu2 y' hy';by_cases e:q'=q
   ·subst e;refine #[q',_,rfl,gq3,by rw[aj,bg];rw[gq] at gq';cases gq';lia,λz mz=>?_];rcases av.mp mz with mz | mz
    ·obtain n|hn:=hz z mz;exact #[n,k3.numR hn]
    ·rw[bh.mp mz];exact #[(7,1),t7,rfl,j8.of g7]
   ·exact #[q',zs',rfl,k3 _ _ gq' (.inl e),(),λz mz=>by obtain n|hn:=hz' z mz;exact #[n,k3.numR hn]]
  rintro σ' H2 ⟨k2,gp2,_,y,rfl⟩;exists .inl #[_,true,.lst gp2,rfl,?_];exists #[.inl #[rfl,_,bC.of gp2],?_];exists bR λt7 H3 s3 g3=>?_
  walk_at "w";have gp3:=s3 _ _ gp2;refine iX gp3 (dA ()) ?_;exists k _ (((k2.mono λa e=>.inr e).trans (Kp.of s3)).trans (Kp.upd gp3 (.inl rfl)))
 ·obtain ⟨j,rfl⟩:∃j,i=j+1:=#[i - 1,()];have st1:=s1.sqt st;have lx:=pd.9;exists #[_,tp,rfl,g1,.inr #[t,_,rfl,st1,?_]];walk_at "w";unfold Og;exists .inr #[#[_,st1],?_];refine EA (K:=K) (a:=t) (xs:=xs) (λi σ' H'=>Kp (λa=>∃e∈ews,e.2 a) H H'/\(∀m e v,i<=m->ews[m]?=some e->xs[m]?=some v->My K e.2 H' e.1 v)/\∃y,σ'=[some (.ref t),y]) #[.of s1,λm e v _ he hv=>?_,_,rfl] (λi σ' H' _ #[k2,_]=>k2.sqt st) ?_ ?_
  ·obtain e'|he'|el:=bW pd hv;rw[he] at he';cases he';exact el.kp (S:=λ_=>False) (.of s1) (λ_ _ z=>z)
  ·rintro i2 x σ' H2 hx ⟨k2,hel,y,rfl⟩;obtain e|he|_:=bW pd hx;have el:=hel i2 e x (ah _) he hx;have me:=ar he;obtain ok|lv:=hok e me;have nxt:∀H3,Kp e.2 H2 H3->∀m e' v,i2+1<=m->ews[m]?=some e'->xs[m]?=some v->My K e'.2 H3 e'.1 v:=λH3 k3 m e' v hm he' hv=>(hel m e' v () he' hv).kp k3 λa h1 h2=>dj i2 m e e' () he he' a h1 h2
   have upk:∀H3,Kp e.2 H2 H3->Kp (λa=>∃e∈ews,e.2 a) H H3:=λH3 k3=>k2.trans (k3.mono λa h=>#[e,me,h])
   walk_at "w";obtain d|W:=e;cases d with
   | fl v =>
    obtain rfl:x=v:=el;exact #[_,rfl,.inl #[ok,λH3 s3=>#[upk H3 (.of s3),nxt H3 (.of s3),_,rfl]]]
   | nm q=>exact #[_,rfl,.inr (.inl #[af (show 1<=m9 from lv) (),_,el,λH3 s3=>#[upk H3 (.of s3),nxt H3 (.of s3),_,rfl]])]
   | inn e9 rs qs =>
    have lv:4<=m9:=lv;obtain u|a9|p|y9|W1|W2|rfl|gu|ne|u1|u2|d12|E1|E2:=el;refine #[_,rfl,.inr (.inr (.inr (.inr #[3,(),u,_,[(.fl (.str (Str.ofString "puts")),λ_=>False),(.nm e9,λ_=>False),(.grid rs,W1),(.row qs,W2)],rfl,j8.of gu,.cons rfl (.cons ne (.cons E1 (.cons E2 .nil))),(show 4<=10 by decide),λd hd=>?_,λi j f f' hij hf hf' a h1 h2=>?_,λH3 k3=>?_])))]
    ·simp only[aD,aO,or_false] at hd;rcases hd with rfl | rfl | rfl | rfl
     ·exact #[rfl,aW _]
     ·exact #[True.intro,(show 1<=3 by decide)]
     ·exact #[ok.1,ah _]
     ·exact #[ok.2,(show 2<=3 by decide)]
    ·match i,j,hij,hf,hf' with
     | 0,_,_,hf,_=>cases hf;exact h2
     | 1,_,_,hf,_=>cases hf;exact h2
     | 2,3,_,hf,hf'=>cases hf;cases hf';exact d12 a h1 h2
     | 2,j+4,_,_,hf'=>cases hf'
     | 3,j+4,_,_,hf'=>cases hf'
     | i+4,_,_,hf,_=>cases hf
    ·have k3':Kp W H2 H3:=k3.mono λa #[f,mf,wf]=>by
      simp only[aD,aO,or_false] at mf;rcases mf with rfl | rfl | rfl | rfl
      ·exact wf.elim
      ·exact wf.elim
      ·exact u1 a wf
      ·exact u2 a wf
     exact #[upk H3 k3',nxt H3 k3',_,rfl]
   | row qs =>
    have lv:2<=m9:=lv;obtain p|rfl|wp|zs|gz|qz:=el;have lz:=qz.9;have ok:qs.9<=100:=ok;refine #[_,rfl,.inr (.inr (.inl #[(),p,zs,rfl,gz,(),λz mz=>?_,λt7 H3 k3 _ _=>?_]))]
    ·obtain c|_|nc:=dN qz mz;exact #[_,nc]
    ·have k3':Kp W H2 H3:=k3.mono λa e=>by rw[e];exact wp
     exact #[upk H3 k3',nxt H3 k3',_,rfl]
   | grid rs =>
    have lv:3<=m9:=lv;obtain p|us|rfl|wp|gu|nu|qu:=el;have lu:=qu.9;have ok1:rs.9<=100:=ok.1;refine #[_,rfl,.inr (.inr (.inr (.inl #[(),p,us,rfl,gu,(),nu,λy my=>?_,λH3 k3=>?_])))]
    ·obtain qs|mq|q|rfl|_|zs|gz|qz:=dN qu my;have lz:=qz.9;have:=ok.2 qs mq;exact #[q,zs,rfl,gz,(),λz mz=>by obtain c|_|nc:=dN qz mz;exact #[_,nc]]
    ·have k3':Kp W H2 H3:=k3.mono λa e=>by
      rcases e with e | e
      ·rw[e];exact wp
      ·obtain qs|_|q|eq|wq|_:=dN qu e;cases eq;exact wq
     exact #[upk H3 k3',nxt H3 k3',_,rfl]
  rintro σ' H2 ⟨k2,_,y,rfl⟩;exists .inr #[t,_,false,rfl,k2.sqt st,rfl,?_];exists k _ k2
theorem BA (T:Txt K mg Z) (ptree:P.given.tree=none):oN P w K mg base FC 6 Z.rG Z.rB ["_law_thing"] (vg K 5):=tZ T ptree 5
theorem iW:sC ["_law_parts_here","_law_steps_here","_law_rows","_law_some","_law_turn"] 2 qU:=by walk_at "d"
theorem pP (T:Txt K mg Z) (ptree:P.given.tree=none):T.iZ.o P w base 5 (CL K):=by
 refine T.iZ.F.k iW ?_;walk_at "i";obtain r|tt|H0|mv|pt|lk|rfl|hT|PQ|D|AF|k:=h
 refine #[_,(ao (nB 2 ["_law_row_here"] [] [] iW.nd rfl rfl (cC (aS br bL ai)) (λ_=>(eX 0)) (λ_=>cA) (λ_=>(dB (dI K (by rfl)) (by rfl) T.list PyProof.Rows.boot_list (c4 bL))))
  (ao (d6 3 iW.nd (dG jy))
  (ao (dF PassesOwn.never rfl (cu rfl T.range (c4 cM)) (eX 4 iW.nd)
   (ao (d6 3 iW.nd (bD ni fX eo))
  (az (nB 2 ["_law_row_here"] ["_law_parts_here"] [0] iW.nd rfl rfl (cC eo) (λ_=>(eX 0)) (λ_=>cA) (λ_=>(cw (vG T ptree) hr T.lS (cH (aS (rn K (by rfl)) cM ai) bL)))))))
  (az (aT fX))))),?_]
 walk_at "s"
 try rw[ib]
 have d1:=D.n8;have i4:=D.i4;obtain m|p|l|g|n1|n2|n3|Gm|Gp|Gl:=id PQ;obtain up|gp|qp|_:=id Gp;have lup:=qp.9;exists #[#[_,bC.of gp],?_];refine dc (K:=K) (F:=dq K H0) (dq K H) id gp qp () (λa b=>a.same b) (λa b=>a.same b) ?_ ?_
 ·rintro i ns x H' NY NN en s ⟨u,rfl,_,zs,gz,qz⟩ k1;exists #[u,zs,rfl,.inl (bC.of gz),λl1 hl1=>?_];exact k1 _ _ (aH.new hl1) #[l1,rfl,s.none hl1,zs,aK,Paired.imp' (λ_ _ z=>z.same (aH.new hl1)) qz]
 rintro ys1 H1 rq1 hr1 s1 g1 pr1 nx1;rw[iE] at pr1 nx1;have G1:bu K H H1 rq1 pt:=#[ys1,g1,pr1,jC nx1];exists c7 λsm0 H2 s2 nf gf=>?_
 have s02:=s1.trans s2;exists #[(),(),?_];refine dO (n:=tt) (λt σ' H'=>aH H H'/\∃rq sm y,σ'=[some (.ref r),some (.int tt),some (.ref rq),some (.ref sm),y]/\H sm=none/\bu K H H' sm (kry mv pt t)/\bu K H H' rq (pt.map (ia mv t))) #[s02,rq1,sm0,_,rfl,s1.none nf,#[[],gf,.nil,λz=>nomatch z],by rw[show pt.map (ia mv 0)=pt from iE pt];exact G1.same s2] ?_ ?_
 ·rintro t σ' H' ht ⟨s',rq,sm,y,rfl,nsm,Gs,Gq⟩;obtain us|gu|pu|_:=id Gs;obtain zs|gz|qz|_:=id Gq;have lz:=qz.9;rw[ag] at lz;have lu:=pu.9;rw[gM] at lu;have lb:t*pt.9<=20*4:=aw () i4;exists ou gu gz mR λcc H3 s3 nc gc=>?_
  have ek:kry mv pt (t+1)=kry mv pt t++pt.map (ia mv t):=by
   rw[<- jS,yS,fA,jS];simp
  have Gc:bu K H H3 cc (kry mv pt (t+1)):=by
   rw[ek];exact #[_,gc,Paired.imp' (λ_ _ z=>dq.same z s3) (bM pu qz),jC #[H',nc,bM pu qz]]
  have s03:=s'.trans s3;have g3:=s03 _ _ g;exists #[#[_,bC.of (s3 _ _ gz)],?_];refine dc (K:=K) (F:=dq K H) (dq K H) (rV mv) (s3 _ _ gz) (Paired.imp' (λ_ _ z=>dq.same z s3) qz) (by rw[ag];lia) (λa b=>a.same b) (λa b=>a.same b) ?_ ?_
  ·rintro i ns v Ha NY NN en sa ⟨u,rfl,_,Ru⟩ k1;have mn:=ar en;obtain y0|hy0|rfl:=aA.mp mn;have wy:=D.pw y0 hy0;have ga:=sa _ _ g3;exists #[m,u,H0,mv,_,rfl,(Gm.same s03).same sa,Ru,(),by rw[jf wy];lia,λxs hx=>#[by rw[D.mw xs hx,jf wy],((AF.row D.mw D.pw y0 hy0).fit D.mw wy (show t<=tt by lia)).1 xs hx],λz Hj nz sj Rz=>k1 _ _ sj #[z,rfl,s03.none (sa.none nz),Rz]]
  ·rintro ys Hb rr hrr sb gb prb nxb;have e:(pt.map (ia mv t)).map (rV mv)=pt.map (ia mv (t+1)):=by rw[o9];rfl
   rw[e] at prb nxb;exact #[s03.trans sb,rr,cc,_,rfl,s'.none nc,Gc.same sb,ys,gb,prb,jC nxb]
 ·rintro σ' H' ⟨s',rq,sm,y,rfl,nsm,Gs,Gq⟩;exists k sm H' nsm s' Gs
theorem DX:sC ["_law_one","_law_other"] 2 tK:=by walk_at "d"
theorem El (T:Txt K mg Z) (ptree:P.given.tree=none):T.nU.o P w base 2 (qF K (λx y=>x - y)):=by
 refine T.nU.F.ok DX (λvs H Q E h=>?_) (λcdv A outer s H vs Q E hr h=>?_)
 ·obtain p|q|a|b|c|d|rfl|hp|hq|hb|hd|sa|sb|sc|sd|k:=yK h;rfl
 ·obtain p|q|a|b|c|d|rfl|hp|hq|hb|hd|sa|sb|sc|sd|k:=yK h;refine #[_,(az (aT (cw (gG T ptree) hr T.d7 (cH (bD jz (bD cR (aS br bL ai) (aS br cM ai)) (bD cR (aS br cM ai) (aS br bL ai))) (bD cR (aS br bL ai) (aS br cM ai)))))),?_];refine oq (σ:=[some (.ref p),some (.ref q)]) rfl ?_
  try rw[ib]
  have hbd:0 < b*d:=iF hb hd;have sbd:Sz 8999000 (b*d):=(sb.mul sd).mono ();exists fU (show fZ _ _ from .inr #[_,_,sa,sd,()]) ?_;exists fU (show fZ _ _ from .inr #[_,_,sc,sb,()]) ?_;exists fU (show fZ _ _ from .inr #[_,_,sb,sd,()]) ?_;walk_at "w";exists #[_,_,rfl,hbd,sbd,k]
theorem Br:sC ["_law_one","_law_other"] 2 qR:=by walk_at "d"
theorem md (T:Txt K mg Z) (ptree:P.given.tree=none):T.gZ.o P w base 3 (xn K):=by
 refine T.gZ.F.k Br ?_;walk_at "i";obtain p|q|xs|ys|rfl|hp|hq|hl|hz|h1|h2|kk:=h;refine #[_,(az (aT (cn ["_law_k"] ["_law_one","_law_other"] [0,1] (cu rfl T.range (c4 (ba aR (by rfl) T.len aL (c4 bL)))) (λ_=>(eX 0)) (λ_=>cA) (λ_=>(cw (El T ptree) hr T.nU (cH (aS (jH K (by rfl)) cM bL) (aS (jH K (by rfl)) eo bL))))))),?_];walk_at "s"
 try rw[ib]
 obtain us|gu|qu:=id hp;obtain ws|gw|qw:=id hq;have lu:=qu.9;exists #[_,_,rfl,.inl (bC.of gu),?_];exists #[(),(),?_];refine jQ (n:=us.9) (bO K) (λi=>xs.getD i 0 - ys.getD i 0) () (λa b=>a.same b) ?_ ?_
 ·rintro i H' NY NN hi s k1;have ix:i < xs.9:=()
  have iy:i < ys.9:=()
  obtain vx|ex|nx:=Eu (Paired.imp' (λ_ _ z=>z.same s) qu) ix;obtain vy|ey|ny:=Eu (Paired.imp' (λ_ _ z=>z.same s) qw) iy;exists b7 (bC.of (s _ _ gu)) ex ?_;exists b7 (bC.of (s _ _ gw)) ey ?_;exists #[_,_,_,_,rfl,nx,ny,h1 _ (getD_mem ix),h2 _ (getD_mem iy),λr3 H3 s3 n3=>k1 _ _ s3 n3]
 ·rintro ys' H' l hl' s g pr nx;exact kk l H' hl' s #[ys',g,by rw[IT ()];rw[<- lu] at pr;exact pr]
theorem l9:sC ["_law_parts_here","_law_start","_law_steps_here","_law_state","_law_turn"] 3 qT:=by walk_at "d"
theorem uX (T:Txt K mg Z) (ptree:P.given.tree=none):T.j5.o P w base 5 (CK K):=by
 refine T.j5.F.k l9 ?_;walk_at "i";obtain r|s|tt|H0|mv|pt|lk|st|rfl|hT|PQ|D|Rs|ls|AF|k:=h
 refine #[_,(ao (d6 3 l9.nd (dB (dI K (by rfl)) (by rfl) T.list PyProof.Rows.boot_list (c4 cM)))
  (ao (dF PassesOwn.never rfl (cu rfl T.range (c4 eo)) (eX 4 l9.nd)
   (az (d6 3 l9.nd (cw (vG T ptree) hr T.lS (cH (aS br bL ai) fX)))))
  (az (aT fX)))),?_]
 walk_at "s"
 try rw[ib]
 have d1:=D.n8;obtain m|p|l|g|n1|n2|n3|Gm|Gp|Gl:=id PQ;obtain ss|gs|qs:=id Rs;exists #[s,ss,rfl,.inl (bC.of gs),λc hc=>?_];have sc:aH H (upd H c (.lst ss)):=aH.new hc;have Rc:bK K (upd H c (.lst ss)) c st:=#[ss,aK,Paired.imp' (λ_ _ z=>z.same sc) qs];generalize upd H c (.lst ss)=Hc at sc Rc ⊢;exists #[(),(),?_];refine dO (n:=tt) (λi σ' H'=>aH H H'/\∃q y,σ'=[some (.ref r),some (.ref s),some (.int tt),some (.ref q),y]/\H q=none/\bK K H' q (ia mv i st)) #[sc,c,_,rfl,hc,Rc] ?_ ?_
 ·rintro i σ' H' hi ⟨e,q,y,rfl,nq,Rq⟩;have ge:=e _ _ g;exists #[m,q,H0,mv,_,rfl,Gm.same e,Rq,(),by rw[jf ls];lia,λxs hx=>#[by rw[D.mw xs hx,jf ls],(AF.fit D.mw ls (show i<=tt by lia)).1 xs hx],λq2 H2 n2 s2 R2=>?_];exact #[e.trans s2,q2,_,rfl,e.none n2,R2]
 ·rintro σ' H' ⟨e,q,y,rfl,nq,Rq⟩;exists k q H' nq e Rq
theorem DS:sC ["_law_one","_law_other"] 2 tu:=by walk_at "d"
theorem Ef (T:Txt K mg Z) (ptree:P.given.tree=none):T.nM.o P w base 2 (zx K):=by
 refine T.nM.F.ok DS (λvs H Q E h=>?_) (λcdv A outer s H vs Q E hr h=>?_)
 ·obtain p|q|a|b|c|d|rfl|hp|hq|hb|hd|hc|sa|sb|sc|sd|k:=Gr h;rfl
 ·obtain p|q|a|b|c|d|rfl|hp|hq|hb|hd|hc|sa|sb|sc|sd|k:=Gr h
  refine #[_,(ao (cN (be tW (aS br cM ai) ai (bo _)) (az (aT (cw (gG T ptree) hr T.d7 (cH (bD jz ai (bD cR (aS br bL ai) (aS br cM ai))) (bD jz ai (bD cR (aS br bL ai) (aS br cM ai))))))) bI)
   (az (aT (cw (gG T ptree) hr T.d7 (cH (bD cR (aS br bL ai) (aS br cM ai)) (bD cR (aS br bL ai) (aS br cM ai))))))),?_]
  refine oq (σ:=[some (.ref p),some (.ref q)]) rfl ?_
  try rw[ib]
  have sbc:Sz 8999000 (b*c):=(sb.mul sc).mono ();exists iO (λh=>?_) (λh=>?_)
  ·have h0:c < 0:=of_decide_eq_true h;have hbc:b*c < 0:=vN hb h0;exists fU (show fZ _ _ from .inr #[_,_,sa,sd,()]) ?_;exists fU (show fZ _ _ from .inr #[_,_,sb,sc,()]) ?_;exists #[_,_,rfl,(),by rw[Int.zero_sub];exact sbc.neg,λr H' s' h'=>?_];exact k r H' s' (by rw[if_pos h0,if_pos h0];exact h')
  ·have h0:¬c < 0:=λz=>h (decide_eq_true z)
   have hbc:0 < b*c:=iF hb ();exists fU (show fZ _ _ from .inr #[_,_,sa,sd,()]) ?_;exists fU (show fZ _ _ from .inr #[_,_,sb,sc,()]) ?_;exists #[_,_,rfl,hbc,sbc,λr H' s' h'=>?_];exact k r H' s' (by rw[if_neg h0,if_neg h0];exact h')
theorem fI:sC ["_law_rows","_law_wide","_law_left","_law_found","_law_place","_law_heads","_law_head"] 2 tL:=by walk_at "d"
theorem wF (T:Txt K mg Z) (ptree:P.given.tree=none):T.kY.o P w base 4 (zE K):=by
 refine T.kY.F.k fI ?_;walk_at "i";obtain p|n|S|H0|rows|rfl|G|r100|n100|hw|⟨e39,J,j0,jskip,jlean,jlw,jsz⟩|k:=h
 refine #[_,(ao (d6 2 fI.nd (cn ["_law_row_here"] [] [] (cC bL) (λ_=>(eX 0)) (λ_=>cA) (λ_=>(dB (dI K (by rfl)) (by rfl) T.list PyProof.Rows.boot_list (c4 bL)))))
  (ao (d6 3 fI.nd (dG jy))
  (ao (dF PassesOwn.never rfl (cu rfl T.range (c4 cM)) (eX 4 fI.nd)
   (ao (nB 5 ["_law_k"] ["_law_left","_law_place"] [2,4] fI.nd rfl rfl (cu rfl T.range (c4 (ba aR (by rfl) T.len aL (c4 eo)))) (λ_=>(eX 0)) (λ_=>TL (be (Qx K (by rfl) (AN hr)) (aS (jH K (by rfl)) (aS (jH K (by rfl)) cM bL) eo) (cP (cH ai ai)) (bo _))) (λ_=>bL))
  (az (cN (be (vE (AN hr)) qo (dG jy) (bo _)) (ao (d6 6 fI.nd (tT cI PySem.F.slot_list_pop PySem.F.type_list_pop NQ eo (c4 (aS bE qo ai))))
  (ao (d6 6 fI.nd (cw (oB T ptree) hr T.jG (cH (cw (Ef T ptree) hr T.nM (cH (cP (cH ai ai)) (aS bE nY mU))) nY)))
  (ao (d6 2 fI.nd (cn ["_law_row_here"] ["_law_place","_law_head"] [4,6] (cC eo) (λ_=>(eX 0)) (λ_=>cA) (λ_=>(cw (md T ptree) hr T.gZ (cH bL (cw (oB T ptree) hr T.jG (cH (aS (jH K (by rfl)) bL cM) eo)))))))
  (ao (nB 3 ["_law_row_here"] ["_law_place","_law_head"] [4,6] fI.nd rfl rfl (cC fX) (λ_=>(eX 0)) (λ_=>cA) (λ_=>(cw (md T ptree) hr T.gZ (cH bL (cw (oB T ptree) hr T.jG (cH (aS (jH K (by rfl)) bL cM) eo))))))
  (az (iK (tT cI c6 c5 jN fX (c4 nY)))))))) bI))))
  (az (aT fX))))),?_]
 walk_at "s"
 try rw[ib]
 obtain xs|gx|qx|_:=id G;have szT:∀{D:Nat} {x:Rat},0 < D->D<=2^S->Tp D (2^S) x->i5 x:=λh0 h1 t=>jV t h0 (af h1 (ak () ())) (ak () ())
 have szP:∀{D D':Nat} {x y:Rat},0 < D->0 < D'->D<=2^S->D'<=2^S->Tp D (2^S) x->Tp D' (2^S) y->i5 (x*y):=λh0 h0' h1 h1' t t'=>jV (t.mul t') (aM h0 h0') (af (aw h1 h1') (by rw[<- ax];exact ak () ())) (by rw[<- ax];exact ak () ())
 exists #[#[_,bC.of gx],?_];refine dc (K:=K) (F:=dq K H0) (dq K H) id gx qx () (λa b=>a.same b) (λa b=>a.same b) ?_ ?_
 ·rintro i ns x H' NY NN en s ⟨u,rfl,_,zs,gz,qz⟩ k1;exists #[u,zs,rfl,.inl (bC.of gz),λl1 hl1=>?_];exact k1 _ _ (aH.new hl1) #[l1,rfl,s.none hl1,zs,aK,Paired.imp' (λ_ _ z=>z.same (aH.new hl1)) qz]
 rintro ys1 H1 L hL s1 g1 pr1 nx1;rw[iE] at pr1 nx1;have GL1:bu K H H1 L rows:=#[ys1,g1,pr1,jC nx1];exists c7 λfd H2 s2 nf gf=>?_
 have fdL:fd≠L:=λz=>by rw[z,g1] at nf;cases nf
 clear g1 pr1 nx1;exists #[(),(),?_];refine dO (n:=n) (λP σ' H'=>aH H H'/\∃lp fp ls fs ps vs y1 y2 y3,σ'=[some (.ref p),some (.int n),some (.ref lp),some (.ref fp),y1,y2,y3]/\H lp=none/\H fp=none/\fp≠lp/\bu K H H' lp ls/\H' fp=some (.lst vs)/\Paired (pS K (λq=>(H q=none/\q≠fp)/\q≠lp) H') fs vs/\fs.9=ps.9/\J P (fs++ls) ps) #[s1.trans s2,L,fd,rows,[],[],[],_,_,_,rfl,hL,s1.none nf,fdL,GL1.same s2,gf,.nil,rfl,j0] ?_ ?_
 ·rintro P σ' H' hP ⟨s',lp,fp,ls,fs,ps,vs,y1,y2,y3,rfl,nlp,nfp,fl,GL,gv,pv,hf,JI⟩;have I:=jlw _ _ _ JI;have len:=I.len;rw[aj] at len;have wide:=I.wide;obtain us|gu|qu|nu:=id GL;have lu:=qu.9;have lv:=pv.length
  have szI:∀{i:Nat},i < rows.9->∀c,i5 (bV (fs++ls) i c):=λhi c=>by
   obtain D|D0|D1|D2:=jsz _ _ _ JI () _ hi;exact szT D0 D1 (D2 c)
  have ez:∀i,(ls.map λr=>r.getD P 0).getD i 0=bV ls i P:=λi=>NU
  exists #[_,_,rfl,.inl (bC.of gu),?_];rw[<- lu];exists #[(),(),?_];refine rC (n:=ls.9) (λi ys H''=>aH H' H''/\ys=il (QE (ls.map λr=>r.getD P 0) i)) mR #[aH.refl _,rfl] ?_ ?_
  ·rintro i ys Hb hi hlen ⟨sb,rfl⟩;rw[yZ];obtain xt|vt|et|evt|mt|qt|rfl|nqt|Rt:=fu (Paired.imp' (λ_ _ z=>dq.same z sb) qu) hi;have wt:=wide xt (av.mpr (.inr mt));obtain zs|gz|qz:=id Rt;obtain vx|ex|nx:=Eu qz (j:=P) ();have fx:(ls.map λr=>r.getD P 0).getD i 0=xt.getD P 0:=by rw[ez];unfold bV;rw[aa (l:=ls),et];rfl
   exists b7 (bC.of (sb _ _ gu)) (fJ evt) ?_;exists b7 (bC.of gz) ex ?_;exists bR λt0 Hc sc gc=>?_
   exists #[_,_,AL,xt.getD P 0,0,(),nx.same sc,bO.mk (q:=0) gc rfl,?_];by_cases e:xt.getD P 0=0
   ·rw[decide_eq_true e];exists #[sb.trans sc,?_];rw[KI,fx,if_neg (by simpa using e)]
   ·rw[decide_eq_false e];exists #[sb.trans sc,?_];rw[KI,fx,if_pos e];unfold il;rw[cO];rfl
  rintro ys Hb hy ⟨sb,rfl⟩ hd hhd;have nzm:∀c,c∈QE (ls.map λr=>r.getD P 0) ls.9↔c < ls.9/\bV ls c P≠0:=λc=>by rw[TU,ez]
  generalize QE (ls.map λr=>r.getD P 0) ls.9=hs at hy hhd nzm;have sn:aH Hb (upd Hb hd (.lst (il hs))):=aH.new hhd;have gh:(upd Hb hd (.lst (il hs))) hd=some (.lst (il hs)):=aK;generalize upd Hb hd (.lst (il hs))=Hc at sn gh ⊢;have sbc:=sb.trans sn;exists c7 λem Hd sd nd gd=>?_
  exists #[_,_,QK QL,AM hs,AM [],(),CW (sd _ _ gh),CW gd,?_];have sbd:=sbc.trans sd;by_cases e0:hs=[]
  ·subst e0;rw[decide_eq_true rfl];exists #[s'.trans sbd,lp,fp,ls,fs,ps,vs,_,_,_,rfl,nlp,nfp,fl,GL.same sbd,sbd _ _ gv,Paired.imp' (λ_ _ z=>pS.same z sbd) pv,hf,jskip _ _ _ JI λi h1 h2=>?_];rw[aj] at h2;obtain ⟨j,rfl⟩:∃j,i=fs.9+j:=#[i - fs.9,()];rw[vK];by_cases z:bV ls j P=0
   ·exact z
   ·exact absurd ((nzm j).mpr #[(),z]) (by simp)
  ·rw[decide_eq_false (λz=>e0 (Od z))]
   obtain ⟨t,hs',rfl⟩:∃t hs',hs=t :: hs':=by cases hs with
    | nil=>exact absurd rfl e0
    | cons t r=>exact #[t,r,rfl]
   obtain tl|hne:=(nzm t).mp (.head _);have gud:=sbd _ _ gu;obtain xt|vt|et|evt|mt|qt|rfl|nqt|Rt:=fu (Paired.imp' (λ_ _ z=>dq.same z sbd) qu) tl;have ext:ls.getD t []=xt:=by rw[aa,et];rfl
   have hne':xt.getD P 0≠0:=by unfold bV at hne;rw[ext] at hne;exact hne
   have wt:=wide xt (av.mpr (.inr mt));have qtl:qt≠lp:=λz=>nu (by rw[<- z];exact ar evt)
   exists #[.inl #[rfl,_,bC.of gud],?_];exists b7 (bC.of (sd _ _ gh)) (fJ (j:=0) rfl) ?_;exists #[lp,us,t,t,_,rfl,rfl,gud,(),(),PySem.StrLaws.seqIndex_nonneg () (),evt,?_];have s0e:aH H (upd Hd lp (.lst (us.eraseIdx t))):=(s'.trans sbd).after nlp;obtain us'|gu'|pu':=(GL.same sbd).toE;have eus:us'=us:=by rw[gud] at gu';cases gu';rfl
   subst eus;have ple:Paired (pS K (λq=>H q=none/\q≠lp) (upd Hd lp (.lst (us'.eraseIdx t)))) (ls.eraseIdx t) (us'.eraseIdx t):=we (Paired.imp' (λ_ _ z=>pS.updL z gud (λq h=>h.2)) pu') t;have gle:(upd Hd lp (.lst (us'.eraseIdx t))) lp=some (.lst (us'.eraseIdx t)):=aK;have gve:(upd Hd lp (.lst (us'.eraseIdx t))) fp=some (.lst vs):=by rw[bG fl];exact sbd _ _ gv
   have pve:Paired (pS K (λq=>(H q=none/\q≠fp)/\q≠lp) (upd Hd lp (.lst (us'.eraseIdx t)))) fs vs:=Paired.imp' (λ_ _ z=>pS.updL (pS.same z sbd) gud (λq h=>h.2)) pv;have Re:bK K (upd Hd lp (.lst (us'.eraseIdx t))) qt xt:=Rt.updL gud qtl;generalize upd Hd lp (.lst (us'.eraseIdx t))=He at s0e ple gle gve pve Re ⊢;clear pu' gu' gud Rt;have I2:=jlean _ _ _ _ _ JI hf tl hP (by rw[ext];exact hne');rw[ext] at I2
   have rowD:∀r∈fs++ls,∃D:Nat,0 < D/\D<=2^S/\∀c,Tp D (2^S) (r.getD c 0):=λr hr=>by
    obtain i|hi|rfl:=aX hr;obtain D|D0|D1|D2:=jsz _ _ _ JI () i (by rw[aj] at hi;lia);refine #[D,D0,D1,λc=>?_];have:=D2 c;unfold bV at this;rw[aa (l:=fs++ls),ae hi] at this;exact this
   have szr:∀r∈fs++ls,∀y∈r,i5 y:=λr hr y hy=>by
    obtain D|D0|D1|D2:=rowD r hr;obtain c|hc|rfl:=aX hy;have:=D2 c;rw[aa,ae hc] at this;exact szT D0 D1 this
   have mxt:xt∈fs++ls:=av.mpr (.inr mt);have lu2:(pX P xt).9=n:=by unfold pX;rw[ag];exact wt
   obtain ⟨Du,Du0,Du1,Du2⟩:∃D:Nat,0 < D/\D<=2^S/\∀y∈pX P xt,Tp D (2^S) y:=by
    obtain D|D0|D1|D2:=jsz _ _ _ I2 () ps.9 ();refine #[D,D0,D1,λy hy=>?_];obtain c|hc|rfl:=aX hy;have:=D2 c;rw[cz,show ps.9=(fs.map (Ay P (pX P xt))).9+0 by rw[ag];lia,vK] at this
    have e:bV ([pX P xt]++(ls.eraseIdx t).map (Ay P (pX P xt))) 0 c=(pX P xt)[c]:=by
     show (pX P xt).getD c 0=_
     rw[aa,ae hc];rfl
    rw[e] at this;exact this
   have szu:∀y∈pX P xt,i5 y:=λy hy=>szT Du0 Du1 (Du2 y hy)
   have szp:∀r∈fs++ls,∀y∈pX P xt,i5 (r.getD P 0*y):=λr hr y hy=>by
    obtain D|D0|D1|D2:=rowD r hr;exact szP D0 Du0 D1 Du1 (D2 P) (Du2 y hy)
   obtain zs|gz|qz:=id Re;obtain vx|ex|nx:=Eu qz (j:=P) ();have szx:i5 (xt.getD P 0):=szr xt mxt _ (getD_in ());exists bR λtq Hf sf gf=>?_
   exists b7 (bC.of (sf _ _ gz)) ex ?_;exists #[_,_,1,xt.getD P 0,rfl,bO.mk (q:=1) gf rfl,nx.same sf,Pk,szx,hne',λqr Hg sg nq=>?_];have sfg:=sf.trans sg;exists #[_,qt,1 / xt.getD P 0,xt,rfl,nq,Pl szx hne',Re.same sfg,(),szr xt mxt,λur Hh nur sh Rur=>?_];have Rur:bK K Hh ur (pX P xt):=Rur;have seh:=sfg.trans sh;have s0h:=s0e.trans seh;have nur0:H ur=none:=(s0e.trans sfg).none nur;exists #[#[_,bC.of (seh _ _ gle)],?_];refine dc (K:=K) (F:=pS K (λq=>H q=none/\q≠lp)) (dq K H) (Ay P (pX P xt)) (seh _ _ gle) (Paired.imp' (λ_ _ z=>pS.same z seh) ple) (by rw[Sw tl];lia) (λa b=>a.same b) (λa b=>a.same b) ?_ ?_
   ·rintro i ns x Hi NY NN en si ⟨q,rfl,nq0,Rq⟩ k1;have mn:ns∈fs++ls:=av.mpr (.inr (UM (ar en)));have wn:=wide ns mn;obtain zs2|gz2|qz2:=id Rq;obtain vx2|ex2|nx2:=Eu qz2 (j:=P) ();exists b7 (bC.of gz2) ex2 ?_;exists #[_,ur,ns.getD P 0,pX P xt,rfl,nx2,szr ns mn _ (getD_in ()),Rur.same si,(),szu,λb1 Hj nb1 sj Rb=>?_];exists #[q,b1,ns,_,rfl,Rq.same sj,Rb,by rw[ag];lia,(),szr ns mn,λy hy=>?_,λr2 Hk nr2 sk Rk=>?_]
    ·obtain y'|hy'|rfl:=aA.mp hy;exact szp ns mn y' hy'
    ·exact k1 _ _ (sj.trans sk) #[r2,rfl,s0h.none (si.none (sj.none nr2)),Rk]
   rintro yl Hk lp2 hlp2 sk gk prk nxk;have s0k:=s0h.trans sk;have Gk:bu K H Hk lp2 ((ls.eraseIdx t).map (Ay P (pX P xt))):=#[yl,gk,prk,jC nxk];have Ruk:=Rur.same sk;exists #[#[_,bC.of (sk _ _ (seh _ _ gve))],?_];refine dc (K:=K) (F:=pS K (λq=>(H q=none/\q≠fp)/\q≠lp)) (dq K Hk) (Ay P (pX P xt)) (sk _ _ (seh _ _ gve)) (Paired.imp' (λ_ _ z=>pS.same (pS.same z seh) sk) pve) () (λa b=>a.same b) (λa b=>a.same b) ?_ ?_
   ·rintro i ns x Hi NY NN en si ⟨q,rfl,nq0,Rq⟩ k1;have mn:ns∈fs++ls:=av.mpr (.inl (ar en));have wn:=wide ns mn;obtain zs2|gz2|qz2:=id Rq;obtain vx2|ex2|nx2:=Eu qz2 (j:=P) ();exists b7 (bC.of gz2) ex2 ?_;exists #[_,ur,ns.getD P 0,pX P xt,rfl,nx2,szr ns mn _ (getD_in ()),Ruk.same si,(),szu,λb1 Hj nb1 sj Rb=>?_];exists #[q,b1,ns,_,rfl,Rq.same sj,Rb,by rw[ag];lia,(),szr ns mn,λy hy=>?_,λr2 Hl nr2 sl Rl=>?_]
    ·obtain y'|hy'|rfl:=aA.mp hy;exact szp ns mn y' hy'
    ·exact k1 _ _ (sj.trans sl) #[r2,rfl,si.none (sj.none nr2),Rl]
   rintro yf Hl fp2 hfp2 sl gl prl nxl;have lyf:=prl.9;rw[ag] at lyf;have nfp2:H fp2=none:=s0k.none hfp2;have nlp2:H lp2=none:=s0h.none hlp2;have fl2:fp2≠lp2:=λz=>by rw[z,gk] at hfp2;cases hfp2
   have urk:Hk ur≠none:=by obtain _|gg|_:=Ruk;rw[gg];exact λz=>nomatch z
   have urf:ur≠fp2:=λz=>urk (by rw[z];exact hfp2)
   have url:ur≠lp2:=λz=>by obtain _|gg|_:=Rur;rw[z,hlp2] at gg;cases gg
   exists #[.inl #[rfl,_,bC.of gl],?_];exists iX gl (dA ()) ?_;refine #[(s0k.trans sl).after nfp2,lp2,fp2,_,_,ps++[P],_,_,_,_,rfl,nlp2,nfp2,fl2,?_,aK,?_,by rw[aj,aj,ag];show fs.9+1=ps.9+1;lia,I2]
   ·obtain ul|gul|pul:=Gk.toE;refine bu.ofE (P:=λq=>(H q=none/\q≠lp2)/\q≠fp2) (by rw[bG (Ne.symm fl2)];exact sl _ _ gul) (Paired.imp' (λ_ _ #[q,e1,e2,e3]=>?_) pul) (λq h=>h.1.1) (λq h=>h.1.2);have qf:q≠fp2:=λz=>by obtain _|gg|_:=e3;rw[z,hfp2] at gg;cases gg
    exact #[q,e1,#[e2,qf],(bK.same e3 sl).updL gl qf]
   ·have nn:=jC nxl;refine bM (tV (λxs v hv #[q,e1,e2,e3]=>?_) prl) (.cons #[ur,rfl,#[#[nur0,urf],url],(Ruk.same sl).updL gl urf] .nil);have qf:q≠fp2:=λz=>nn (by rw[<- z,<- e1];exact hv)
    exact #[q,e1,#[#[s0k.none e2,qf],λz=>by rw[z,gk] at e2;cases e2],bK.updL e3 gl qf]
 ·rintro σ' H' ⟨s',lp,fp,ls,fs,ps,vs,y1,y2,y3,rfl,nlp,nfp,fl,GL,gv,pv,hf,JI⟩;have I:=jlw _ _ _ JI;have D:=I.done hw;rw[List.take_left' hf] at D;obtain km|_:=I.km;exists k fp fs ps H' nfp s' (bu.ofE gv pv (λq h=>h.1.1) (λq h=>h.1.2)) D km
theorem oO:sC ["_law_thing","_law_part"] 1 lN:=by walk_at "d"
theorem oS (T:Txt K mg Z) (ptree:P.given.tree=none):T.gL.o P w base 2 (Lr K):=by
 refine T.gL.F.k oO ?_;walk_at "i";obtain x|n|rfl|⟨p,rfl,hp⟩|hn|k:=h
 refine #[_,(ao (cN (PW.pt (ow (jW (gV (qW rfl T.isinstance PyProof.Rows.boot_tuple T.tuple bL))) (kJ (be uU (ba aR (by rfl) T.len aL (c4 bL)) ai (bo _))))) (az (aT mM)) bI)
  (ao (dF PassesOwn.never rfl (NG bL) (eX 1 oO.nd)
   (az (cN (PW.pt (ow (jW (gV (qW rfl T.isinstance PyProof.Rows.boot_int T.int cM))) (kJ (gV (qW rfl T.isinstance PyProof.Rows.boot_bool T.bool cM))))) (az (aT mM)) bI)))
  (az (aT (xJ (jh tY (aS br bL ai) ai (bo _)) (Ai (jh (D7 (AN hr)) (cw (gG T ptree) hr T.d7 (cH (aS br bL ai) (aS br bL ai))) bL (bo _)))))))),?_]
 walk_at "s"
 try rw[ib]
 obtain hb|hg|_|hs:=hn;exists .inr #[p,_,_,rfl,hp,rfl,?_];exists #[_,_,rfl,.inr hp,?_];walk_at "w"
 try refine QM ?_
 exists #[#[_,hp],?_];refine EA (K:=K) (a:=p) (xs:=[.int n.1,.int n.2]) (λi σ' H'=>H'=H/\∃x,σ'=[some (.ref p),x]) #[rfl,none,rfl] (λi σ' H' _ #[e,_]=>by subst e;exact hp) ?_ ?_
 ·rintro i x σ' H' hx ⟨rfl,y,rfl⟩
  obtain ⟨z,rfl⟩:∃z,x=V.int z:=by
   have hm:x∈[V.int n.1,V.int n.2]:=ar hx;simp only[aD,aO,or_false] at hm;rcases hm with e | e
   ·exact #[_,e]
   ·exact #[_,e]
  exists .inl #[_,_,.int z,rfl,?_];exists .inl #[_,_,.int z,rfl,?_];exists #[rfl,_,rfl]
 ·rintro σ' H' ⟨rfl,x,rfl⟩;walk_at "w";rw[decide_eq_true hb];exists #[n.1,n.2,rfl,hb,hs.mono (),λr H' s1 h'=>?_];obtain e1|e2:=TY hb hg;exists #[_,_,Vy,(lo n.1 n.2,hi n.1 n.2),n,(),#[r,rfl,j8.of h'],#[p,rfl,s1.sqt hp],?_];rw[e1,e2,decide_eq_true rfl];exact k _ s1
theorem zR:sC ["_law_thing","_law_many"] 2 pK:=by walk_at "d"
theorem oz (T:Txt K mg Z) (ptree:P.given.tree=none):T.iq.o P w base 3 (xp K):=by
 refine T.iq.F.k zR ?_;walk_at "i";obtain p|ns|rfl|hp|hl|hn|k:=h
 refine #[_,(ao (cN (PW.pt (ow (jW (gV (vC rfl T.isinstance PyProof.Rows.boot_list T.list bL))) (kJ (be uU (ba aR (by rfl) T.len aL (c4 bL)) cM (bo _))))) (az (aT mM)) bI)
  (az (aT (ba (AZ rfl) (by rfl) T.all PyProof.Rows.boot_all (c4 (cn ["_law_one"] [] [] (cC bL) (λ_=>(eX 0)) (λ_=>cA) (λ_=>(cw (oS T ptree) hr T.gL (c4 bL))))))))),?_]
 walk_at "s"
 try rw[ib]
 obtain xs|gx|qx:=id hp;have lx:=qx.9;exists #[_,_,.lst gx,rfl,?_];exists #[_,_,rfl,.inl (bC.of gx),?_];walk_at "w";rw[show ((xs.9:Nat):Int)=(ns.9:Nat) by rw[lx],decide_eq_true rfl];exists #[#[_,bC.of gx],?_];refine iu (K:=K) (xs:=xs) (λi ys H'=>aH H H'/\ys=List.replicate i (.bl true)) mR #[aH.refl _,rfl] (λi ys H' _ #[s,_]=>bC.of (s _ _ gx)) ?_ ?_
 ·rintro i x ys H' hx hlen ⟨s,rfl⟩;obtain n|en|z:=bW qx hx;exists #[x,n,rfl,s.num z,hn n (ar en),λH2 s2=>#[s.trans s2,by rw[rT]]]
 ·rintro ys H' hy ⟨s,rfl⟩ l hl';exists #[l,List.replicate xs.9 true,rfl,bC.of (by rw[aK];simp),?_];have e4:(List.replicate xs.9 true).all id=true:=by simp
  rw[e4];exact k _ (s.trans (aH.new hl'))
theorem sS:sC ["_law_parts_here","_law_start","_law_goal_here","_law_steps_here","_law_price","_law_row_here"] 5 pH:=by walk_at "d"
theorem Aq (T:Txt K mg Z) (ptree:P.given.tree=none):T.kU.o P w base 6 (zy K):=by
 refine T.kU.F.k sS ?_;walk_at "i";obtain r|s|g0|p0|tt|H0|mv|pt|lk|st|go|pr|rfl|hT|PQ|D|Rs|ls|Rg|lg|Rp|lpr|PF|hz|h1|k:=h
 refine #[_,(ao (cN (jW (gV (cw (oz T ptree) hr T.iq (cH mU (ba aR (by rfl) T.len aL (c4 (aS br bL ai))))))) (az (aT mM)) bI)
  (ao (dF PassesOwn.never rfl (cC (cw (pP T ptree) hr T.iZ (cH bL fX))) (eX 5 sS.nd)
   (az (cN (be (vE (AN hr)) (cw (oT T ptree) hr T.jF (cH mU qo)) (cP (cH ai ai)) (bo _)) (az (aT mM)) bI)))
  (az (aT (jh (D7 (AN hr)) (cw (oT T ptree) hr T.jF (cH mU (cw (md T ptree) hr T.gZ (cH eo (cw (uX T ptree) hr T.j5 (qq bL cM fX)))))) (cP (cH ai ai)) (bo _)))))),?_]
 walk_at "s"
 try rw[ib]
 have d8:=D.n8;have i4:=D.i4;obtain m|p|l|g|n1|n2|n3|Gm|Gpt|Gl:=id PQ;obtain um|gm|qm|_:=id Gm;have lum:=qm.9;exists #[_,_,rfl,.inl (bC.of gm),?_];rw[<- lum];exists #[p0,pr.map nm,by rw[ag,lpr],Rp.rowK,by rw[ag];lia,λv hv=>?_,λH2 s2=>?_]
 ·obtain v|mv'|rfl:=aA.mp hv;exact DB (PF.sr v mv')
 exists #[r,tt,H0,mv,pt,lk,rfl,hT,PQ.same s2,D,PF.ad,λq H3 nq s3 Gq=>?_];obtain us|gu|qu|_:=id Gq;have wk:=dX (mv:=mv) (pt:=pt) rfl D.pw tt;have s03:=s2.trans s3;exists #[#[_,bC.of gu],?_];refine gP (K:=K) (a:=q) (xs:=us) (λi σ' H'=>aH H3 H'/\∃x1,σ'=[some (.ref r),some (.ref s),some (.ref g0),some (.int tt),some (.ref p0),x1]) #[aH.refl _,_,rfl] (λi σ' H' _ #[e,_]=>bC.of (e _ _ gu)) ?_ ?_
 ·rintro i v σ' H' hv ⟨e,x1,rfl⟩;obtain row|er|u|rfl|_|Ru:=bW qu hv;have mr:=ar er;have wr:=wk row mr;have e3:=s03.trans e;have dz:bJ pr row=0:=by rw[GX ()];exact hz row mr
  exists #[p0,u,pr,row,rfl,Rp.same e3,bK.same Ru e,(),(),PF.f1 row mr,λd1 H4 s4 N4=>?_];rw[dz] at N4;exists bR λt5 H5 s5 g5=>?_
  exists #[_,_,AL,0,0,(),N4.same s5,bO.mk (q:=0) g5 rfl,?_];rw[decide_eq_true rfl];exists #[(e.trans s4).trans s5,_,rfl]
 ·rintro σ' H' ⟨e,x1,rfl⟩;have e3:=s03.trans e;exists #[r,s,tt,H0,mv,pt,lk,st,rfl,(),PQ.same e3,D,Rs.same e3,ls,PF.al,λal H4 n4 s4 R4=>?_];have lpw:=jf (mv:=mv) ls tt;exists #[g0,al,go,_,rfl,(Rg.same e3).same s4,R4,by rw[lpw,lg],(),PF.sg,(PF.al.fit D.mw ls (ah _)).2,λlq H5 n5 s5 R5=>?_];have R5:bK K H5 lq (cL mv tt st go):=R5;have ll:=oE (T:=tt) ls lg;have e5:=(e3.trans s4).trans s5;exists #[p0,lq,pr,_,rfl,Rp.same e5,R5,(),(),PF.f2,λd1 H6 s6 N6=>?_];rw[h1] at N6;exists bR λt7 H7 s7 g7=>?_
  exists #[_,_,AL,1,1,(),N6.same s7,bO.mk (q:=1) g7 rfl,?_];rw[decide_eq_true rfl];exact k _ ((e5.trans s6).trans s7)
theorem yB:sC ["_law_thing","_law_many","_law_wide"] 3 oo:=by walk_at "d"
theorem yC (T:Txt K mg Z) (ptree:P.given.tree=none):T.j6.o P w base 4 (zG K):=by
 refine T.j6.F.k yB ?_;walk_at "i";obtain p|rows|m|rfl|hp|hl|hm|hn|k:=h
 refine #[_,(ao (cN (PW.pt (ow (jW (gV (vC rfl T.isinstance PyProof.Rows.boot_list T.list bL))) (kJ (be uU (ba aR (by rfl) T.len aL (c4 bL)) cM (bo _))))) (az (aT mM)) bI)
  (az (aT (ba (AZ rfl) (by rfl) T.all PyProof.Rows.boot_all (c4 (cn ["_law_row_here"] ["_law_wide"] [2] (cC bL) (λ_=>(eX 0)) (λ_=>cA) (λ_=>(cw (oz T ptree) hr T.iq (cH bL cM))))))))),?_]
 walk_at "s"
 try rw[ib]
 obtain xs|gx|qx:=id hp;have lx:=qx.9;exists #[_,_,.lst gx,rfl,?_];exists #[_,_,rfl,.inl (bC.of gx),?_];walk_at "w";rw[show ((xs.9:Nat):Int)=(rows.9:Nat) by rw[lx],decide_eq_true rfl];exists #[#[_,bC.of gx],?_];refine iu (K:=K) (xs:=xs) (λi ys H'=>aH H H'/\ys=List.replicate i (.bl true)) mR #[aH.refl _,rfl] (λi ys H' _ #[s,_]=>bC.of (s _ _ gx)) ?_ ?_
 ·rintro i x ys H' hx hlen ⟨s,rfl⟩;obtain ns|en|q|rfl|z:=bW qx hx;obtain e1|e2:=hn ns (ar en);exists #[q,ns,by rw[e1],z.same s,(),e2,λH2 s2=>#[s.trans s2,by rw[rT]]]
 ·rintro ys H' hy ⟨s,rfl⟩ l hl';exists #[l,List.replicate xs.9 true,rfl,bC.of (by rw[aK];simp),?_];have e4:(List.replicate xs.9 true).all id=true:=by simp
  rw[e4];exact k _ (s.trans (aH.new hl'))
theorem Bs:sC ["_law_parts_here","_law_start","_law_goal_here","_law_steps_here","_law_puts_here"] 5 qS:=by walk_at "d"
theorem BF (T:Txt K mg Z) (ptree:P.given.tree=none):T.mF.o P w base 7 (CG K):=by
 refine T.mF.F.k Bs ?_;walk_at "i";obtain r|s|g0|p0|tt|H0|H1|mv|pt|lk|pus|st|go|rfl|hT|PQ|D|Rs|ls|Rg|Gp|lp|wp|EF|est|k:=h
 refine #[_,(ao (cN (jW (gV (cw (yC T ptree) hr T.j6 (qq mU fX (ba aR (by rfl) T.len aL (c4 (aS br bL ai))))))) (az (aT mM)) bI)
  (az (aT (jh (D7 (AN hr)) (cw (yo T ptree) hr T.mQ (qq bL cM mU)) eo (bo _))))),?_]
 walk_at "s"
 try rw[ib]
 have i4:=D.i4;obtain m|p|l|g|n1|n2|n3|Gm|Gpt|Gl:=id PQ;obtain up|gp|qp|_:=id Gpt;have lup:=qp.9;have lm1:(pus.map (List.map nm)).9=tt:=by rw[ag];exact lp
 exists #[_,_,rfl,.inl (bC.of gp),?_];rw[<- lup];exists #[p0,_,pt.9,by rw[lm1],Gp.gridK,by rw[lm1];lia,(),λns' hx=>?_,λH2 s2=>?_]
 ·obtain xs|mx|rfl:=aA.mp hx;refine #[by rw[ag];exact wp xs mx,λv hv=>?_];obtain v|mv'|rfl:=aA.mp hv;exact DB (EF.sznP xs mx v mv')
 exists #[r,s,p0,H0,H1,mv,pt,lk,pus,st,rfl,PQ.same s2,D,Rs.same s2,ls,Gp.same s2,(),wp,EF,λt3 H3 n3' s3 R3=>?_];rw[lp,est] at R3;exists #[_,_,GU,go,go,(),R3.kind,((Rg.same s2).same s3).kind,?_];rw[decide_eq_true rfl];exact k _ (s2.trans s3)
theorem jx:sC ["_law_weights_here","_law_puts_here","_law_total","_law_row_here","_law_k"] 2 pL:=by walk_at "d"
theorem As (T:Txt K mg Z) (ptree:P.given.tree=none):T.k6.o P w base 3 (M5 K):=by
 refine T.k6.F.k jx ?_;walk_at "i";obtain p|q|ws|rows|H0|rfl|hp|hq|hl|hf|k:=h
 refine #[_,(ao (d6 2 jx.nd (cP (cH ai ai)))
  (ao (dF PassesOwn.never rfl (cC cM) (eX 3 jx.nd)
   (az (dF PassesOwn.never rfl (cu rfl T.range (c4 (ba aR (by rfl) T.len aL (c4 fX)))) (eX 4 jx.nd)
   (az (d6 2 jx.nd (cw (kv T ptree) hr T.gJ (cH eo (cw (iL T ptree) hr T.eO (cH (aS bE bL mU) (cw (iL T ptree) hr T.eO (cH (aS bE fX mU) (aS bE fX mU))))))))))))
  (az (aT eo)))),?_]
 walk_at "s"
 try rw[ib]
 obtain _|_|_|_|_|_|_|_|_|_|_|_|h8|l20:=id hf;obtain xs|gx|qx|_:=id hq;obtain us|gu|qu:=id hp;have lx:=qx.9;exists bR λr0 H1 s1 g1=>?_
 exists #[#[_,bC.of (s1 _ _ gx)],?_];refine gP (K:=K) (a:=q) (xs:=xs) (λi σ' H'=>aH H H'/\∃(r:V) (x y:Option V),σ'=[some (.ref p),some (.ref q),some r,x,y]/\bO K H' (BG ws (rows.take i)) r) #[s1,_,none,none,rfl,bO.mk g1 rfl] (λi σ' H' _ #[s,_]=>bC.of (s _ _ gx)) ?_ ?_
 ·rintro i x σ' H' hx ⟨s,r,x1,y1,rfl,nr⟩;obtain qs|eq|t|rfl|_|Rt:=bW qx hx;have hm:=ar eq;obtain zs|gz|qz:=id Rt;have lz:=qz.9;have lq:=hl qs hm;exists #[_,_,rfl,.inl (bC.of (s _ _ gz)),?_];exists #[(),(),?_];refine dO (n:=zs.9) (λj σ' H'=>aH H H'/\∃(r:V) (y:Option V),σ'=[some (.ref p),some (.ref q),some r,some (.ref t),y]/\bO K H' (BG ws (rows.take i)+bJ (ws.take j) ((lF qs).take j)) r) #[s,_,_,rfl,by rw[show bJ (ws.take 0) ((lF qs).take 0)=0 by simp [bJ],ke];exact nr] ?_ ?_
  ·rintro j σ' H2 hj ⟨s2,r2,y2,rfl,n2⟩;have jw:j < ws.9:=()
   have jq:j < qs.9:=()
   obtain vw|ew|nw:=Eu (Paired.imp' (λ_ _ z=>z.same s2) qu) jw;obtain vx|ex|nx:=Eu (Paired.imp' (λ_ _ z=>z.same s2) qz) jq;obtain z1|z2|z3|z4:=hf.num hm (getD_mem jq) (getD_mem jw);exists b7 (bC.of (s2 _ _ gu)) ew ?_;exists b7 (bC.of (s2 _ _ gz)) ex ?_;exists b7 (bC.of (s2 _ _ gz)) ex ?_;exists #[_,_,_,_,rfl,nx,nx,z1,z1,λr3 H3 s3 n3=>?_];exists #[_,_,_,_,rfl,nw.same s3,n3,z2,z3,λr4 H4 s4 n4=>?_];exists #[_,_,_,_,rfl,(n2.same s3).same s4,n4,hf.take i j qs hm,z4,λr5 H5 s5 n5=>?_];exists #[((s2.trans s3).trans s4).trans s5,_,_,rfl,?_];rw[xU () (by unfold lF;rw[ag];lia),<- Rat.add_assoc]
   have e:(lF qs).getD j 0=qs.getD j 0*qs.getD j 0:=by
    unfold lF;rw[getD_map jq,aa,ae jq];rfl
   rw[e];exact n5
  ·rintro σ' H2 ⟨s2,r2,y2,rfl,n2⟩;rw[aE (show ws.9<=zs.9 by lia),aE (show (lF qs).9<=zs.9 by unfold lF;rw[ag];lia)] at n2;exact #[s2,_,_,_,rfl,by rw[take_snoc eq,QV];exact n2]
 ·rintro σ' H' ⟨s,r,x1,y1,rfl,nr⟩;rw[aE ()] at nr;obtain t|rfl|ht:=nr;exists k _ H' s #[t,rfl,ht]
theorem jK:sC ["_law_parts_here","_law_weights_here","_law_puts_here","_law_price","_law_rows","_law_ins","_law_t","_law_k","_law_row_here"] 4 td:=by walk_at "d"
theorem Ee (T:Txt K mg Z) (ptree:P.given.tree=none):T.nK.o P w base 6 (Cv K):=by
 refine T.nK.F.k jK ?_;walk_at "i";obtain r|q|p|y|tt|H0|H1|mv|pt|lk|pus|ws|pr|rfl|PQ|D|AF|Rq|lw|Gp|t12|Ry|F|k:=h
 refine #[_,(ao (d6 4 jK.nd (cw (pP T ptree) hr T.iZ (cH bL (ba aR (by rfl) T.len aL (c4 eo)))))
  (ao (d6 5 jK.nd (ba aR (by rfl) T.len aL (c4 (aS br bL ai))))
  (ao (dF PassesOwn.never rfl (cu rfl T.range (c4 (ba aR (by rfl) T.len aL (c4 eo)))) (eX 6 jK.nd)
   (az (dF PassesOwn.never rfl (cu rfl T.range (c4 qo)) (eX 7 jK.nd)
   (ao (d6 8 jK.nd (aS bE mU (bD fV (bD cR (bD jz (bD jz (ba aR (by rfl) T.len aL (c4 eo)) nY) ai) qo) qj)))
  (az (cN (be (vE (AN hr)) (cw (iL T ptree) hr T.eO (cH (aS bE cM qj) (aS bE (aS bE eo nY) qj))) (cw (oT T ptree) hr T.jF (cH fX vA)) (bo _)) (az (aT mM)) bI))))))
  (az (aT mM))))),?_]
 walk_at "s"
 try rw[ib]
 have d8:=D.n8;have i4:=D.i4;have lp:=F.lp;have wp:=F.wp;have lr:=F.lr;have TF:=SH (mv:=mv) (pt:=pt) (ws:=ws) (pr:=pr) lp;have kl:=gM (mv:=mv) (pt:=pt) tt;have wk:=dX (mv:=mv) (pt:=pt) rfl D.pw tt;obtain vs|gp|qp|_:=id Gp;have lv:=qp.9;obtain m|p'|l'|gr|n1|n2|n3|Gm|Gp'|Gl':=id PQ;obtain up|gpt|qpt|_:=id Gp';have lup:=qpt.9;exists #[_,_,rfl,.inl (bC.of gp),?_];rw[show vs.9=tt by lia];exists #[r,tt,H0,mv,pt,lk,rfl,(),PQ,D,AF,λrq H2 n2 s2 G2=>?_];have gr2:=s2 _ _ gr;exists #[_,_,rfl,.inl (bC.of (s2 _ _ gpt)),?_];rw[<- lup];exists #[_,_,rfl,.inl (bC.of (s2 _ _ gp)),?_];rw[show vs.9=tt by lia];exists #[(),(),?_];refine dO (n:=tt) (λi σ' H'=>aH H2 H'/\(∃y1 y2 y3,σ'=[some (.ref r),some (.ref q),some (.ref p),some (.ref y),some (.ref rq),some (.int pt.9),y1,y2,y3])/\∀t k,t < i->k < pt.9->ws.getD k 0*(pus.getD t []).getD k 0=bJ (ia mv (tt - t - 1) (pt.getD k [])) pr) #[aH.refl _,#[_,_,_,rfl],λ_ _ h=>absurd h (dw _)] ?_ ?_
 ·rintro i σ' H' hi ⟨s',⟨y1,y2,y3,rfl⟩,hT⟩;exists #[(),(),?_];refine dO (n:=pt.9) (λj σ' H''=>aH H2 H''/\(∃y2 y3,σ'=[some (.ref r),some (.ref q),some (.ref p),some (.ref y),some (.ref rq),some (.int pt.9),some (.int i),y2,y3])/\∀k,k < j->ws.getD k 0*(pus.getD i []).getD k 0=bJ (ia mv (tt - i - 1) (pt.getD k [])) pr) #[s',#[_,_,rfl],λ_ h=>absurd h (dw _)] ?_ ?_
  ·rintro j σ' H3 hj ⟨s3,⟨y2,y3,rfl⟩,hJ⟩;have s03:=s2.trans s3;obtain vs'|gp3|qp3|_:=Gp.same s03;have lv3:=qp3.9;obtain vr|gr3|qr3|_:=G2.same s3;have lr3:=qr3.9;obtain wv|gw|qw:=Rq.same s03;have lwv:=qw.9
   have km:(tt - i - 1)*pt.9+pt.9<=tt*pt.9:=by
    rw[<- dm];exact ay _ ()
   exists #[_,_,rfl,.inl (bC.of gp3),?_];rw[show vs'.9=tt by lia];exists fU (E4 () ()) ?_;walk_at "w";rw[show (((tt:Int) - (i:Int) - 1)*(pt.9:Int)+(j:Int))=(((tt - i - 1)*pt.9+j:Nat):Int) by rw[Int.natCast_add,Int.natCast_mul,Int.natCast_sub (),Int.natCast_sub ()];rfl];have er:=Oa (mv:=mv) (pt:=pt) (s:=tt - i - 1) (k:=j) (T:=tt) () hj
   obtain ⟨v4,e4,u4,rfl,_,R4⟩:∃v,vr[(tt - i - 1)*pt.9+j]?=some v/\dq K H H3 (ia mv (tt - i - 1) (pt.getD j [])) v:=by
    obtain row|v|a|b|_|f:=fu qr3 (i:=(tt - i - 1)*pt.9+j) ();rw[er] at a;cases a;exact #[v,b,f]
   refine b7 (bC.of gr3) (v:=.ref u4) (fJ e4) ?_;obtain w5|v5|ew5|ev5|mw5|nw5:=fu qw (i:=j) ();obtain row6|v6|er6|ev6|mr6|u6|rfl|_|R6:=fu qp3 (i:=i) ();obtain zv|gz|qz:=id R6;have lz:=qz.9;have lo:=wp row6 mr6;obtain x7|v7|ex7|ev7|mx7|nx7:=fu qz (i:=j) ();exists b7 (bC.of gw) (fJ ev5) ?_;exists b7 (bC.of gp3) (fJ ev6) ?_;exists b7 (bC.of gz) (fJ ev7) ?_;exists #[_,_,w5,x7,rfl,nw5,nx7,F.sw w5 mw5,F.su row6 mr6 x7 mx7,λr8 H8 s8 N8=>?_];have mk:ia mv (tt - i - 1) (pt.getD j [])∈kry mv pt tt:=ar er;exists #[y,u4,pr,_,rfl,Ry.same (s03.trans s8),R4.same s8,by rw[wk _ mk,lr],(),F.dk _ mk,λr9 H9 s9 N9=>?_];exists #[_,_,AL,_,_,(),N8.same s9,N9,?_];have e5:ws.getD j 0=w5:=by rw[aa,ew5];rfl
   have e6:(pus.getD i []).getD j 0=x7:=by rw[aa (l:=pus),er6,yz,aa,ex7];rfl
   have s39:=s8.trans s9;by_cases hc:w5*x7=bJ pr (ia mv (tt - i - 1) (pt.getD j []))
   rotate_left
   ·rw[decide_eq_false hc];exists k false H9 (s03.trans s39) #[λz=>(by cases z),λz=>absurd (by rw[<- e5,<- e6,TF.mp z i j hi hj,C4]) hc]
   rw[decide_eq_true hc];exists #[s3.trans s39,#[_,_,rfl],λk' hk'=>?_];rcases bZ k' j with z | z
   ·exact hJ k' z
   ·obtain rfl:k'=j:=()
    rw[e5,e6,hc,C4]
  ·rintro σ' H3 ⟨s3,⟨y2,y3,rfl⟩,hJ⟩;refine #[s3,#[_,_,_,rfl],λt' k' h1 h2=>?_];rcases bZ t' i with z | z
   ·exact hT t' k' z h2
   ·obtain rfl:t'=i:=()
    exact hJ k' h2
 ·rintro σ' H' ⟨s',⟨y1,y2,y3,rfl⟩,hT⟩;exists k true H' (s2.trans s') #[λ_=>TF.mpr hT,λ_=>rfl]
theorem iV:sC ["_law_system_here","_law_parts_here","_law_weights_here","_law_start","_law_goal_here","_law_steps_here","_law_handed","_law_found","_law_n","_law_rows","_law_lack"] 6 qO:=by walk_at "d"
theorem BC (T:Txt K mg Z) (ptree:P.given.tree=none):T.mC.o P w base 10 (zo K Z.a_System):=by
 refine T.mC.F.k iV ?_;walk_at "i";obtain x|r|q|s|g|tt|a|c|H0|H1|mv|pt|lk|ws|st|go|rfl|t12|S|PQ|D|SF|KF|Rq|lw|hw|Rs|ls|Rg|lg|Z|k:=h
 refine #[_,(ao (d6 6 iV.nd (dG (qq (dB (dI K (by rfl)) (by rfl) T.list PyProof.Rows.boot_list (c4 eo)) (dB (dI K (by rfl)) (by rfl) T.list PyProof.Rows.boot_list (c4 fX)) (dB (dI K (by rfl)) (by rfl) T.list PyProof.Rows.boot_list (c4 mU)))))
  (ao (d6 7 iV.nd (cw (t9 T ptree) hr T.mO (dh bL (xK (aS bE nY ai) (aS bE nY ai) (aS bE nY ai) qo))))
  (ao (cN (PW.pt (ow (jW (gV (vC rfl T.isinstance PyProof.Rows.boot_tuple T.tuple qj))) (kJ (be (vE (AN hr)) nY (dG (qq eo fX mU)) (bo _))))) (az (aT mM)) bI)
  (ao (d6 8 iV.nd (ba aR (by rfl) T.len aL (c4 mU)))
  (ao (d6 9 iV.nd (cw (pP T ptree) hr T.iZ (cH cM qo)))
  (ao (d6 10 iV.nd (cw (md T ptree) hr T.gZ (cH mU (cw (uX T ptree) hr T.j5 (qq cM fX qo)))))
  (ao (cN (be tY (ba aR (by rfl) T.len aL (c4 (cw (wF T ptree) hr T.kY (cH (bD ni O7 (dG (c4 (pv 10)))) vA)))) (ba aR (by rfl) T.len aL (c4 (cw (wF T ptree) hr T.kY (cH O7 vA)))) (bo _)) (az (aT (xJ (jh fj (ba aR (by rfl) T.len aL (c4 qj)) ai (bo _)) (xJ (jh fj (aS br qj ai) nh (bo _)) (Ai (cw (Aq T ptree) hr T.kU (dh cM (xK fX mU qo (aS br qj ai))))))))) bI)
  (ao (cN (PW.pt (ow (be uU (ba aR (by rfl) T.len aL (c4 qj)) ai (bo _)) (ow (be uU (aS br qj ai) nh (bo _)) (kJ (jW (gV (cw (BF T ptree) hr T.mF (dh cM (xK fX mU qo (aS br qj ai)))))))))) (az (aT mM)) bI)
  (ao (cN (PW.pt (ow (jW (gV (cw (oS T ptree) hr T.gL (c4 (aS br qj ai))))) (kJ (be (vE (AN hr)) (aS br qj ai) (cw (As T ptree) hr T.k6 (cH eo (aS br qj ai))) (bo _))))) (az (aT mM)) bI)
  (az (aT (xJ (cw (oz T ptree) hr T.iq (cH (aS br qj ai) vA)) (Ai (cw (Ee T ptree) hr T.nK (xK cM eo (aS br qj ai) (aS br qj ai)))))))))))))))),?_]
 walk_at "s"
 try rw[ib]
 have d8:=D.n8;have i4:=D.i4;obtain N9|X9|LS|_:=id Z.ls;have AD:=LS.ad;clear LS;obtain yg|gy|qy:=id Rg;have lyg:yg.9=mv.9:=by rw[<- qy.9,lg]
 walk_at "w";obtain yc1|gc1|qc1:=id Rq;refine #[q,yc1,rfl,.inl (bC.of gc1),λc1 hc1=>?_];have sc1:aH H (upd H c1 (.lst yc1)):=aH.new hc1;have Rc1:bK K (upd H c1 (.lst yc1)) c1 ws:=#[yc1,aK,Paired.imp' (λ_ _ z=>z.same sc1) qc1];generalize upd H c1 (.lst yc1)=Hc1 at sc1 Rc1 ⊢;clear gc1 qc1;walk_at "w";obtain yc2|gc2|qc2:=id (Rs.same sc1);refine #[s,yc2,rfl,.inl (bC.of gc2),λc2 hc2=>?_];have sc2:aH Hc1 (upd Hc1 c2 (.lst yc2)):=aH.new hc2;have Rc2:bK K (upd Hc1 c2 (.lst yc2)) c2 st:=#[yc2,aK,Paired.imp' (λ_ _ z=>z.same sc2) qc2];generalize upd Hc1 c2 (.lst yc2)=Hc2 at sc2 Rc2 ⊢;clear gc2 qc2;replace Rc1:=Rc1.same sc2;walk_at "w";obtain yc3|gc3|qc3:=id (Rg.same (sc1.trans sc2));refine #[g,yc3,rfl,.inl (bC.of gc3),λc3 hc3=>?_];have sc3:aH Hc2 (upd Hc2 c3 (.lst yc3)):=aH.new hc3;have Rc3:bK K (upd Hc2 c3 (.lst yc3)) c3 go:=#[yc3,aK,Paired.imp' (λ_ _ z=>z.same sc3) qc3];generalize upd Hc2 c3 (.lst yc3)=Hc3 at sc3 Rc3 ⊢;clear gc3 qc3;replace Rc1:=Rc1.same sc3;replace Rc2:=Rc2.same sc3;exists c7 λhl HA sA nA gA=>?_
 have s0A:=((sc1.trans sc2).trans sc3).trans sA;replace Rc1:=Rc1.same sA;replace Rc2:=Rc2.same sA;replace Rc3:=Rc3.same sA;exists AG (S.same s0A) D SF KF Rc1 Rc2 ls Rc3 lg Z λb pr v HB sB FB=>?_
 have s0B:=s0A.trans sB;have gB:=sB _ _ gA;obtain ⟨t5,xs5,rfl,gt5⟩:∃t xs,v=.ref t/\HB t=some (.tup xs):=by cases FB <;> exact #[_,_,rfl,by assumption]
 exists Th (.tup gt5) (.inr (.inr (.inr rfl))) ?_;rw[show tyB "tuple" (.ref t5) HB=true by unfold tyB;dsimp only;rw[gt5];rfl];exists c7 λl2 HC sC nC gC=>?_
 have s0C:=s0B.trans sC;have sAC:=sB.trans sC;exists #[_,_,JA,[ws,st,go],[ws,st,go],(),#[hl,_,rfl,bC.of (sC _ _ gB),.cons (Rc1.same sAC).kind (.cons (Rc2.same sAC).kind (.cons (Rc3.same sAC).kind .nil))],#[l2,_,rfl,bC.of gC,.cons (Rq.same s0C).kind (.cons (Rs.same s0C).kind (.cons (Rg.same s0C).kind .nil))],?_];rw[decide_eq_true rfl];clear gB gC Rc1 Rc2 Rc3 gA;exists #[_,_,rfl,.inl (bC.of (s0C _ _ gy)),?_];rw[lyg];exists #[r,tt,H1,mv,pt,lk,rfl,(),PQ.same s0C,D,AD,λka H7 nka s7 G7=>?_];have s07:=s0C.trans s7;exists #[r,s,tt,H1,mv,pt,lk,st,rfl,(),PQ.same s07,D,Rs.same s07,ls,Z.al,λal H8 nal s8 R8=>?_];have s08:=s07.trans s8;have lw':=jf (mv:=mv) (t:=tt) ls;exists #[g,al,go,ia mv tt st,rfl,Rg.same s08,R8,by rw[lw',lg],(),Z.sg,(Z.al.fit D.mw ls (ah _)).2,λlr H9 nlr s9 R9=>?_];exists c7 λl1 HD sD nD gD=>?_
 have s7D:=(s8.trans s9).trans sD;obtain us|gu|pu|_:=G7.same s7D;have lu:=pu.9;have kl:=gM (mv:=mv) (pt:=pt) tt;have kb:tt*pt.9<=12*4:=aw t12 i4;exists ou gu gD (dn (dA (by rw[bg];lia))) λcc HE sE nE gE=>?_
 have qA:Paired (dq K HC HD) [cL mv tt st go] [V.ref lr]:=.cons #[lr,rfl,(s7.trans s8).none nlr,R9.same sD] .nil;have GE:bu K HC HE cc (kry mv pt tt++[cL mv tt st go]):=#[_,gE,Paired.imp' (λ_ _ z=>dq.same z sE) (bM pu qA),jC #[HD,nE,bM pu qA]];have wk:=dX (mv:=mv) rfl D.pw tt;have ll:=oE (T:=tt) ls lg;obtain SA|LA:=Z.lo;obtain SB|LB:=Z.lw;exists #[cc,mv.9,SA,HC,_,rfl,GE,by rw[aj,bg];lia,(),λxs hx=>?_,LA,λra RA pa HF nra sF GF RRA _=>?_]
 ·rcases av.mp hx with hx | hx
  ·exact wk xs hx
  ·rw[bh.mp hx];exact ll
 obtain va|ga|qa|_:=id GF;have lva:=qa.9;exists #[_,_,rfl,.inl (bC.of ga),?_];rw[<- lva];have s7F:=(s7D.trans sE).trans sF;exists #[ka,mv.9,SB,HC,_,rfl,G7.same s7F,(),(),wk,LB,λrb RB pb HG nrb sG GG RRB _=>?_];obtain vb|gb|qb|_:=id GG;have lvb:=qb.9;exists #[_,_,rfl,.inl (bC.of gb),?_];rw[<- lvb];have sBG:=sC.trans (s7.trans (s7F.trans sG));have s0G:=s0B.trans sBG;have eA:=RRA.1;have eB:=RRB.1;clear gu ga gb gD gE GE GF GG G7 pu qa qb qA R8 R9 s7F s7D;cases FB with
 | @put t e p y _ gt ny hm ne ry sl lt en ef ti sd sp =>
  obtain Hm|sm|my|np|Gp:=hm;have hst:=CO D ls lg lw sl;have e9:=Qk RRB RRA (QJ D ls lg kL (vZ lw) hst);subst e9;have gtG:=sBG _ _ gt;exists iO (λh0=>?_) (λh0=>?_)
  ·exfalso
   have:=of_decide_eq_true h0
   lia
  exists #[_,_,rfl,.inr (j8.of gtG),?_];walk_at "w";rw[decide_eq_true (show (([V.str (Str.ofString "puts"),V.ref e,V.ref p,V.ref y].9:Nat):Int)=4 from rfl)];walk_at "w";rw[decide_eq_true rfl];exists #[r,s,g,p,tt,H1,Hm,mv,pt,lk,jl mv pt ws tt pr,st,go,rfl,(),PQ.same s0G,D,Rs.same s0G,ls,Rg.same s0G,Gp.same sBG,kL,vZ lw,en,hst,λHH sH=>?_];have sBH:=sBG.trans sH;have s0H:=s0G.trans sH;have gtH:=sH _ _ gtG
  have eff:BG ws (jl mv pt ws tt pr)=bJ pr (cL mv tt st go):=by
   have:=QW D ls lg lw hw sl kL (vZ lw) hst;rw[(QU kL kL (λxs hx=>by rw[vZ lw xs hx,lw]) (λxs hx=>by rw[vZ lw xs hx,lw]) hw).mpr rfl,ke] at this;exact this
  exists #[_,_,rfl,ne.same sBH,DB sd,λHI sI=>?_];have sBI:=sBH.trans sI;have gtI:=sI _ _ gtH;exists #[q,p,ws,_,Hm,rfl,Rq.same (s0H.trans sI),Gp.same sBI,λxs hx=>by rw[vZ lw xs hx,lw],ef,λre HJ sJ NE=>?_];rw[eff] at NE;have sBJ:=sBI.trans sJ;have gtJ:=sJ _ _ gtI;exists #[_,_,AL,_,_,(),ne.same sBJ,NE,?_];rw[decide_eq_true rfl];exists #[y,pr.map nm,by rw[ag,sl.1],(ry.same sBJ).rowK,by rw[ag,sl.1];lia,λn hn=>by obtain z|hz|rfl:=aA.mp hn;exact DB (sp z hz),λHK sK=>?_];have s0K:=((s0H.trans sI).trans sJ).trans sK;have gtK:=sK _ _ gtJ;exists #[r,q,p,y,tt,H1,Hm,mv,pt,lk,_,ws,pr,rfl,PQ.same s0K,D,AD,Rq.same s0K,lw,Gp.same (sBJ.trans sK),t12,ry.same (sBJ.trans sK),ti,λb9 HL sL hb=>?_];obtain rfl:b9=true:=hb.mpr (SG lw hw);exact k HL (s0K.trans sL)
 | @nev t p _ gt np rp lp d0 d1 nl pT pF =>
  have e9:=Nz RRB RRA wk ll lp d0 d1;have gtG:=sBG _ _ gt;exists iO (λh0=>?_) (λh0=>?_)
  rotate_left
  ·exact absurd (decide_eq_true (show ((RB.9:Nat):Int) < (RA.9:Nat) by lia)) h0
  exists #[_,_,rfl,.inr (j8.of gtG),?_];walk_at "w";rw[decide_eq_true (show (([V.str (Str.ofString "never"),V.ref p].9:Nat):Int)=2 from rfl)];walk_at "w";rw[decide_eq_true rfl];exists #[r,s,g,p,tt,H1,mv,pt,lk,st,go,pr,rfl,(),PQ.same s0G,D,Rs.same s0G,ls,Rg.same s0G,lg,rp.same sBG,lp,pF,d0,d1,λHE sE=>k HE (s0G.trans sE)]
theorem ju:sC ["_law_script","_law_bag_here","_law_parts_here","_law_wide","_law_n","_law_system_here","_law_weights_here","_law_steps_here","_law_start","_law_goal_here","_law_other","_law_found","_law_kept_here","_law_one","_law_begin","_law_there","_law_same"] 1 Nf:=by walk_at "d"
theorem TQ (T:Txt K mg Z) (ptree:P.given.tree=none):oN P w K mg base FC 11 Z.Sm Z.Sk ["_law_script"] (zF K):=by
 refine T.Ss.k ju ?_;walk_at "i";obtain a|ns|rfl|hS|hlen|k:=h
 refine #[_,(ao (d6 1 ju.nd (cw (GD T ptree) hr T.oU (c4 bL)))
  (ao (gW (cw (Ap T ptree) hr T.kT (c4 cM)) (vB rfl (cG (eX 2 ju.nd) (cG (eX 3 ju.nd) jg))))
  (ao (d6 4 ju.nd (ba aR (by rfl) T.len aL (c4 (aS br eo ai))))
  (ao (d6 5 ju.nd (cw (Ej T ptree) hr T.nQ (c4 eo)))
  (ao (d6 6 ju.nd (dG (cH (cw (rM T ptree) hr T.iT (qq cM (ba aR (by rfl) T.len aL (c4 (aS br eo ai))) ai)) (cw (rM T ptree) hr T.iT (qq cM (ba aR (by rfl) T.len aL (c4 (aS br eo ai))) ai)))))
  (ao (d6 7 ju.nd (cw (By T ptree) hr T.mo (cH cM eo)))
  (ao (d6 8 ju.nd (cw (mN T ptree) hr T.gK (qq cM mU fX)))
  (ao (d6 9 ju.nd (cw (wH T ptree) hr T.kZ (dh cM (xK eo vA qj fX))))
  (ao (d6 10 ju.nd (cw (wH T ptree) hr T.kZ (dh cM (xK eo vA qj fX))))
  (ao (d6 11 ju.nd (cw (t9 T ptree) hr T.mO (dh qo (xK (aS bE nY ai) vA O7 qj))))
  (ao (d6 12 ju.nd (cw (Em T ptree) hr T.eP (c4 (pv 11))))
  (ao (iK (cw (BA T ptree) hr T.gY (c4 (pv 11))))
  (ao (dF PassesOwn.never rfl (cC (dG (xK (cP (qq ai vA O7)) (cP (qq ai vA (pv 10))) (cP (qq ai vA O7)) (cP (qq ai (pv 10) O7))))) (vB rfl (cG (eX 13 ju.nd) (cG (eX 14 ju.nd) (cG (eX 15 ju.nd) jg))))
   (az (cN (jW (gV (cw (BC T ptree) hr T.mC (dh qo (dh eo (xK (aS bE nY (pv 13)) (pv 14) (pv 15) qj)))))) (az (aT mM)) bI)))
  (ao (d6 16 ju.nd (cw (t9 T ptree) hr T.mO (dh qo (xK (aS bE nY ai) vA vA qj))))
  (ao (cN (be (vE (AN hr)) (pv 16) (cw (t9 T ptree) hr T.mO (dh qo (xK (aS bE nY ai) (dB (dI K (by rfl)) (by rfl) T.list PyProof.Rows.boot_list (c4 vA)) (dB (dI K (by rfl)) (by rfl) T.list PyProof.Rows.boot_list (c4 vA)) qj))) (bo _)) (az (aT mM)) bI)
  (az (aT (jh (D7 (AN hr)) (cw (t9 T ptree) hr T.mO (dh qo (xK (aS bE nY ai) vA O7 qj))) (pv 12) (bo _))))))))))))))))))),?_]
 walk_at "s"
 try rw[ib]
 exists #[a,ns,rfl,hS,hlen,λb H0 hb0 B0 s0=>?_];exists #[b,rfl,B0,λt r w a' c' mv pt lk H1 g1 P1 D F KF RG w1 w2 B1 u1=>?_];have d8:=D.n8;have d4:=D.i4
 have lenP:∀H',fz K H0 H' r mv pt lk->∃m p l um up,H' r=some (.tup [.ref m,.ref p,.ref l])/\H' m=some (.lst um)/\um.9=mv.9/\H' p=some (.lst up)/\up.9=pt.9:=λH' P=>by
  obtain m|p|l|gt|_|_|_|⟨um,gm,qm,_⟩|⟨up,gp,qp,_⟩|_:=P;exact #[m,p,l,um,up,gt,gm,qm.length.symm,gp,qp.length.symm]
 obtain m1|p1|l1|um1|up1|gt1|gm1|lm1|_|_:=lenP _ P1;exists #[_,_,rfl,.inl (bC.of gm1),?_];rw[lm1];exists #[r,H0,mv,pt,lk,rfl,P1,D,F.sf,λx H2 nx s2 S2=>?_];replace S2:mS K H0 H2 Z.a_System x mv pt lk:=S2.weakN λq h=>u1.none B1 h
 replace P1:=P1.same s2;have B2:=B1.same s2;clear gt1 gm1 lm1;obtain m1|p1|l1|um1|up1|gt1|_|_|gp1|lp1:=lenP _ P1;exists #[_,_,rfl,.inl (bC.of gp1),?_];rw[lp1];exists #[b,pt.9,rfl,B2,(),λwq ws H3 nw Rw lw hw B3 u3=>?_];have wb:wq≠b:=λz=>B2.at (by rw[<- z];exact nw)
 replace P1:=P1.upto u3 B2 B0.at;replace S2:=S2.upto u3 B2 B0.at;clear gt1 gp1 lp1;obtain m1|p1|l1|um1|up1|gt1|_|_|gp1|lp1:=lenP _ P1;exists #[_,_,rfl,.inl (bC.of gp1),?_];rw[lp1];exists #[b,pt.9,rfl,B3,(),λwq2 ws2 H4 nw2 Rw2 lw2 hw2 B4 u4=>?_];have wb2:wq2≠b:=λz=>B3.at (by rw[<- z];exact nw2)
 replace P1:=P1.upto u4 B3 B0.at;replace S2:=S2.upto u4 B3 B0.at;replace Rw:=Rw.upto u4 B3 wb;clear gt1 gp1 lp1;exists c7 λwl H5 s5 n5 g5=>?_
 have wlb:wl≠b:=λz=>B4.at (by rw[<- z];exact n5)
 have B5:=B4.same s5;replace P1:=P1.same s5;replace S2:=S2.same s5;replace Rw:=Rw.same s5;replace Rw2:=Rw2.same s5
 have szE:∀xs∈mv++pt,∀x∈xs,i5 x:=λxs hx y hy=>by
  obtain M|V|h0|h1|h2|f1|f2|_:=F;refine QP h0 (af h1 (ak () ())) (af h2 (ak () ())) ?_;rcases av.mp hx with hx | hx
  ·exact f1 xs hx y hy
  ·exact f2 xs hx y hy
 exists #[b,r,H0,mv,pt,lk,rfl,B5,B0.at,P1,D,szE,λtt H6 hT B6 u6=>?_];clear szE;have t12:=hT.1;replace P1:=P1.upto u6 B5 B0.at;replace S2:=S2.upto u6 B5 B0.at;replace Rw:=Rw.upto u6 B5 wb;replace Rw2:=Rw2.upto u6 B5 wb2;replace g5:=u6.other wlb g5;exists #[b,mv.9,w,rfl,B6,(),w1,(),λqs st H7 nqs Rs ls ds B7 u7=>?_];have qb:qs≠b:=λz=>B6.at (by rw[<- z];exact nqs)
 replace P1:=P1.upto u7 B6 B0.at;replace S2:=S2.upto u7 B6 B0.at;replace Rw:=Rw.upto u7 B6 wb;replace Rw2:=Rw2.upto u7 B6 wb2;replace g5:=u7.other wlb g5;obtain M1|M2|Vx|a1|a2|cc|b1|b2|U|ha1|ha2|hc|hb:=Nn RG D hT;exists #[b,r,qs,tt,w,H0,mv,pt,lk,st,rfl,(),w1,w2,B7,B0.at,P1,D,Rs,qb,ls,λpus dp=>U.enf D ls ds (ah _) dp,λg go H8 ng Rg lg GP B8 u8=>?_];have gb:g≠b:=λz=>B7.at (by rw[<- z];exact ng)
 replace P1:=P1.upto u8 B7 B0.at;replace S2:=S2.upto u8 B7 B0.at;replace Rw:=Rw.upto u8 B7 wb;replace Rw2:=Rw2.upto u8 B7 wb2;replace Rs:=Rs.upto u8 B7 qb;replace g5:=u8.other wlb g5;exists #[b,r,qs,tt,w,H0,mv,pt,lk,st,rfl,(),w1,w2,B8,B0.at,P1,D,Rs,qb,ls,λpus dp=>U.enf D ls ds (ah _) dp,λot to H9 no Ro lo GO B9 u9=>?_];replace P1:=P1.upto u9 B8 B0.at;replace S2:=S2.upto u9 B8 B0.at;replace Rw:=Rw.upto u9 B8 wb;replace Rw2:=Rw2.upto u9 B8 wb2;replace Rs:=Rs.upto u9 B8 qb;replace Rg:=Rg.upto u9 B8 gb;replace g5:=u9.other wlb g5;obtain Z1|Z2|Z3|Z4:=C0 U ha1 ha2 hc hb D t12 ls lg lo ds GP GO lw hw;obtain Z5|_|_|_:=C0 U ha1 ha2 hc hb D t12 ls lg lo ds GP GO lw2 hw2;have hw':∀w∈ws,0 < w:=λw h=>(hw w h).1
 have hw2':∀w∈ws2,0 < w:=λw h=>(hw2 w h).1
 clear U GP GO ds hT RG B2 B3 B4 B5 B6 B7 B8 B9 u1 u3 u4 u6 u7 u8 u9 hw hw2 nw nw2 no ng nqs;exists AG S2 D F KF Rw Rs ls Rg lg Z1 λb1 pr1 v1 HA sA FA=>?_
 exists L6 FA D t12 lw λkt ky HB sB gB KB=>?_
 exists Ja FA D t12 lw sB λHC kC=>?_
 have s9C:aH H9 HC:=λa o h=>kC a o ((sA.trans sB) a o h) (.inl λz=>by rw[z.1] at h;cases h)
 have KC:Paired (A7 K HA HC) (Fy mv pt ws st go tt b1 pr1) ky:=Paired.imp' (λ_ _ z=>A7.kp z kC λa z y=>y.2 z) KB;have gC:=kC _ _ gB (.inr λ_ z=>nomatch z);replace g5:=s9C _ _ g5;clear KB kC gB sA sB;replace P1:=P1.same s9C;replace S2:=S2.same s9C;replace Rw:=Rw.same s9C;replace Rw2:=Rw2.same s9C;replace Rs:=Rs.same s9C;replace Rg:=Rg.same s9C;replace Ro:=Ro.same s9C;exists bR λtA HD sD gtA=>?_
 exists bR λtB HE sE gtB=>?_
 exists bR λtC HF sF gtC=>?_
 exists bR λtD HG sG gtD=>?_
 exists c7 λll HH sH nH gH=>?_
 have sFH:=sG.trans sH;have sEH:=sF.trans sFH;have sDH:=sE.trans sEH;have sCH:=sD.trans sDH;replace P1:=P1.same sCH;replace S2:=S2.same sCH;replace Rw:=Rw.same sCH;replace Rw2:=Rw2.same sCH;replace Rs:=Rs.same sCH;replace Rg:=Rg.same sCH;replace Ro:=Ro.same sCH;replace g5:=sCH _ _ g5;replace gC:=sCH _ _ gC;replace gtA:=sDH _ _ gtA;replace gtB:=sEH _ _ gtB;replace gtC:=sFH _ _ gtC;replace gtD:=sH _ _ gtD;replace KC:=Paired.imp' (λ_ _ z=>A7.same z sCH) KC;clear sCH sDH sEH sFH;exists #[#[_,bC.of gH],?_];refine gP (K:=K) (a:=ll) (xs:=[V.ref tA,V.ref tB,V.ref tC,V.ref tD]) (λi σ' H'=>aH HH H'/\∃y1 y2 y3,σ'=[some (.ref a),some (.ref b),some (.ref r),some (.int w),some (.int mv.9),some (.ref x),some (.ref wl),some (.int tt),some (.ref qs),some (.ref g),some (.ref ot),some v1,some (.ref kt),y1,y2,y3,none]) #[aH.refl _,_,_,_,rfl] (λi σ' H' _ #[s',_]=>bC.of (s' _ _ gH)) ?_ ?_
 ·rintro i v σ' Hi hv ⟨si,y1,y2,y3,rfl⟩;have hm:=ar hv;simp only[aD,aO,or_false] at hm
  obtain ⟨tv,i1,sb,gg,wv,wr,s1,g1,rfl,gT,ew,RW1,lW,hW,RS1,LS1,RG1,LG1,LZ⟩:∃(tv:Addr) (i1:Nat) (sb gg wv:Addr) (wr s1 g1:List Rat),v=.ref tv/\HH tv=some (.tup [.int i1,.ref sb,.ref gg])/\([V.ref wq,V.ref wq2]:List V)[i1]?=some (.ref wv)/\bK K HH wv wr/\wr.9=pt.9/\(∀w∈wr,0 < w)/\bK K HH sb s1/\s1.9=mv.9/\bK K HH gg g1/\g1.9=mv.9/\IH mv pt wr s1 g1 tt:=by
   rcases hm with rfl | rfl | rfl | rfl
   ·exact #[tA,0,qs,g,wq,ws,st,go,rfl,gtA,rfl,Rw,lw,hw',Rs,ls,Rg,lg,Z1]
   ·exact #[tB,0,qs,ot,wq,ws,st,to,rfl,gtB,rfl,Rw,lw,hw',Rs,ls,Ro,lo,Z2]
   ·exact #[tC,1,qs,g,wq2,ws2,st,go,rfl,gtC,rfl,Rw2,lw2,hw2',Rs,ls,Rg,lg,Z5]
   ·exact #[tD,0,ot,g,wq,ws,to,go,rfl,gtD,rfl,Rw,lw,hw',Ro,lo,Rg,lg,Z3]
  replace gT:=si _ _ gT;exists b7 (bC.of (si _ _ g5)) (fJ ew) ?_;walk_at "w"
  exact #[x,r,wv,sb,gg,tt,a',c',H0,H0,mv,pt,lk,wr,s1,g1,rfl,t12,S2.same si,P1.same si,D,F,KF,RW1.same si,lW,hW,RS1.same si,LS1,RG1.same si,LG1,LZ,λHj sj=>by
   exists #[si.trans sj,_,_,_,rfl]]
 rintro σ' Hi ⟨si,y1,y2,y3,rfl⟩;replace S2:=S2.same si;replace Rw:=Rw.same si;replace Rs:=Rs.same si;replace Rg:=Rg.same si;replace g5:=si _ _ g5;replace gC:=si _ _ gC;replace KC:=Paired.imp' (λ_ _ z=>A7.same z si) KC;clear gtA gtB gtC gtD gH P1 Ro Rw2;exists AG S2 D F KF Rw Rs ls Rs ls Z4 λb4 Qr v4 HJ sJ F4=>?_
 replace S2:=S2.same sJ;replace Rw:=Rw.same sJ;replace Rs:=Rs.same sJ;replace Rg:=Rg.same sJ;replace g5:=sJ _ _ g5;replace gC:=sJ _ _ gC;replace KC:=Paired.imp' (λ_ _ z=>A7.same z sJ) KC;walk_at "w";obtain yc1|gc1|qc1:=id Rs;refine #[qs,yc1,rfl,.inl (bC.of gc1),λc1 hc1=>?_];have sc1:aH HJ (upd HJ c1 (.lst yc1)):=aH.new hc1;have Rc1:bK K (upd HJ c1 (.lst yc1)) c1 st:=#[yc1,aK,Paired.imp' (λ_ _ z=>z.same sc1) qc1];generalize upd HJ c1 (.lst yc1)=Hc1 at sc1 Rc1 ⊢;clear gc1 qc1;replace S2:=S2.same sc1;replace Rw:=Rw.same sc1;replace Rs:=Rs.same sc1;replace Rg:=Rg.same sc1;walk_at "w";obtain yc2|gc2|qc2:=id Rs;refine #[qs,yc2,rfl,.inl (bC.of gc2),λc2 hc2=>?_];have sc2:aH Hc1 (upd Hc1 c2 (.lst yc2)):=aH.new hc2;have Rc2:bK K (upd Hc1 c2 (.lst yc2)) c2 st:=#[yc2,aK,Paired.imp' (λ_ _ z=>z.same sc2) qc2];generalize upd Hc1 c2 (.lst yc2)=Hc2 at sc2 Rc2 ⊢;clear gc2 qc2;replace S2:=S2.same sc2;replace Rw:=Rw.same sc2;replace Rs:=Rs.same sc2;replace Rg:=Rg.same sc2;replace Rc1:=Rc1.same sc2;walk_at "w";have sc:=sc1.trans sc2;replace g5:=sc _ _ g5;replace gC:=sc _ _ gC;replace KC:=Paired.imp' (λ_ _ z=>A7.same z sc) KC;exists AG S2 D F KF Rw Rc1 ls Rc2 ls Z4 λb5 pr5 v5 HK sK F5=>?_
 obtain rfl|rfl:=F5.uniq F4;replace S2:=S2.same sK;replace Rw:=Rw.same sK;replace Rs:=Rs.same sK;replace Rg:=Rg.same sK;replace g5:=sK _ _ g5;replace gC:=sK _ _ gC;replace KC:=Paired.imp' (λ_ _ z=>A7.same z sK) KC;exists Ck.ne (F4.same (sc.trans sK)).rk F5.rk ?_;exists AG S2 D F KF Rw Rs ls Rg lg Z1 λb6 pr6 v6 HL sL F6=>?_
 obtain rfl|rfl:=F6.uniq FA;exists Ck.eq F6.rk (A7.rk (sL _ _ gC) (Paired.imp' (λ_ _ z=>A7.same z sL) KC)) ?_;exact k _
end
theorem ln1 {P:List Value->Prop} (h:∀x0,P [x0]):∀us:List Value,us.9=1->P us
 | [x0],_=>h x0
theorem ln2 {P:List Value->Prop} (h:∀x0 x1,P [x0,x1]):∀us:List Value,us.9=2->P us
 | [x0,x1],_=>h x0 x1
theorem ln3 {P:List Value->Prop} (h:∀x0 x1 x2,P [x0,x1,x2]):∀us:List Value,us.9=3->P us
 | [x0,x1,x2],_=>h x0 x1 x2
theorem ln4 {P:List Value->Prop} (h:∀x0 x1 x2 x3,P [x0,x1,x2,x3]):∀us:List Value,us.9=4->P us
 | [x0,x1,x2,x3],_=>h x0 x1 x2 x3
theorem ln5 {P:List Value->Prop} (h:∀x0 x1 x2 x3 x4,P [x0,x1,x2,x3,x4]):∀us:List Value,us.9=5->P us
 | [x0,x1,x2,x3,x4],_=>h x0 x1 x2 x3 x4
theorem ln6 {P:List Value->Prop} (h:∀x0 x1 x2 x3 x4 x5,P [x0,x1,x2,x3,x4,x5]):∀us:List Value,us.9=6->P us
 | [x0,x1,x2,x3,x4,x5],_=>h x0 x1 x2 x3 x4 x5
local macro_rules | `(tactic| walk_at "b") => `(tactic| (intro _ _ _ _ _ _; first | (refine ln1 ?_; intros; rfl) | (refine ln2 ?_; intros; rfl) | (refine ln3 ?_; intros; rfl) | (refine ln4 ?_; intros; rfl) | (refine ln5 ?_; intros; rfl) | (refine ln6 ?_; intros; rfl)))
theorem all_mk {l:W.OpenLaw} {K:W.Frag} 
 
  (X:K.In h) (G:h.Ns mainGlobals mg) (hfa:mg "law"=some (.ref fa)) (htree:l.prog.given.tree=none)
 (aC:W.nsIn K mainGlobals "System"=some (some (.ref C)))
  (h0:Dh K "_law_bag" vz f0 e0)
  (h1:Dh K "_law_take" tm f1 e1)
  (h2:Dh K "_law_sizes" nv f2 e2)
  (h3:Dh K "_law_line" tJ f3 e3)
  (h4:Dh K "_law_low" vp f4 e4)
  (h5:Dh K "_law_number" pJ f5 e5)
  (h6:Dh K "_law_row" vo f6 e6)
  (h7:Dh K "_law_move" tH f7 e7)
  (h8:Dh K "_law_sum" vn f8 e8)
  (h9:Dh K "_law_plus" tF f9 e9)
  (h10:Dh K "_law_prod" tE f10 e10)
  (h11:Dh K "_law_by" xE f11 e11)
  (h12:Dh K "_law_mixed" qQ f12 e12)
  (h13:Dh K "_law_parts" qP f13 e13)
  (h14:Dh K "_law_system" pG f14 e14)
  (h15:Dh K "want_list" sU f15 e15)
  (h16:Dh K "is_whole" vm f16 e16)
  (h17:Dh K "common_divisor" lM f17 e17)
  (h18:Dh K "is_number" sY f18 e18)
  (h19:Dh K "is_row" zX f19 e19)
  (h20:Dh K "copied_rows" pE f20 e20)
  (a21:W.findIn K (.ref C) "__init__"=some (some (.ref f21))) (i21:W.isFn K (.ref f21)=true) (l21:K.lookup f21=some #[oc21,od21,.func (W.fnOf "__init__" "System.__init__" (nV fh) (j7 fh) (fE fh) .none kV21 dc21 pm21 an21 cd21 ct21),sl21]) (c21:W.codeIn K cd21 "System.__init__"=true) (k21:W.keepIn K (.ref f21)=true)
  (h22:Dh K "_law_copied" pM f22 e22)
  (h23:Dh K "_law_made" tI f23 e23)
  (h24:Dh K "_law_weights" oj f24 e24)
  (h25:Dh K "_law_steps" qM f25 e25)
  (h26:Dh K "_law_dot" vv f26 e26)
  (h27:Dh K "_law_on" xD f27 e27)
  (h28:Dh K "_law_next" tG f28 e28)
  (h29:Dh K "_law_end" vq f29 e29)
  (h30:Dh K "_law_puts" tz f30 e30)
  (h31:Dh K "_law_goal" tP f31 e31)
  (h32:Dh K "common_multiple" kI f32 e32)
  (h33:Dh K "common_bottom" mY f33 e33)
  (h34:Dh K "tops_over" sV f34 e34)
  (h35:Dh K "lowest" zV f35 e35)
  (h36:Dh K "row_dot" xv f36 e36)
  (h37:Dh K "grid_on" xB f37 e37)
  (h38:Dh K "moved_rows" qI f38 e38)
  (h39:Dh K "additions" sZ f39 e39)
  (h40:Dh K "minus" D3 f40 e40)
  (h41:Dh K "row_minus" sW f41 e41)
  (h42:Dh K "grid_turned" pC f42 e42)
  (a43:W.findIn K (.ref C) "moved"=some (some (.ref f43))) (i43:W.isFn K (.ref f43)=true) (l43:K.lookup f43=some #[oc43,od43,.func (W.fnOf "moved" "System.moved" (nV ig) (j7 ig) (fE ig) .none kV43 dc43 pm43 an43 cd43 ct43),sl43]) (c43:W.codeIn K cd43 "System.moved"=true) (k43:W.keepIn K (.ref f43)=true)
  (h44:Dh K "course" zY f44 e44)
  (h45:Dh K "nought_row" qH f45 e45)
  (h46:Dh K "nothing_for" pB f46 e46)
  (h47:Dh K "lacking" xA f47 e47)
  (h48:Dh K "first_with" qK f48 e48)
  (h49:Dh K "cleared" xC f49 e49)
  (h50:Dh K "brought_up" qL f50 e50)
  (h51:Dh K "swept" DY f51 e51)
  (h52:Dh K "solved" zT f52 e52)
  (h53:Dh K "solve" DZ f53 e53)
  (h54:Dh K "flat" Jh f54 e54)
  (h55:Dh K "grid_times" qJ f55 e55)
  (h56:Dh K "parted" zU f56 e56)
  (h57:Dh K "parted_by" sX f57 e57)
  (h58:Dh K "led_to" zW f58 e58)
  (h59:Dh K "reduced" xx f59 e59)
  (h60:Dh K "reach_grown" pA f60 e60)
  (h61:Dh K "weights_for" pk f61 e61)
  (h62:Dh K "cut" Ng f62 e62)
  (h63:Dh K "come" Ji f63 e63)
  (h64:Dh K "puts_at" xy f64 e64)
  (h65:Dh K "least" D4 f65 e65)
  (h66:Dh K "_law_kept" tO f66 e66)
  (h67:Dh K "_law_spoil" qN f67 e67)
  (h68:Dh K "_law_added" qU f68 e68)
  (h69:Dh K "_law_less" tK f69 e69)
  (h70:Dh K "_law_minus" qR f70 e70)
  (h71:Dh K "_law_alone" qT f71 e71)
  (h72:Dh K "_law_quot" tu f72 e72)
  (h73:Dh K "_law_lean" tL f73 e73)
  (h74:Dh K "_law_is_number" lN f74 e74)
  (h75:Dh K "_law_is_row" pK f75 e75)
  (h76:Dh K "_law_priced" pH f76 e76)
  (h77:Dh K "_law_is_grid" oo f77 e77)
  (h78:Dh K "_law_leads" qS f78 e78)
  (h79:Dh K "_law_effort" pL f79 e79)
  (h80:Dh K "_law_tied" td f80 e80)
  (h81:Dh K "_law_right" qO f81 e81)
  (h82:Dh K "law" Nf f82 e82)
 (ca0:W.nsIn K mainGlobals "NOUGHT"=some (some (.ref m0))) (cl0:K.lookup m0=some #[.type "tuple",mo0,.seq [.int 0 mt0_0,.int 1 mt0_1].toArray mn0,ms0])
 (ca1:W.nsIn K mainGlobals "ONE"=some (some (.ref m1))) (cl1:K.lookup m1=some #[.type "tuple",mo1,.seq [.int 1 mt1_0,.int 1 mt1_1].toArray mn1,ms1])
 (ci0:W.nsIn K mainGlobals "MOST_STATES"=some (some (.int 8 it0)))
 (ci1:W.nsIn K mainGlobals "MOST_PUTS"=some (some (.int 4 it1)))
 (ci2:W.nsIn K mainGlobals "MOST_LOOKS"=some (some (.int 4 it2)))
  (pg:W.plainGet K C Str.empty=true) (hd:W.hasDictIn K C=true) (po:W.plainOver K C=true) (sa:W.findIn K (.ref C) "__setattr__"=some (some (.builtin "object.__setattr__"))) (mk:W.makesIn K C=true) (kc:W.keepIn K (.ref C)=true)
  (n_move:W.findIn K (.ref C) "move"=some none)
  (n_states:W.findIn K (.ref C) "states"=some none)
  (n_put:W.findIn K (.ref C) "put"=some none)
  (n_ins:W.findIn K (.ref C) "ins"=some none)
  (n_look:W.findIn K (.ref C) "look"=some none)
  (n_outs:W.findIn K (.ref C) "outs"=some none)
  (z_abs:W.nsIn K mainGlobals "abs"=some none)
  (z_len:W.nsIn K mainGlobals "len"=some none)
  (z_min:W.nsIn K mainGlobals "min"=some none)
  (z_int:W.nsIn K mainGlobals "int"=some none)
  (z_range:W.nsIn K mainGlobals "range"=some none)
  (z_isinstance:W.nsIn K mainGlobals "isinstance"=some none)
  (z_list:W.nsIn K mainGlobals "list"=some none)
  (z_bool:W.nsIn K mainGlobals "bool"=some none)
  (z_tuple:W.nsIn K mainGlobals "tuple"=some none)
  (z_all:W.nsIn K mainGlobals "all"=some none)
  (z_enumerate:W.nsIn K mainGlobals "enumerate"=some none)
  (z_max:W.nsIn K mainGlobals "max"=some none)
  (z_zip:W.nsIn K mainGlobals "zip"=some none)
  (z_sum:W.nsIn K mainGlobals "sum"=some none)
  (z_reversed:W.nsIn K mainGlobals "reversed"=some none)
  : ∃fd:FuncData,(∀(s:Shared) (v:Value),BindsTo s fd #[[v],[]] [("_law_script",v)])/\∀base:Heap,K.In base->base.Ns mainGlobals mg->oN l.prog w K mg base FC 11 fa fd ["_law_script"] (zF K):=by
 have e:=hfa.symm.trans (W.mg_of X G h82.a);cases e;obtain _|_|_|_|_|_|_|_|_|rfl|_|_:=h82.F.ex;have F21:=JF (st:=fh) l21 c21 k21;have F43:=JF (st:=ig) l43 c43 k43
 have T:Txt K mg #[f0,_,f1,_,f2,_,f3,_,f4,_,f5,_,f6,_,f7,_,f8,_,f9,_,f10,_,f11,_,f12,_,f13,_,f14,_,f15,_,f16,_,f17,_,f18,_,f19,_,f20,_,f21,_,f22,_,f23,_,f24,_,f25,_,f26,_,f27,_,f28,_,f29,_,f30,_,f31,_,f32,_,f33,_,f34,_,f35,_,f36,_,f37,_,f38,_,f39,_,f40,_,f41,_,f42,_,f43,_,f44,_,f45,_,f46,_,f47,_,f48,_,f49,_,f50,_,f51,_,f52,_,f53,_,f54,_,f55,_,f56,_,f57,_,f58,_,f59,_,f60,_,f61,_,f62,_,f63,_,f64,_,f65,_,f66,_,f67,_,f68,_,f69,_,f70,_,f71,_,f72,_,f73,_,f74,_,f75,_,f76,_,f77,_,f78,_,f79,_,f80,_,f81,_,fa,_,m0,m1,it0,it1,it2,C]:={
  oU:=h0.D X G
  aU:=h1.D X G
  mB:=h2.D X G
  nR:=h3.D X G
  d7:=h4.D X G
  kX:=h5.D X G
  gK:=h6.D X G
  nP:=h7.D X G
  gJ:=h8.D X G
  kW:=h9.D X G
  eO:=h10.D X G
  jG:=h11.D X G
  mE:=h12.D X G
  mD:=h13.D X G
  kT:=h14.D X G
  jO:=h15.D X G
  mP:=h16.D X G
  fk:=h17.D X G
  nJ:=h18.D X G
  uG:=h19.D X G
  ip:=h20.D X G
  oX:=F21.binds (ps:=["self","move","put","look"]) λ_ _ _ _ _ _=>by refine ln4 ?_;intros;rfl
  oZ:=F21
  ir:=h22.D X G
  nQ:=h23.D X G
  iT:=h24.D X G
  mo:=h25.D X G
  jF:=h26.D X G
  lS:=h27.D X G
  nO:=h28.D X G
  mQ:=h29.D X G
  nN:=h30.D X G
  kZ:=h31.D X G
  iN:=h32.D X G
  dS:=h33.D X G
  gI:=h34.D X G
  jP:=h35.D X G
  iM:=h36.D X G
  jE:=h37.D X G
  j4:=h38.D X G
  kS:=h39.D X G
  wI:=h40.D X G
  nG:=h41.D X G
  eQ:=h42.D X G
  rN:=#[a43,i43,k43]
  uu:=F43.binds (ps:=["self","state","puts"]) λ_ _ _ _ _ _=>by refine ln3 ?_;intros;rfl
  uB:=F43
  uI:=h44.D X G
  iY:=h45.D X G
  jD:=h46.D X G
  oC:=h47.D X G
  mi:=h48.D X G
  rg:=h49.D X G
  mj:=h50.D X G
  ue:=h51.D X G
  pW:=h52.D X G
  uf:=h53.D X G
  uH:=h54.D X G
  mh:=h55.D X G
  uE:=h56.D X G
  kR:=h57.D X G
  uF:=h58.D X G
  qZ:=h59.D X G
  kQ:=h60.D X G
  kO:=h61.D X G
  Ju:=h62.D X G
  yO:=h63.D X G
  rf:=h64.D X G
  mO:=h65.D X G
  eP:=h66.D X G
  gY:=h67.D X G
  iZ:=h68.D X G
  nU:=h69.D X G
  gZ:=h70.D X G
  j5:=h71.D X G
  nM:=h72.D X G
  kY:=h73.D X G
  gL:=h74.D X G
  iq:=h75.D X G
  kU:=h76.D X G
  j6:=h77.D X G
  mF:=h78.D X G
  k6:=h79.D X G
  nK:=h80.D X G
  mC:=h81.D X G
  Ss:=h82.F
  abs:=W.mg_none_of X G z_abs
  len:=W.mg_none_of X G z_len
  min:=W.mg_none_of X G z_min
  int:=W.mg_none_of X G z_int
  range:=W.mg_none_of X G z_range
  isinstance:=W.mg_none_of X G z_isinstance
  list:=W.mg_none_of X G z_list
  bool:=W.mg_none_of X G z_bool
  tuple:=W.mg_none_of X G z_tuple
  all:=W.mg_none_of X G z_all
  enumerate:=W.mg_none_of X G z_enumerate
  max:=W.mg_none_of X G z_max
  zip:=W.mg_none_of X G z_zip
  sum:=W.mg_none_of X G z_sum
  reversed:=W.mg_none_of X G z_reversed
  mg_NOUGHT:=W.mg_of X G ca0
  sq_NOUGHT:=λH=>.inr #[_,_,_,cl0,rfl,rfl,kE rfl,.cons #[_,rfl] (.cons #[_,rfl] (.nil))]
  mg_ONE:=W.mg_of X G ca1
  sq_ONE:=λH=>.inr #[_,_,_,cl1,rfl,rfl,kE rfl,.cons #[_,rfl] (.cons #[_,rfl] (.nil))]
  mg_MOST_STATES:=W.mg_of X G ci0
  mg_MOST_PUTS:=W.mg_of X G ci1
  mg_MOST_LOOKS:=W.mg_of X G ci2
  mg_System:=W.mg_of X G aC
  cl_System:=#[pg,hd,po,sa]
  na_move:=n_move
  na_states:=n_states
  na_put:=n_put
  na_ins:=n_ins
  na_look:=n_look
  na_outs:=n_outs
  mk_System:=#[mk,a21,i21,kc] }
 exact #[_,λs v=>.of_eq rfl,λbase _ _=>TQ T htree]
theorem walk {l:W.OpenLaw} {K:Params->W.Frag} (hn:l.most=some 63) (hdf:d.params.defaults=[])
  (hi:PyProof.Rows.importsNone q=true)
  (hY:∀(w:World) (h:Heap),YP w h->(K w.params).In h)
  (F:∀(w:World) (mg:Str->Option Value) (fa:Addr) (h:Heap),(K w.params).In h->h.Ns mainGlobals mg->mg d.name=some (.ref fa) →
   ∃fd:FuncData,(∀(s:Shared) (u:Value),BindsTo s fd #[[u],[]] [("_law_script",u)])/\∀base:Heap,(K w.params).In base->base.Ns mainGlobals mg->oN l.prog w (K w.params) mg base FC 11 fa fd ["_law_script"] (zF (K w.params))) :
  W.WalkO q loose XP YP l.row.toRowW d [] (λf vs=>PySem.call f vs) :=
 L2.Pg (n:=63) (k:=11) (x:="_law_script") (CX:=λ_=>FC) (sp:=λw=>zF (K w.params)) hn () hdf #[rfl,(),()] hi hY F (λ_ _ a ns hl _ hS=>#[a,ns,rfl,hS,hl,λ_=>rfl]) λ_ _ _ _ _ z=>z
end Lw
namespace PySem.W.Fast
def tw2730741295547736951:=1
def tw14528943149661624410:=1
def tw9092811939433216143:=1
def tw5978700344100150745:=1
def tw3349740979147961394:=1
def tw3344758297653130109:=1
def tw13406197939414028571:=1
def tw5454644654768554769:=1
def tw15132596155491622327:=1
def tw1359792310576929090:=1
def tw15726379171904338117:=1
def tw1905335147318935260:=1
def tw2327116331774865940:=1
def tw9034872944379473521:=1
def tw13982273447361950388:=1
def tw13221645592213969635:=1
def tw7648201450313701458:=1
def tw9676542125840684841:=1
def tw13733918779539391997:=1
def tw14313983594547947299:=1
def tw5687669620756316508:=1
def tw10811421017385620974:=1
def tw1259827504110543324:=1
def tw8919229797114795638:=1
def tw17097954304906124805:=1
def tw760730984621523028:=1
def tw11645764724715318301:=1
def tw1407645416827560092:=1
def tw17243678674069123707:=1
def tw16056496882593325533:=1
def tw4921238047367801655:=1
def tw17535777411860161585:=1
def tw293967267528441799:=1
def tw7512084940997359433:=1
def tw3039353420097492948:=1
def tw3352577470549051145:=1
def tw3939233933421008459:=1
def tw12653767904909434314:=1
def tw6746769565679715726:=1
def tw3292301405471857653:=1
def tw15598622951115897479:=1
def tw7078043144741296116:=1
def tw3721532405027348727:=1
def tw3995000633989327483:=1
def tw9033370623130624621:=1
def tw13327123128963885356:=1
def tw2373248797205009491:=1
def tw12331408573733134338:=1
def tw10037494943005184562:=1
def tw655986442818172226:=1
def tw7284262101392405280:=1
def tw14918136519035194516:=1
def tw6669143659989581147:=1
def tw6587497109390295891:=1
def tw11271766558466304327:=1
def tw524931839187406174:=1
def tw11505744797642116728:=1
def tw1819046376922140701:=1
def tw6464684789605599395:=1
def tw15259725777158462856:=1
def tw10888727911334805449:=1
def tw8625512635906973866:=1
def tw7042917246419198999:=1
def tw14378282048114890545:=1
def tw8551439439972054553:=1
def tw14197871119112243606:=1
def tw10565005000362095623:=1
def tw10700294197236888295:=1
def tw16464965577067475813:=1
def tw1795504979311244908:=1
def tw6054530698542216087:=1
def tw17450018172504898458:=1
def tw9584577477614418519:=1
def tw8670293167274132833:=1
def tw9219611918882503336:=1
def tw12148865997316155802:=1
def tw6708897252211762071:=1
def tw17834330512366248536:=1
def tw7594441490244924413:=1
def tw5498190904118187830:=1
def tw17287553967075857713:=1
def tw15711882549710919429:=1
def tw9387747115618059187:=1
def tw16720012568340309904:=1
def tw17902856496965554472:=1
def tw16787007696489438155:=1
def tw10349492543011896341:=1
def tw5884064863267372545:=1
def tw2872981558605347281:=1
def tw11676305406086339571:=1
def tw11277004756803069918:=1
def tw15146451330876379169:=1
def tw159842771404258018:=1
def tw1755353589848102546:=1
def tw11554865026409187859:=1
def tw9563438938967120495:=1
def tw11642574519483941359:=1
def tw6607692912159315446:=1
def tw10326280525621668872:=1
def tw3696568827905723305:=1
def tw1303262372597719707:=1
def tw18290760225650790232:=1
def tw16776683688926120366:=1
def tw16116358997773124942:=1
def tw7165686108179961785:=1
def tw14307401900413766019:=1
def tw1430738056852245381:=1
def tw11786745711880669873:=1
def tw9487418006482030389:=1
def tw9432044388731789621:=1
def tw18320843449232649793:=1
def tw12716374142940415057:=1
def tw9592243820668522492:=1
def tw13985174334585741307:=1
def tw3358457161264678926:=1
def tw2394572215378957389:=1
def tw4445155533647213014:=1
def tw7151237673466114023:=1
def tw12118759895486763966:=1
def tw12924458111176560327:=1
def tw9842119656165374314:=1
def tw9464603511424455285:=1
def tw8509454428806070567:=1
def tw826723353986931841:=1
def tw5844124364777146817:=1
def tw3732758902794794486:=1
def tw8762728750785060036:=1
def tw4296151615415828039:=1
def tw5658794085901057050:=1
def tw2617185626399902173:=1
def tw13012857511896620062:=1
def tw14536899222848750990:=1
def tw10051425140749379422:=1
def tw5648706341627106283:=1
def tw9499268284558973227:=1
def tw7805014328861076618:=1
def tw14694424996140206348:=1
def tw12849328232826157564:=1
def tw12024835873238087595:=1
def tw4593865440126883125:=1
def tw7925998244981234852:=1
def tw13323910561814892770:=1
def tw5738970908602507642:=1
def tw7135114803607804521:=1
def tw9080816794946846828:=1
def tw4729511120353564722:=1
def tw471959466751249659:=1
def tw8178598476938270333:=1
def tw1270798913220494212:=1
def tw8273040616094336727:=1
def tw13595900820152922418:=1
def tw16408526335179665406:=1
def tw5446347687261419196:=1
def tw7541698636237511170:=1
def tw8722268738338546582:=1
def tw14166344866690931074:=1
def tw4765113817312717291:=1
def tw566698517021214505:=1
def tw700584066607224528:=1
def tw8848626593020721831:=1
def tw4799034578283559167:=1
def tw10119622255280982203:=1
def tw17212675024832885021:=1
def tw4594680213322569630:=1
def tw960073592109101158:=1
def tw17534565225077159778:=1
def tw2658990405389516227:=1
def tw16020327915469824528:=1
def tw7961585848389962299:=1
def tw3584356108583400382:=1
def tw6984980394730621083:=1
def tw2024825554377841312:=1
def tw5121108546540096680:=1
def tw14541982954007187894:=1
def tw11015348725859208581:=1
def tw17195277171324980480:=1
def tw13754186805458441656:=1
def tw15566038617592699971:=1
def tw523526581774659126:=1
def tw14635781861086228516:=1
def tw7164974968503976636:=1
def tw15551533597289697090:=1
def tw6436803889876737707:=1
def tw4010289842370419729:=1
def tw9928820465494762788:=1
def tw9559662536141213183:=1
def tw15693046059913505677:=1
def tw17691131237734535052:=1
def tw907329872262908278:=1
def tw4510663381625039126:=1
def tw9475075995414636363:=1
def tw5895573709593345193:=1
def tw14561476503695136857:=1
def tw16468184771138079364:=1
def tw880061274667518894:=1
def tw15251912248446695673:=1
def tw2452507620125236346:=1
def tw6347010867153622758:=1
def tw15254067789373891823:=1
def tw17627221412705249426:=1
def tw7076462731574863773:=1
def tw593047695405066283:=1
def tw11089114280510407962:=1
def tw788365802729661596:=1
def tw3418867866928958694:=1
def tw4500068622650966152:=1
def tw2324043727687021156:=1
def tw12343912090129782473:=1
def tw7221345559002035176:=1
def tw1029575260913545979:=1
def tw3816039333700518194:=1
def tw8915229246325900940:=1
def tw13194360023970623634:=1
def tw2836571024249251132:=1
def tw10257485555153867513:=1
def tw7553678305699245007:=1
def tw10520881148894042467:=1
def tw1510518434464774118:=1
def tw6031159353751439191:=1
def tw9747267243735510057:=1
def tw9980242601920524559:=1
def tw12697133309656311761:=1
def tw8494208164182393968:=1
def tw11739646006093226863:=1
def tw17775304802039023882:=1
def tw13284503540211880129:=1
def tw17496046208584629206:=1
def tw14162239950766483660:=1
def tw10841913256190271936:=1
def tw13542238976328107404:=1
def tw15225966113423010064:=1
def tw17906479197794672157:=1
def tw13934898111177957480:=1
def tw15812499236466664738:=1
def tw3610754822915472607:=1
def tw3726959373969945509:=1
def tw15303736567588686039:=1
def tw12692597460475194835:=1
def tw15550903555071635169:=1
def tw7118383004803614195:=1
def tw10497254545643823204:=1
def tw4615139037478563296:=1
def tw12082386027420660966:=1
def tw2739745456393568629:=1
def tw17942549550279683074:=1
def tw14211531427465041289:=1
def tw11394131513908027586:=1
def tw10157260153561345239:=1
def tw13203757918572791819:=1
def tw15217538146846139653:=1
def tw4179171551076168200:=1
def tw3985578158274115567:=1
def tw6194893092524399349:=1
def tw7008685022400015124:=1
def tw7007557864435638851:=1
def tw12602617205133141978:=1
def tw2918477454318349170:=1
def tw16654476919433160411:=1
def tw9060945861498207731:=1
def tw18081396727363618745:=1
def tw6243329543880688242:=1
def tw16294239401895131641:=1
def tw17869943676943880236:=1
def tw12100431262757907533:=1
def tw17848843761188731038:=1
def tw18301269896530544046:=1
def tw2981193293699574458:=1
def tw15531434353222209264:=1
def tw15688899809780904887:=1
def tw10078475539204519312:=1
def tw14794661660174552:=1
def tw9203806526015490207:=1
def tw16431013244943607057:=1
def tw224850470299966096:=1
def tw1373912271523031742:=1
def tw5018164106744796626:=1
def tw10117468228668132674:=1
def tw615489392718467089:=1
def tw11860793424365843546:=1
def tw5578579340942934412:=1
def tw2482290395088451772:=1
def tw11377388413876043376:=1
def tw16055088240409612549:=1
def tw9267733580834959321:=1
def tw2604748751503884157:=1
def tw4013196214715842311:=1
def tw11152043326312488704:=1
def tw10505832114508495633:=1
def tw272223358667112572:=1
def tw2618834792241060066:=1
def tw18028989387507817640:=1
def tw18108346800564480798:=1
def tw5007511053164225090:=1
def tw10307458843180655343:=1
def tw13156422521676701413:=1
def tw2526443575482187829:=1
def tw17606151395502747901:=1
def tw14414064491344531315:=1
def tw14644460354172430584:=1
def tw612735659854794773:=1
def tw10269751923708642758:=1
def tw4261319201932011817:=1
def tw8144731247103896373:=1
def tw7337695385554568124:=1
def tw10265239290240321727:=1
def tw17340088812828707882:=1
def tw5731238967113810277:=1
def tw3122535590010066636:=1
def tw2569841889935771440:=1
def tw2834361175183332973:=1
def tw8027817467044949798:=1
def tw2343963770045777271:=1
def tw3852265598771865924:=1
def tw10980770019420473812:=1
def tw15337356085107490045:=1
def tw12454298688594245040:=1
def tw9530246759538497368:=1
def tw15782445654372243159:=1
def tw9226529563451814996:=1
def tw13529961309226739073:=1
def tw4503791405670675914:=1
def tw4992695236599490475:=1
def tw14584661507034144186:=1
def tw9753885390816959908:=1
def tw16739423393668630183:=1
def tw7222547177970008910:=1
def tw2420303922339376123:=1
def tw12688945066851118397:=1
def tw4228304620609015367:=1
def tw8796490525447619447:=1
def tw621168005891410828:=1
def tw14330556694471420626:=1
def tw6498285889151535373:=1
def tw2960917485076071883:=1
def tw15404650891864908642:=1
def tw16338293385385992832:=1
def tw8691266198864158483:=1
def tw3954042956262830872:=1
def tw893191795943598070:=1
def tw17291876937813689196:=1
def tw4736205544792800953:=1
def tw15010359138086086819:=1
def tw16624305317725451507:=1
def tw12424334524728138486:=1
def tw15724023887801243716:=1
def tw11946350246982969568:=1
def tw6542410803696496467:=1
def tw2537696322563262434:=1
def tw6552479815190076844:=1
def tw57396394004019255:=1
def tw16855594482847615779:=1
def tw8151349378327033571:=1
def tw6349406974816351874:=1
def tw9515510911703584892:=1
def tw667534255411705206:=1
def tw12468869181190360491:=1
def tw17349161768201104795:=1
def tw7062650517036002145:=1
def tw15775717026126448962:=1
def tw17392828631510949891:=1
def tw326660561336677283:=1
def tw11384815749303528672:=1
def tw10541569742784903530:=1
def tw6733922867042102005:=1
def tw4345409085330319286:=1
def tw9079880432409417897:=1
def tw15806641911591179924:=1
def tw7239615174791238799:=1
def tw3578203369210963676:=1
def tw14997777482840034417:=1
def tw12977937362048700351:=1
def tw1041458453848266732:=1
def tw3246196661052306386:=1
def tw14410435221334022801:=1
def tw13076442193887698423:=1
def tw3478545745867333135:=1
def tw12356900112577119637:=1
def tw11129040157931165436:=1
def tw3216556918208946787:=1
def tw12556224154914418031:=1
def tw14391146893738704106:=1
def tw16394375835705664835:=1
def tw16622718168792842597:=1
def tw9481355505681154437:=1
def tw14010976625355719970:=1
def tw7730121561776346646:=1
def tw15778661711476232484:=1
def tw14405903758650779386:=1
def tw6819650227740326335:=1
def tw13283624457434940721:=1
def tw12803231726572467065:=1
def tw15023579698599170620:=1
def tw9015700788647047543:=1
def tw2739874669081310279:=1
def tw18011414758975635082:=1
def tw17242036685866087386:=1
def tw5165133732147922727:=1
def tw9232610463119161762:=1
def tw5460373894792654739:=1
def tw8087159361580697675:=1
def tw12316798794958637226:=1
def tw6263953609039492476:=1
def tw10659753877740238458:=1
def tw2672918127094394244:=1
def tw15138819405962075752:=1
def tw2011208966270742234:=1
def tw9808784637011832449:=1
def tw13930483124297606227:=1
def tw10667030775562971237:=1
def tw9226208316505888818:=1
def tw16791241972083917890:=1
def tw3188546807712506139:=1
def tw12699977504549101559:=1
def tw113113553721665146:=1
def tw18215822464128536255:=1
def tw12653612284155072355:=1
def tw12142885942517985897:=1
def tw4355828448024593765:=1
def tw831033112741449026:=1
def tw12278439438642108359:=1
def tw7914664983152146379:=1
def tw5766189624372194574:=1
def tw5969845199899706442:=1
def tw8417975474920960538:=1
def tw1108681332801975951:=1
def tw12771662795901778567:=1
def tw14510250233915869711:=1
def tw14881166310434974206:=1
def tw4437582336231184945:=1
def tw12510402360912194499:=1
def tw11133671797260028862:=1
def tw13303325514844322145:=1
def tw2800436613397508706:=1
def tw8536702062491917959:=1
def tw5325333589231774629:=1
def tw15479332545329902694:=1
def tw12751302922256716814:=1
def tw14785185623939189192:=1
def tw17258700394391815658:=1
def tw17389808795158607877:=1
def tw13179181205082169337:=1
def tw2086680021118906951:=1
def tw7836119497782613822:=1
def tw8884578524129222270:=1
def tw2399408361005759637:=1
def tw13892513967626196116:=1
def tw11099426067226046400:=1
def tw5129171898721270390:=1
def tw17729170677457734827:=1
def tw742453138069062311:=1
def tw7369537365888562175:=1
def tw17805544275260617498:=1
def tw3915740065119381893:=1
def tw15204723432121610492:=1
def tw464945038755224247:=1
def tw15233874601163677169:=1
def tw13623177379170029702:=1
def tw12017053006654392436:=1
def tw2989965562344472365:=1
def tw185942214353979787:=1
def tw15116077451689922752:=1
def tw10978636745723808814:=1
def tw12697586184665511756:=1
def tw13613550064219130692:=1
def tw14482488860553686511:=1
def tw11750595688058627946:=1
def tw824271651221656785:=1
def tw16649857898001082237:=1
def tw3116096937019136109:=1
def tw9830409409809724907:=1
def tw18162985822873520870:=1
def tw1051394305490510441:=1
def tw794122888594638076:=1
def tw1544878190629501420:=1
def tw5009834738298670879:=1
def tw11021782196851574244:=1
def tw12378464074166051003:=1
def tw5107989324657374481:=1
def tw3882887876053499306:=1
def tw12979516278871310583:=1
def tw4065823715178398575:=1
def tw6785836511577834971:=1
def tw14202007015247127576:=1
def tw18370531117934409447:=1
def tw6356154183938370889:=1
def tw3249045549886823767:=1
def tw8104224265244718609:=1
def tw1409970983988101469:=1
def tw12688178124588073838:=1
def tw12884042011362573410:=1
def tw5991097609211898335:=1
def tw4319514488437413927:=1
def tw5700054826836968857:=1
def tw5748827202874776786:=1
def tw339836206259923139:=1
def tw3948743294918604823:=1
def tw2595556549358336305:=1
def tw11506375837207657292:=1
def tw8262388415830675785:=1
def tw4730142211027522030:=1
def tw14976435177515450300:=1
def tw13355939507388056756:=1
def tw5565680200180747474:=1
def tw17073393311262638434:=1
def tw2971853320687683178:=1
def tw8501792801820558570:=1
def tw11513653161989443874:=1
def tw15911737001964340940:=1
def tw2690853401686045125:=1
def tw6421096352036663438:=1
def tw9598159576864671094:=1
def tw7181756549233074188:=1
def tw15007851970249506527:=1
def tw18032093889800897912:=1
def tw16881119022877169312:=1
def tw3686739165561002827:=1
def tw2647950213374934986:=1
def tw16080438396893535407:=1
def tw7057673360191918185:=1
def tw10214230301360017466:=1
def tw10018783084570354201:=1
def tw2788521096254864768:=1
def tw12321907282354844195:=1
def tw3088597273860157842:=1
def tw2183785578878837409:=1
def tw15505406472183892982:=1
def tw13603059696384596469:=1
def tw16861320748899529532:=1
def tw13625107024914765171:=1
def tw13875092051844996670:=1
def tw14304413082400488404:=1
def tw17191766232016053498:=1
def tw9837522444126220433:=1
def tw7139339356186317021:=1
def tw14532859228818624312:=1
def tw15965273282639691377:=1
def tw8413937445773769500:=1
def tw2573412076023729063:=1
def tw14174217122844311320:=1
def tw13546968496092797440:=1
def tw11877713123232531351:=1
def tw461194343463382560:=1
def tw14829409326597212093:=1
def tw8092269304256518102:=1
def tw10365974712869096673:=1
def tw16140910889364710985:=1
def tw13917527096685673363:=1
def tw5327777302729027573:=1
def tw12656533754852279624:=1
def tw7666019079318878791:=1
def tw15835611061556640877:=1
def tw9711046222577955456:=1
def tw17333804146569448661:=1
def tw13030673957805252250:=1
def tw5331040317831722241:=1
def tw15823266442395183082:=1
def tw9983963033629317908:=1
def tw15740256249321194263:=1
def tw2674932747492094049:=1
def tw15151521411565467763:=1
def tw3912892864683268885:=1
def tw4629521366361955636:=1
def tw4264274713710232476:=1
def tw5422832487536281228:=1
def tw5538347653859864126:=1
def tw6507673038052782542:=1
def tw16828653306609392739:=1
def tw790973485874816654:=1
def tw7904294080144559973:=1
def tw12435273085823795103:=1
def tw4517508913936664648:=1
def tw1043208856266803205:=1
def tw12283865816695984287:=1
def tw641202832992114306:=1
def tw11149115153390679719:=1
def tw7929915128672526612:=1
theorem te2730741295547736951:True:=trivial
end PySem.W.Fast
open PySem PySem.W PyProof.Rows
set_option maxRecDepth 100000 in
set_option maxHeartbeats 0 in
theorem PySem.Challenge.cw_helmsum_k62_least_or_never_holds : PySem.Challenge.rw_helmsum_k62_least_or_never.Holds := by
 w_on;o_law;k_head;(case hw=>w_witness2)
 k_fill
 refine Lw.walk (l:=PySem.Challenge.rw_helmsum_k62_least_or_never) rfl rfl ?hi (λw h Y=>PySem.W.kIn_of Y) ?F
 case hi=>decide +kernel
 case F =>
  intro w mg fa h KX G hmg;refine' Lw.all_mk KX G hmg rfl ?aC ?_ ?_ ?_ ?_ ?_ ?_ ?_ ?_ ?_ ?_ ?_ ?_ ?_ ?_ ?_ ?_ ?_ ?_ ?_ ?_ ?_ ?a21 ?i21 ?l21 ?c21 ?k21 ?_ ?_ ?_ ?_ ?_ ?_ ?_ ?_ ?_ ?_ ?_ ?_ ?_ ?_ ?_ ?_ ?_ ?_ ?_ ?_ ?_ ?a43 ?i43 ?l43 ?c43 ?k43 ?_ ?_ ?_ ?_ ?_ ?_ ?_ ?_ ?_ ?_ ?_ ?_ ?_ ?_ ?_ ?_ ?_ ?_ ?_ ?_ ?_ ?_ ?_ ?_ ?_ ?_ ?_ ?_ ?_ ?_ ?_ ?_ ?_ ?_ ?_ ?_ ?_ ?_ ?_ ?ca0 ?cl0 ?ca1 ?cl1 ?ci0 ?ci1 ?ci2 ?pg ?hd ?po ?sa ?mk ?kc ?n_move ?n_states ?n_put ?n_ins ?n_look ?n_outs ?z_abs ?z_len ?z_min ?z_int ?z_range ?z_isinstance ?z_list ?z_bool ?z_tuple ?z_all ?z_enumerate ?z_max ?z_zip ?z_sum ?z_reversed
  all_goals try refine' VI ?_ ?_ ?_ ?_
  all_goals try k_is