import PyProof.Rows.All
import Wide.All
import OpenK.AllK
import Wide.FinOn
import Lean
import PyProof.EqAt
import PyProof.EqKinds
import PyProof.TupleCall
import PyProof.NeKinds
import PySem.Challenge.RW_helmsum_k84_steered
set_option Elab.async false
set_option linter.all false
set_option maxRecDepth 100000
set_option compiler.extract_closed false
open PySem renaming wpAny_bind→K0,FuncData→Yn,Shared→Yo,wpAny_pure→Yp,Paired→Yt,starEach→Yu,wpAny→Yy,mainGlobals→YA,sizeLine→YB,Program→YS,wpAny_Call_Name_kw→YU,wpAny_mono→YX,wpAny_field→YZ,Around→Y3,cellsFrom→Y4,Builtin→Y5,NameKind→Y7,World→Y9,wpAny_holding→Zc,wpAny_seqItems→Zd,wpAny_nextOf_list_item→Zf,compareOp→Zh,wpAny_setField_rec→Zi,wpAny_passesOwn→Zj,wpAny_callSpecial?_slot→Zr,bootBuiltins→Zt,wpAny_truthy_bool→Zw,wpAny_pyIter_list→Zx,codeAny→Zy,codeAny_mono→ZD,wpAny_pyIter_zip→ZE,rawInt→ZG,wpAny_standAt→ZH,wpAny_execs_nil→ZI,wpAny_updateSeq→ZJ,backTo→ZK,assignEach→ZL,IsPair→ZN,sliceBounds→ZO
open List renaming replicate→Mg,zipWith→W0,range→Yq,map→YO,lookup→Zk,length→Zs,Nodup→ZC
open PySem.Heap renaming get?_push_of_some→Ym,lt_size→Yr,get?_push_size→Yw,get?_update_other→YJ,size_push→YT,FlyingW→ZF
open PySem.PassesOwn renaming never→Yv
open PySem.Value renaming ref→Yx,type→Y6,none→Zb
open PySem.Expr renaming Constant→Yz,Name→YK,Call→ZP
open PySem.Builtin.SmallTypes renaming ownedTupleIsFree→YC,nextOf→YN
open PyProof.Rows renaming boot_list→YD,callWith_type1→YE,boot_int→YR,boot_min→Za,envOfC→Zm,callWith_builtin1→Zq
open PySem.SeqAt renaming EqAt→YF,RcAt→Zu,RcNeAt→Zv
open PySem.Const renaming int→YG
open PySem.W renaming findIn→YH,mg_none_of→YW,emptyDict→YY,instObj→Ze,fnOf→Zl,nsIn→Zn,keepIn→Zp,Looks→ZA
open Ne renaming symm→YI
open False renaming elim→YL
open Classical renaming byContradiction→YM
open PySem.Obj renaming mapSeq→YQ
open PySem.Str renaming ofString→YV
open PySem.NameKind renaming free→Y1
open Int renaming gcd→Y8
open Option renaming none→Zg
open Array renaming length_toList→Zo
open PySem.Builtin.List renaming listExtendWith→Zz
open True renaming intro→ZM
open PySem.Stmt renaming Assign→ZQ
local macro_rules | `($x.$i:fieldIdx) => match i.raw.isFieldIdx? with | some 9 => `(($x).length) | some 8 => `(($x).heap) | some 7 => `(($x).size) | some 6 => `(($x).heap.objs.size) | some 5 => `(($x).toArray) | _ => Lean.Macro.throwUnsupported
local macro_rules | `(#[$a,*]) => `(⟨$a,*⟩)
local macro_rules | `(tactic| obtain $p:rcasesPatMed := $e:term) => do
 let a := p.raw[0].getSepArgs
 let q : Lean.TSyntax `rcasesPat ← if a.size == 1 then pure ⟨a[0]!⟩ else do
  let l ← a.mapM fun x => `(Lean.Parser.Tactic.rcasesPatLo| $(⟨x⟩):rcasesPat)
  `(rcasesPat| ⟨$l,*⟩)
 `(tactic| first | (refine YM fun ng => ?_; (rcases $e:term with $q:rcasesPat) <;> (refine ng ?_; clear ng)) | rcases $e:term with $q:rcasesPat)
local macro_rules | `(()) => `(by first | decide | lia)
abbrev aa:=@List.getD_eq_getElem?_getD
abbrev ae:=@List.getElem?_eq_getElem
abbrev af:=@List.length_map
abbrev ag:=@Nat.le_trans
abbrev ah:=@Nat.le_refl
abbrev ai:=@List.mem_of_getElem?
abbrev ao:=@List.length_append
abbrev ar:=@Nat.pow_le_pow_right
abbrev au:=@List.mem_map
abbrev aw:=@List.getElem?_map
abbrev ax:=@Nat.mul_le_mul_right
abbrev ay:=@List.mem_cons
abbrev az:=@List.getElem_mem
abbrev aB:=@List.mem_append
abbrev aF:=@List.take_of_length_le
abbrev aG:=@List.getElem?_eq_none
abbrev aH:=@List.not_mem_nil
abbrev aI:=@List.getElem?_eq_some_iff
abbrev aJ:=@Rat.intCast_natCast
abbrev aL:=@Rat.intCast_mul
abbrev aM:=@List.size_toArray
abbrev aN:=@List.length_range
abbrev aP:=@Nat.mul_le_mul
abbrev aQ:=@List.length_singleton
abbrev aR:=@Nat.lt_or_ge
abbrev aT:=@List.length_zipWith
abbrev aU:=@List.mem_singleton
abbrev aV:=@Bool.false_ne_true
abbrev aW:=@PySem.boot_len
abbrev aZ:=@Nat.lt_of_le_of_lt
abbrev a8:=@Nat.zero_le
abbrev bf:=@List.length_take
abbrev bu:=@Nat.mul_comm
abbrev bC:=@Nat.one_le_two_pow
abbrev bD:=@Nat.lt_of_lt_of_le
abbrev bE:=@List.getElem?_append_right
abbrev bG:=@Nat.pow_add
abbrev bI:=@List.getElem?_range
abbrev bJ:=@List.getD_cons_zero
abbrev bK:=@List.getD_cons_succ
abbrev bL:=@List.length_cons
abbrev bM:=@List.getElem?_append_left
abbrev bN:=@List.getElem_of_mem
abbrev bP:=@Option.some.inj
abbrev bR:=@Nat.ne_of_lt
abbrev bS:=@List.mem_cons_of_mem
abbrev bV:=@List.getElem?_zipWith
abbrev b6:=@List.mem_append_right
abbrev b8:=@Nat.mul_pos
abbrev b9:=@Int.natAbs_natCast
abbrev ck:=@List.mem_of_mem_take
abbrev cy:=@List.append_assoc
abbrev cz:=@List.ext_getElem
abbrev cA:=@Rat.zero_mul
abbrev cD:=@Nat.mul_assoc
abbrev cE:=@List.length_replicate
abbrev cF:=@List.map_congr_left
abbrev cG:=@Nat.le_mul_of_pos_left
abbrev cI:=@PySem.F.type_list_append
abbrev cJ:=@PySem.F.slot_list_append
abbrev cK:=@List.getElem_map
abbrev cO:=@Rat.intCast_neg
abbrev cP:=@Nat.not_lt_zero
abbrev cQ:=@List.nodup_cons
abbrev cR:=@List.map_append
abbrev cS:=@List.length_set
abbrev cU:=@List.mem_cons_self
abbrev cV:=@Int.fdiv_eq_ediv_of_nonneg
abbrev cW:=@PySem.F.plainAttrs_list
abbrev cY:=@Nat.mul_le_mul_left
abbrev cZ:=@List.mem_or_eq_of_mem_set
abbrev c6:=@Rat.div_def
abbrev c7:=@Nat.pow_succ
abbrev de:=@Rat.mul_comm
abbrev dg:=@List.nil_append
abbrev dh:=@List.mem_range
abbrev dm:=@Nat.pow_lt_pow_right
abbrev dn:=@List.getElem_zipWith
abbrev du:=@Rat.mul_zero
abbrev dG:=@Nat.succ_mul
abbrev dH:=@Nat.le_of_lt
abbrev dO:=@Rat.intCast_inj
abbrev dP:=@PySem.W.kia_one
abbrev dW:=@Bool.and_eq_true
abbrev dX:=@List.drop_eq_getElem_cons
abbrev d5:=@List.nodup_append
abbrev eB:=@List.getElem?_take_of_lt
abbrev eC:=@Int.natAbs_mul
abbrev eE:=@Int.mul_assoc
abbrev eJ:=@Nat.eq_zero_or_pos
abbrev eQ:=@Rat.intCast_eq_zero_iff
abbrev eT:=@Nat.succ_le_succ
abbrev eU:=@Nat.le_mul_of_pos_right
abbrev eV:=@List.length_drop
abbrev eX:=@List.getElem?_replicate
abbrev eY:=@Int.mul_pos
abbrev fK:=@List.append_nil
abbrev fU:=@Int.natAbs_dvd_natAbs
abbrev fY:=@List.cons_append
abbrev fZ:=@Int.gcd_dvd_left
abbrev gG:=@Nat.lt_irrefl
abbrev gH:=@List.sum_cons
abbrev gI:=@List.map_map
abbrev gJ:=@List.eq_of_mem_replicate
abbrev gW:=@Int.gcd_dvd_right
abbrev ij:=@Nat.add_comm
abbrev ik:=@Int.mul_comm
abbrev iB:=@List.map_cons
abbrev iD:=@Nat.lt_succ_self
abbrev iE:=@Nat.dvd_mul_left
abbrev iH:=@List.nodup_nil
abbrev iM:=@Bool.beq_eq_decide_eq
abbrev i8:=@List.range_succ
abbrev ja:=@List.mem_filter
abbrev ji:=@Rat.mul_one
abbrev jk:=@Rat.add_zero
abbrev jm:=@Nat.zero_add
abbrev jo:=@Nat.sub_self
abbrev jq:=@List.sum_nil
abbrev jM:=@Option.getD_some
abbrev jW:=@Nat.pow_pos
abbrev jZ:=@Nat.min_self
abbrev j4:=@Int.emod_lt_of_pos
abbrev j6:=@Bool.false_eq_true
abbrev kE:=@Rat.intCast_add
abbrev kG:=@Nat.le_of_dvd
abbrev lU:=@Nat.dvd_mul_right
abbrev lV:=@List.flatten_cons
abbrev md:=@List.mem_of_mem_drop
abbrev mh:=@List.mem_append_left
abbrev mi:=@Int.natAbs_neg
abbrev nk:=@PySem.IsL.update
abbrev nv:=@List.lookup_cons
abbrev nC:=@Int.gcd_comm
abbrev nJ:=@PySem.F.plain_extend_loop
abbrev nK:=@PySem.mem_of_lookup
abbrev nM:=@Nat.pow_le_pow_left
abbrev nN:=@List.replicate_succ
abbrev ou:=@Nat.le_antisymm
abbrev ox:=@Int.emod_nonneg
abbrev oy:=@Bool.eq_iff_iff
abbrev oB:=@PySem.W.callWith_K
abbrev oC:=@List.getElem_range
abbrev o8:=@Nat.mul_add
abbrev o9:=@Int.natCast_dvd_natCast
abbrev pd:=@Int.eq_ofNat_of_zero_le
abbrev ph:=@Int.dvd_mul_of_dvd_left
abbrev pW:=@Nat.ne_of_gt
abbrev pX:=@Nat.lt_trichotomy
abbrev pY:=@List.forIn_nil
abbrev pZ:=@List.ext_getElem?
abbrev qY:=@PySem.F.slot_zip_next
abbrev rf:=@Nat.min_le_right
abbrev rg:=@Nat.le_add_right
abbrev rh:=@List.all_eq_true
abbrev sW:=@Rat.natCast_mul
abbrev sX:=@List.length_zip
abbrev sY:=@List.forIn_cons
abbrev uz:=@List.filterMap_cons
abbrev uK:=@Rat.zero_add
abbrev uL:=@Int.zero_add
abbrev uW:=@List.getElem?_drop
abbrev uX:=@Int.eq_of_mul_eq_mul_right
abbrev vJ:=@Int.mul_neg_of_pos_of_neg
abbrev wZ:=@Rat.one_mul
abbrev w5:=@Nat.pow_mul
abbrev xf:=@Nat.one_mul
abbrev xg:=@List.reverse_cons
abbrev xj:=@Rat.mul_assoc
abbrev yI:=@List.mem_flatten
abbrev zB:=@PySem.W.cellsFrom_some
abbrev zC:=@Nat.add_zero
abbrev zD:=@List.length_pos_of_mem
abbrev zE:=@List.drop_of_length_le
abbrev zF:=@Int.dvd_refl
abbrev Bi:=@Rat.intCast_sub
abbrev Dn:=@Nat.le_succ
abbrev Dp:=@List.replicate_succ'
abbrev Fv:=@PySem.W.plainGet_of
abbrev Fw:=@List.length_reverse
abbrev Iu:=@Nat.dvd_trans
abbrev Iv:=@Int.natAbs_eq
abbrev IA:=@Rat.sub_eq_add_neg
abbrev IB:=@Rat.mul_inv_cancel
abbrev IC:=@Rat.inv_mul_cancel
abbrev ID:=@Rat.div_mul_cancel
abbrev IE:=@Nat.sub_add_cancel
abbrev IF:=@Nat.add_sub_cancel
abbrev IG:=@List.mem_filterMap
abbrev IH:=@List.filter_append
abbrev II:=@List.append_of_mem
abbrev Ln:=@Nat.zero_mul
abbrev Lo:=@Nat.lt_succ_of_lt
abbrev Lp:=@Nat.le_of_eq
abbrev M7:=@Nat.le_of_not_lt
abbrev M8:=@List.getElem_set
abbrev PU:=@Nat.add_mul
abbrev PV:=@List.map_id
abbrev PX:=@Int.dvd_gcd
abbrev P4:=@List.of_mem_zip
abbrev P6:=@Int.gcd_pos_of_ne_zero_right
abbrev VO:=@PySem.F.entry_extend_loop
abbrev VP:=@List.getElem?_zip_eq_some
abbrev VQ:=@Int.natAbs_ediv_of_nonneg
abbrev VT:=@Option.isSome_iff_exists
abbrev VU:=@List.all_cons
abbrev VV:=@Int.mul_fdiv_cancel_left
abbrev XB:=@PySem.F.args_zip_next_1
abbrev XC:=@List.filter_cons_of_pos
abbrev XD:=@List.filter_cons_of_neg
abbrev LR9:=List (List Rat)
abbrev FG9:=PySem.W.Frag
namespace L2
open PySem PySem.Spec PyProof.Rows
abbrev Key:=Sum Int Str
def S8:Key->Value->Bool
 | .inl k,v=>Value.isInt k v
 | .inr x,v=>Value.isStrOf x v
def X7 (w:Y9):Key->Int
 | .inl k=>hashInt k
 | .inr x=>hashStr w x
theorem gV:∀{k:Key} {v:Value},S8 k v=true->(∃i t,k=Sum.inl i/\v=Value.int i t)\/(∃x t,k=Sum.inr x/\v=Value.str x t)
 | .inl i,v,h=>by
  obtain t|e:=Value.isInt_shape (k:=i) (v:=v) h;exact .inl #[i,t,rfl,e]
 | .inr x,v,h=>by
  obtain t|e:=Value.isStrOf_shape (x:=x) (v:=v) h;exact .inr #[x,t,rfl,e]
theorem Vc (a b:Int):decide ((Sum.inl a:Key)=Sum.inl b)=(a == b):=by
 by_cases e:a=b
 ·subst e;simp
 ·have h:¬(Sum.inl a:Key)=Sum.inl b:=λq=>e (Sum.inl.inj q)
  rw[decide_eq_false h];exact (beq_eq_false_iff_ne.mpr e).symm
theorem U8 (a b:Str):decide ((Sum.inr a:Key)=Sum.inr b)=decide (a=b):=by
 by_cases e:a=b
 ·subst e;simp
 ·have h:¬(Sum.inr a:Key)=Sum.inr b:=λq=>e (Sum.inr.inj q)
  rw[decide_eq_false h,decide_eq_false e]
theorem Va (a:Int) (b:Str):decide ((Sum.inl a:Key)=Sum.inr b)=false:=decide_eq_false (λq=>nomatch q)
theorem U9 (a:Str) (b:Int):decide ((Sum.inr a:Key)=Sum.inl b)=false:=decide_eq_false (λq=>nomatch q)
def Kz (prog:YS) (w:Y9):PySem.KeyKind prog w Key where
 is:=S8
 hash:=X7 w
 inj:=λv a b ha hb=>by
  rcases gV ha with ⟨i,t,rfl,rfl⟩ | ⟨x,t,rfl,rfl⟩
  ·rcases gV hb with ⟨j,u,rfl,e⟩ | ⟨y,u,rfl,e⟩
   ·injection e with e1 _;rw[e1]
   ·exact nomatch e
  ·rcases gV hb with ⟨j,u,rfl,e⟩ | ⟨y,u,rfl,e⟩
   ·exact nomatch e
   ·injection e with e1 _;rw[e1]
 byValue:=λk v h=>by
  rcases gV h with ⟨i,t,rfl,rfl⟩ | ⟨x,t,rfl,rfl⟩ <;> rfl
 pyHash:=λhv h=>by
  rcases gV hv with ⟨i,t,rfl,rfl⟩ | ⟨x,t,rfl,rfl⟩
  ·exact wpAny_pyHash_int h
  ·exact wpAny_pyHash_str h
 eqBool:=λhu hv h=>by
  rcases gV hu with ⟨i,t,rfl,rfl⟩ | ⟨x,t,rfl,rfl⟩
  ·rcases gV hv with ⟨j,u,rfl,rfl⟩ | ⟨y,u,rfl,rfl⟩
   ·rw[Vc] at h;exact wpAny_eqBool_int h
   ·rw[Va] at h;exact YF.int_str i t y u _ _ _ _ h
  ·rcases gV hv with ⟨j,u,rfl,rfl⟩ | ⟨y,u,rfl,rfl⟩
   ·rw[U9] at h;exact YF.str_int x t j u _ _ _ _ h
   ·rw[U8] at h;exact wpAny_eqBool_str h
 «strs»:=λk x t v h=>by
  rcases gV h with ⟨i,u,rfl,e⟩ | ⟨y,u,rfl,e⟩
  ·exact nomatch e
  ·injection e with e1 _
   subst e1;cases v <;> rfl
inductive V where
  | non | bl (b : Bool) | int (i : Int) | str (x : Str) | byt (b : Array UInt8) | flt (b : UInt64) | ref (a : Addr) | ty (n : String)
  deriving DecidableEq

def RelV:V->Value->Prop
 | .non,u=>u=Zb
 | .bl b,u=>u=Value.bool b
 | .int i,u=>∃t,u=Value.int i t
 | .str x,u=>∃t,u=Value.str x t
 | .byt b,u=>∃t,u=Value.bytes b t
 | .flt b,u=>∃t,u=Value.float b t
 | .ref a,u=>u=Yx a
 | .ty n,u=>u=Y6 n
abbrev cX:List V->List Value->Prop:=Yt RelV
theorem cX.length (r:cX xs us):xs.9=us.9:=Yt.length r
theorem cX.get:∀{xs:List V} {us:List Value} {i:Nat} {x:V},cX xs us->xs[i]?=some x->∃u,us[i]?=some u/\RelV x u
 | _,_,_,_,.nil,e=>by simp at e
 | _,_,0,_,.cons r _,e=>by simp at e;subst e;exact #[_,rfl,r]
 | _,_,i+1,x,.cons _ t,e=>by
  obtain u|h1|h2:=cX.get (i:=i) (x:=x) t (by simpa using e);exact #[u,by simpa using h1,h2]
theorem cX.set {x:V} {u:Value} (r:RelV x u):∀{xs:List V} {us:List Value} (i:Nat),cX xs us->cX (xs.set i x) (us.set i u)
 | _,_,_,.nil=>.nil
 | _,_,0,.cons _ t=>.cons r t
 | _,_,i+1,.cons q t=>.cons q (cX.set r i t)
theorem cX.append:∀{xs ys:List V} {us ws:List Value},cX xs us->cX ys ws->cX (xs++ys) (us++ws)
 | _,_,_,_,.nil,s=>s
 | _,_,_,_,.cons r t,s=>.cons r (cX.append t s)
theorem cX.take:∀{xs:List V} {us:List Value} (n:Nat),cX xs us->cX (xs.take n) (us.take n)
 | _,_,0,_=>.nil
 | _,_,_+1,.nil=>.nil
 | _,_,n+1,.cons r t=>.cons r (cX.take n t)
theorem cX.drop:∀{xs:List V} {us:List Value} (n:Nat),cX xs us->cX (xs.drop n) (us.drop n)
 | _,_,0,r=>r
 | _,_,_+1,.nil=>.nil
 | _,_,n+1,.cons _ t=>cX.drop n t
def Bf:Option V->Option Value->Prop
 | some v,some u=>RelV v u
 | none,none=>True
 | _,_=>False
def KV {κ:Type}:List (κ×V)->List (κ×Value)->Prop:=Yt λ(p:κ×V) (q:κ×Value)=>p.1=q.1/\RelV p.2 q.2
def kV:Key->V
 | .inl i=>.int i
 | .inr x=>.str x
inductive HO where
 | lst (xs:List V)
 | tup (xs:List V)
 | dK (kvs:List (Key×V)) | dT (kvs:List (List Key×V))
 | set (S:Int->Bool) (n:Nat)
 | ins (C dx:Addr) (fs:List (Str×V))
 | own (x:Addr)
 | xd (fs:List (Str×V))
 | met (f x:Addr)
 | rng (lo hi:Int)
 | frz (o:Obj) (u:HO)
 | tbl (ps:Array Value)
 | ext (φ:Heap->Prop)
abbrev Hp:=Addr->Option HO
def upd (H:Hp) (a:Addr) (o:HO):Hp:=λb=>if b=a then some o else H b
theorem aD:upd H a o a=some o:=by unfold upd;rw[if_pos rfl]
theorem aY (h:b≠a):upd H a o b=H b:=by unfold upd;rw[if_neg h]
theorem hZ {H:Hp} (h:H a=some o) (h':H b=none):a≠b:=by
 intro e;subst e;rw[h] at h';cases h'
section
variable (P:YS) (w:Y9)
def iG (H:Hp) (h:Heap) (a:Addr):HO->Prop
 | .lst xs=>xs.9<=YB/\∃(its:List Value) (n:Nat),cX xs its/\h.get? a=some { cls:=.type "list",data:=.seq its.toArray n }
 | .tup xs=>xs.9<=YB/\∃its:List Value,cX xs its/\IsTup h a its.5
 | .dK kvs=>kvs.9<=YB/\(a == sysModules)=false/\∃vs,KV kvs vs/\h.DictOf (Kz P w) a vs
 | .dT kvs=>kvs.9<=YB/\(a == sysModules)=false/\∃xs:List (List Key×Addr×Value),
   Yt (λ(p:List Key×V) (q:List Key×Addr×Value)=>p.1=q.1/\H q.2.1=some (.tup (p.1.map kV))/\RelV p.2 q.2.2) kvs xs /\
   ∃o es ep,h.get? a=some o/\o.ExactDict/\o.data=.dict es ep/\es.toList=xs.map (entryOfKey (tupleKind (Kz P w)))/\(xs.map (·.1)).Nodup
 | .set S n=>h.SetOf (intKind P w) a S n
 | .ins C dx fs=>H dx=some (.own a)/\fs.9<=1000/\dx≠a/\h.get? a=some (Ze C dx) /\
   ∃mA,h.Ns1 dx mA/\(∀f,Bf (fs.lookup f) (mA f))/\PySem.Within mA (fs.map (·.1))
 | .own _=>∃o,h.get? a=some o
 | .xd fs=>∃mA,h.Ns1 a mA/\∀f,Bf (fs.lookup f) (mA f)
 | .rng lo hi=>∃t u v,h.get? a=some { cls:=.type "range",data:=.fields [.int lo t,.int hi u,.int 1 v].toArray }
 | .frz o u=>h.get? a=some o/\iG H h a u
 | .tbl ps=>h.get? a=some { cls:=.none,data:=.fields ps }
 | .met f x=>h.get? a=some (PySem.W.methodObj (.ref f) (.ref x))
 | .ext φ=>φ h/\(∃o,h.get? a=some o)/\∀h1 h2:Heap,φ h1->(∀o,h1.get? a=some o->h2.get? a=some o)->φ h2
def xh (H:Hp) (h:Heap):Prop:=∀a o,H a=some o->iG P w H h a o
end
section
variable {P:YS} {w:Y9} {H H':Hp} {h h':Heap} {a:Addr} {o:HO}
theorem iG.lt (x:iG P w H h a o):a < h.objs.7:=by
 cases o with
 | lst xs=>obtain _|_|_|_|e:=x;exact Yr e
 | tup xs=>obtain _|_|_|p:=x;exact p.lt
 | dK kvs=>obtain _|_|_|_|o|_|_|e|_:=x;exact Yr e
 | dT kvs=>obtain _|_|_|_|o|_|_|e|_:=x;exact Yr e
 | set S n=>obtain o|_|_|_|e|_:=x;exact Yr e
 | ins C dx fs=>obtain _|_|_|e|_:=x;exact Yr e
 | own y=>obtain _|e:=x;exact Yr e
 | xd fs=>obtain _|⟨_,_,_,e,_⟩|_:=x;exact Yr e
 | rng lo hi=>obtain _|_|_|e:=x;exact Yr e
 | frz ob u=>obtain e|_:=x;exact Yr e
 | tbl ps=>exact Yr (show h.get? a=some _ from x)
 | met f y=>exact Yr (show h.get? a=some _ from x)
 | ext φ=>obtain _|⟨_,e⟩|_:=x;exact Yr e
theorem Yt.mapP {α β:Type} {F G:α->β->Prop}:∀{l₁:List α} {l₂:List β},Yt F l₁ l₂->(∀a b,F a b->G a b)->Yt G l₁ l₂
 | _,_,.nil,_=>.nil
 | _,_,.cons r t,f=>.cons (f _ _ r) (Yt.mapP t f)
theorem Yt.imp' {F G:α->β->Prop} (f:∀a b,F a b->G a b) {l₁:List α} {l₂:List β} (r:Yt F l₁ l₂):Yt G l₁ l₂:=Yt.mapP r f
abbrev ce:=@Yt.imp'
theorem iG.stay (x:iG P w H h a o) (k:∀b u,(b=a\/H b=some (.own a))->h.get? b=some u->h'.get? b=some u)
  (ho:∀b,H b=some (.own a)->H' b=some (.own a)) (ht:∀b xs,H b=some (.tup xs)->H' b=some (.tup xs)):iG P w H' h' a o:=by
 induction o with
 | lst xs=>obtain z|its|n|r|e:=x;exact #[z,its,n,r,k _ _ (.inl rfl) e]
 | tup xs=>obtain z|its|r|ob|e|c:=x;exact #[z,its,r,ob,k _ _ (.inl rfl) e,c]
 | dK kvs=>obtain z|y|vs|r|ob|es|ep|e|c:=x;exact #[z,y,vs,r,ob,es,ep,k _ _ (.inl rfl) e,c]
 | dT kvs =>
  obtain z|y|xs|r|ob|es|ep|e|c:=x;exact #[z,y,xs,Yt.mapP r λp q z=>#[z.1,ht _ _ z.2.1,z.2.2],ob,es,ep,k _ _ (.inl rfl) e,c]
 | set S n=>obtain ob|es|ep|t|e|c:=x;exact #[ob,es,ep,t,k _ _ (.inl rfl) e,c]
 | ins C dx fs =>
  obtain d|z|ne|e|mA|⟨od,es,ep,e2,c⟩|r:=x;exact #[ho _ d,z,ne,k _ _ (.inl rfl) e,mA,#[od,es,ep,k _ _ (.inr d) e2,c],r]
 | own y=>obtain ob|e:=x;exact #[ob,k _ _ (.inl rfl) e]
 | xd fs=>obtain mA|⟨od,es,ep,e,c⟩|r:=x;exact #[mA,#[od,es,ep,k _ _ (.inl rfl) e,c],r]
 | rng lo hi=>obtain t|u|v|e:=x;exact #[t,u,v,k _ _ (.inl rfl) e]
 | frz ob u ih=>obtain e|q:=x;exact #[k _ _ (.inl rfl) e,ih q]
 | tbl ps =>
  have e:h.get? a=some { cls:=.none,data:=.fields ps }:=x;show h'.get? a=some { cls:=.none,data:=.fields ps }
  exact k a _ (.inl rfl) e
 | met f y =>
  have e:h.get? a=some (PySem.W.methodObj (.ref f) (.ref y)):=x;show h'.get? a=some (PySem.W.methodObj (.ref f) (.ref y))
  exact k a _ (.inl rfl) e
 | ext φ=>obtain p|⟨o,e⟩|st:=x;exact #[st _ _ p λo q=>k _ _ (.inl rfl) q,#[o,k _ _ (.inl rfl) e],st]
theorem xh.lt (x:xh P w H h) (e:H a=some o):a < h.objs.7:=(x a o e).lt
theorem xh.fresh (x:xh P w H h) (e:h.objs.7<=a):H a=none:=by
 cases q:H a with
 | none=>rfl
 | some u=>exact absurd (bD (x.lt q) e) (gG _)
theorem xh.kept (x:xh P w H h) (k:∀b u,h.get? b=some u->h'.get? b=some u):xh P w H h':=λa o e =>
 (x a o e).stay (λb u _ q=>k b u q) (λ_ q=>q) λ_ _ q=>q
theorem xh.laid (x:xh P w H h) (k:∀b u,h.get? b=some u->h'.get? b=some u) (hp:h.objs.7<=a) (new:iG P w (upd H a o) h' a o):xh P w (upd H a o) h':=λb u e=>by
 have hn:=x.fresh hp;by_cases hb:b=a
 ·subst hb;rw[aD] at e;cases e;exact new
 ·rw[aY hb] at e;exact (x b u e).stay (λc v _ q=>k c v q) (λc q=>by rw[aY (hZ q hn)];exact q) λc xs q=>by rw[aY (hZ q hn)];exact q
end
def Rd (H:Hp) (a:Addr) (u:HO):Prop:=H a=some u\/∃o,H a=some (.frz o u)
theorem Rd.ok (r:Rd H a u) (x:xh P w H h):iG P w H h a u:=by
 rcases r with r | ⟨o,r⟩
 ·exact x a u r
 ·obtain _|q:=x a _ r;exact q
def XQ:Option HO->Prop
 | some (.lst _)=>True
 | some (.dK _)=>True
 | some (.dT _)=>True
 | some (.set _ _)=>True
 | some (.ins _ _ _)=>True
 | some (.ext _)=>True
 | _=>False
theorem xh.write (ok:xh P w H h) (mu:XQ (H x)) (he:e=x\/H e=some (.own x)) (k:∀b u,b≠e->h.get? b=some u->h'.get? b=some u) (heo:∃u,h'.get? e=some u)
  (new:iG P w (upd H x o') h' x o'):xh P w (upd H x o') h':=λb u q=>by
 have nown:∀c y,H c=some (.own y)->c≠x:=λc y r z=>by subst z;rw[r] at mu;exact mu
 have ntup:∀c xs,H c=some (.tup xs)->c≠x:=λc xs r z=>by subst z;rw[r] at mu;exact mu
 by_cases hb:b=x
 ·subst hb;rw[aD] at q;cases q;exact new
 ·rw[aY hb] at q;by_cases hbe:b=e
  ·have q':H b=some (.own x):=by
    rcases he with z | z
    ·exact absurd (hbe.trans z) hb
    ·rw[hbe];exact z
   rw[q] at q';cases q';obtain v|hv:=heo;exact #[v,by rw[hbe];exact hv]
  ·refine (ok b u q).stay (λc v hc r=>k c v ?_ r) (λc r=>by rw[aY (nown c b r)];exact r) λc xs r=>by rw[aY (ntup c xs r)];exact r
   rcases hc with rfl | hc
   ·exact hbe
   ·rintro rfl;rcases he with z | z
    ·exact nown c b hc z
    ·rw[hc] at z;cases z;exact hb rfl
structure Un (fs ex:List Addr) (H H':Hp) (h h':Heap):Prop where
 keep:∀b o,h.get? b=some o->H b=none->b∉fs->b∉ex->h'.get? b=some o
 slot:∀b o,h.get? b=some o->H b=none->b∈fs->b∉ex->∃sl,h'.get? b=some { o with slots:=sl }
 free:∀b o,h.get? b=some o->H b=none->b∉ex->H' b=none
 there:∀b o,h.get? b=some o->b∉ex->∃o',h'.get? b=some o'
 tups:∀b xs,H b=some (.tup xs)->H' b=some (.tup xs)
 frzs:∀b o u,H b=some (.frz o u)->H' b=some (.frz o u)
 tbls:∀b ps,H b=some (.tbl ps)->∃more,H' b=some (.tbl (ps++more))
section
variable {fs fs' ex ex':List Addr} {H H1 H2:Hp} {h h1 h2 h':Heap} {a x e:Addr} {o:HO}
theorem Un.any (u:Un fs ex H H1 h h1) (q:h.get? b=some ob) (n:H b=none) (hx:b∉ex):∃sl,h1.get? b=some { ob with slots:=sl }:=by
 by_cases hb:b∈fs
 ·exact u.slot b ob q n hb hx
 ·exact #[ob.slots,u.keep b ob q n hb hx]
theorem Un.kept (k:∀b u,h.get? b=some u->h'.get? b=some u):Un fs ex H H h h' :=
 #[λb ob q _ _ _=>k b ob q,λb ob q _ _ _=>#[ob.slots,k b ob q],λ_ _ _ n _=>n,λb ob q _=>#[ob,k b ob q],λ_ _ q=>q,λ_ _ _ q=>q,λ_ ps q=>#[[].toArray,by rw[q];simp]]
theorem Un.refl:Un fs ex H H h h:=Un.kept λ_ _ q=>q
theorem Un.laid (k:∀b u,h.get? b=some u->h'.get? b=some u) (hp:h.objs.7<=a) (hn:H a=none):Un fs ex H (upd H a o) h h' where
 keep:=λb u q _ _ _=>k b u q
 slot:=λb u q _ _ _=>#[u.slots,k b u q]
 free:=λb u q n _=>by rw[aY (bR (bD (Yr q) hp))];exact n
 there:=λb u q _=>#[u,k b u q]
 tups:=λb xs q=>by rw[aY (hZ q hn)];exact q
 frzs:=λb u xs q=>by rw[aY (hZ q hn)];exact q
 tbls:=λb ps q=>#[[].toArray,by rw[aY (hZ q hn),q];simp]
theorem Un.write (mu:XQ (H x)) (he:e=x\/H e=some (.own x)) (k:∀b u,b≠e->h.get? b=some u->h'.get? b=some u) (heo:∃u,h'.get? e=some u):Un fs ex H (upd H x o) h h':=by
 have hx:∀b,H b=none->b≠x:=λb n z=>by subst z;rw[n] at mu;exact mu
 have hb:∀b,H b=none->b≠e:=λb n z=>by
  subst z;rcases he with r | r
  ·exact hx b n r
  ·rw[n] at r;cases r
 have hm:∀b u,H b=some u->¬XQ (some u)->b≠x:=λb u q nm z=>by subst z;rw[q] at mu;exact nm mu
 refine #[λb u q n _ _=>k b u (hb b n) q,λb u q n _ _=>#[u.slots,k b u (hb b n) q],λb u q n _=>by rw[aY (hx b n)];exact n,λb u q _=>?_,
  λb xs q=>by rw[aY (hm b _ q λz=>z)];exact q,λb u xs q=>by rw[aY (hm b _ q λz=>z)];exact q,λb ps q=>#[[].toArray,by rw[aY (hm b _ q λz=>z),q];simp]]
 by_cases hbe:b=e
 ·subst hbe;exact heo
 ·exact #[u,k b u hbe q]
end
def XI (h:Heap) (H:Hp):List Addr:=(Yq h.objs.7).filter λa=>(H a).isSome
def Ew (h:Heap) (H:Hp):Heap:=PySem.W.hideAll h (XI h H)
theorem Mi (h:Heap) (H:Hp):(Ew h H).objs.size=h.objs.7:=PySem.W.hideAll_size _ _
theorem OT (e:h.get? b=some o) (n:H b=none):(Ew h H).get? b=some o :=
 PySem.W.hideAll_get _ e λhm=>by
  have q:(H b).isSome=true:=(ja.mp hm).2;rw[n] at q;simp at q
theorem Rf (e:(Ew h H).get? b=some o):h.get? b=some o/\H b=none:=by
 have e':h.get? b=some o:=PySem.W.of_hideAll (XI h H) e;refine #[e',?_];cases q:H b with
 | none=>rfl
 | some x =>
  have hm:b∈XI h H:=ja.mpr #[dh.mpr (Yr e'),by simp [q]];have z:(Ew h H).get? b=none:=PySem.W.hideAll_none (XI h H) hm;rw[z] at e;cases e
structure Mod (K:FG9) (mg:Str->Option Value) (base:Heap):Prop where
 kin:K.In base
 glob:base.Ns YA mg
 blt:∃mb,base.Ns builtinsNs mb/\∀x:Str,x≠"__name__"->mb x=Zt x
 nolimit:base.NoLimit
 seer:base.NoSeer
structure Cx where
 prog:YS
 w:Y9
 K:FG9
 mg:Str->Option Value
 base:Heap
 A:Y3
 N:List Str
 s₀:Yo
 H₀:Hp
 env:Env
 outer:List Env
 stack:List Env
 ex:List Addr
 fn:Str->Bool
 calm:Bool
 pn:List (Addr×Obj)
 xe:Value->Yo->Prop
def wH (l:List Env):List Addr:=l.filterMap (·.frame)
abbrev Cx.fs (X:Cx):List Addr:=wH X.outer
def Yc (sc:Scope) (x:Str):Prop:=sc.names.lookup x=some .local\/sc.names.lookup x=some .cell\/sc.names.lookup x=some .free
def Loc (sc:Scope) (x:Str):Prop:=sc.names.lookup x=some .local\/sc.names.lookup x=some .cell
def Look (env:Env) (h:Heap) (m:Str->Option Value) (x:Str) (u:Value):Prop :=
 (env.kindOf x=some .local/\m x=some u)\/((env.kindOf x=some .cell\/env.kindOf x=some .free)/\∃c,env.cells.lookup x=some c/\h.IsCell c (some u))
structure Cx.Ok (X:Cx):Prop where
 mod:Mod X.K X.mg X.base
 kind:X.env.scope.kind=.function
 glob:X.env.globals=YA
 blt:X.env.builtins=builtinsNs
 above:X.s₀.6<=X.env.locals
 inj:∀x y c,X.env.cells.lookup x=some c->X.env.cells.lookup y=some c->x=y
 has:∀x,(X.env.kindOf x=some .cell\/X.env.kindOf x=some .free)->∃c,X.env.cells.lookup x=some c
 cab:∀x c,X.fn x=true->X.env.cells.lookup x=some c->X.s₀.6<=c
 hd:X.calm=true->X.A.handled=none
 frames:X.A.frames=some X.stack
 stk:X.stack=X.outer\/(X.stack=X.env :: X.outer/\X.env.frame=some X.env.locals)
 exf:∀b∈X.ex,b≠X.env.locals/\∀x c,X.env.cells.lookup x=some c->c≠b
 bs:∀b o,X.base.get? b=some o->X.s₀.heap.get? b=some o/\X.H₀ b=none
 bsz:X.base.objs.7<=X.s₀.heap.objs.size
 noex:∀b o,X.base.get? b=some o->b∉X.ex
 exfs:∀b∈X.ex,b∉X.fs
 funs:X.s₀.heap.FunFrames X.base X.outer
 frf:∀b∈X.fs,X.H₀ b=none
structure Inv (X:Cx) (pins:List (Addr×Obj)) (σ:List (Option V)) (H:Hp) (s:Yo):Prop where
 ok:X.Ok
 os:s.os=X.s₀.os
 bare:AllBare s.gens
 base:Un X.fs X.ex X.H₀ H X.s₀.heap s.heap
 loc:∃m,s.heap.Ns X.env.locals m/\∀(i:Nat) (x:Str) (v:V),X.N[i]?=some x->σ[i]?=some (some v)->Yc X.env.scope x->∃u,RelV v u/\Look X.env s.heap m x u
 cell:∀x c,X.env.cells.lookup x=some c->∃v,s.heap.IsCell c v
 free:H X.env.locals=none
 freeC:∀x c,X.env.cells.lookup x=some c->H c=none
 pin:∀p∈X.pn++pins,s.heap.get? p.1=some p.2/\H p.1=none/\p.1≠X.env.locals/\p.1∉X.fs/\∀v,p.2.data≠.cell v
 hok:xh X.prog X.w H s.heap
 len:σ.9=X.N.9
section
variable {X:Cx} {pins:List (Addr×Obj)} {σ:List (Option V)} {H H':Hp} {s:Yo} {h':Heap}
theorem Cx.Ok.nofr (ok:X.Ok) (e:X.base.get? b=some o):b∉X.fs:=λhb=>by
 have:=(ok.funs.mem hb).1;rw[e] at this;cases this
theorem Inv.bs (I:Inv X pins σ H s):∀b o,X.base.get? b=some o->s.heap.get? b=some o/\H b=none:=λb o e =>
 #[I.base.keep b o (I.ok.bs b o e).1 (I.ok.bs b o e).2 (I.ok.nofr e) (I.ok.noex b o e),I.base.free b o (I.ok.bs b o e).1 (I.ok.bs b o e).2 (I.ok.noex b o e)]
theorem Inv.bk (I:Inv X pins σ H s):∀b o,X.base.get? b=some o->s.heap.get? b=some o:=λb o e=>(I.bs b o e).1
theorem Inv.mod (I:Inv X pins σ H s):Mod X.K X.mg X.base:=I.ok.mod
theorem Inv.kIn (I:Inv X pins σ H s):X.K.In s.8:=I.ok.mod.kin.keeps I.bk
theorem Inv.nolimit (I:Inv X pins σ H s):s.heap.NoLimit:=I.ok.mod.nolimit.keeps I.bk
theorem Inv.lt (I:Inv X pins σ H s):X.env.locals < s.6:=let ⟨_,hn,_⟩:=I.loc;hn.lt
theorem Inv.sz (I:Inv X pins σ H s):X.s₀.6<=s.6:=ag I.ok.above (dH I.lt)
theorem Inv.nofs (I:Inv X pins σ H s) {a:Addr} (h:s.6<=a):a∉X.fs:=λhb=>by
 obtain _|o|ho|_:=I.ok.funs.mem hb;exact absurd (bD (Yr ho) (ag I.sz h)) (gG _)
theorem Inv.cne (I:Inv X pins σ H s):∀x c,X.env.cells.lookup x=some c->c≠X.env.locals:=λx c e z=>by
 obtain v|o|ho|hd:=I.cell x c e;obtain m|⟨o',es,ep,ho',hd',_⟩|_:=I.loc;rw[z,ho'] at ho;cases ho;rw[hd'] at hd;cases hd
theorem Inv.funs (I:Inv X pins σ H s):s.heap.FunFrames X.base X.outer:=by
 have all:∀(l:List Env),(∀b∈wH l,b∈X.fs)->X.s₀.heap.FunFrames X.base l->s.heap.FunFrames X.base l:=by
  intro l
  induction l with
  | nil=>intro _ _;trivial
  | cons env r ih =>
   intro hs hl;obtain hk|⟨L,o,hf,hn,ho,hd⟩|hr:=hl;have hL:L∈X.fs:=hs L (by unfold wH;rw[uz,hf];exact cU);obtain sl|e:=I.base.slot L o ho (I.ok.frf L hL) hL λz=>I.ok.exfs L z hL
   exact #[hk,#[L,_,hf,hn,e,hd],ih (λb hb=>hs b (by unfold wH;rw[uz,hf];exact bS _ hb)) hr]
 exact all X.outer (λ_ hb=>hb) I.ok.funs
theorem Inv.stack (I:Inv X pins σ H s):s.heap.FunFrames X.base X.stack:=by
 rcases I.ok.stk with e | ⟨e,hf⟩
 ·rw[e];exact I.funs
 ·rw[e];obtain m|hn|_:=I.loc;refine .cons (by rw[I.ok.kind];decide) hf hn ?_ I.funs;exact Heap.get?_none_of_le (ag I.ok.bsz I.ok.above)
theorem Inv.stkSub (I:Inv X pins σ H s):∀b∈wH X.stack,b∈X.env.locals :: X.fs:=λb hb=>by
 rcases I.ok.stk with e | ⟨e,hf⟩
 ·rw[e] at hb;exact bS _ hb
 ·rw[e] at hb;unfold wH at hb;rw[uz,hf] at hb;exact hb
theorem Inv.stkFree (I:Inv X pins σ H s):∀b∈wH X.stack,H b=none:=λb hb=>by
 rcases ay.mp (I.stkSub b hb) with e | hb
 ·rw[e];exact I.free
 ·obtain _|o|ho|_:=I.ok.funs.mem hb;exact I.base.free b o ho (I.ok.frf b hb) λz=>I.ok.exfs b z hb
theorem Inv.step {ch:List Addr} (I:Inv X pins σ H s)
  (hch:∀b∈ch,(b∈X.ex\/X.s₀.6<=b)/\b≠X.env.locals/\(∀x c,X.env.cells.lookup x=some c->c≠b)/\∀p∈X.pn++pins,p.1≠b)
  (keep:∀b o,b≠X.env.locals->b∉X.fs->b∉ch->s.heap.get? b=some o->H b=none->h'.get? b=some o)
  (slot:∀b o,b≠X.env.locals->b∈X.fs->b∉ch->s.heap.get? b=some o->H b=none->∃sl,h'.get? b=some { o with slots:=sl }) (free:∀b o,b∉ch->s.heap.get? b=some o->H b=none->H' b=none)
  (there:∀b o,b∉ch->s.heap.get? b=some o->∃o',h'.get? b=some o')
  (tups:∀b xs,H b=some (.tup xs)->H' b=some (.tup xs)) (frzs:∀b o u,H b=some (.frz o u)->H' b=some (.frz o u)) (tbls:∀b ps,H b=some (.tbl ps)->∃more,H' b=some (.tbl (ps++more)))
  (ns:∀m,s.heap.Ns X.env.locals m->h'.Ns X.env.locals m) (hok:xh X.prog X.w H' h') (hg:AllBare g') :
  Inv X pins σ H' { s with heap:=h',gens:=g',drawn:=d',toks:=t' }:=by
 have neL:∀b o,X.s₀.heap.get? b=some o->b≠X.env.locals:=λb o e=>bR (bD (Yr e) I.ok.above)
 have neC:∀b o,X.s₀.heap.get? b=some o->b∉X.ex->b∉ch:=λb o e hx hb=>by
  rcases (hch b hb).1 with z | z
  ·exact hx z
  ·exact absurd (bD (Yr e) z) (gG _)
 have cellK:∀x c,X.env.cells.lookup x=some c->∀v,s.heap.IsCell c v->h'.IsCell c v:=λx c e v #[o,ho,hd]=>by
  have nch:c∉ch:=λz=>(hch c z).2.2.1 x c e rfl
  by_cases hc:c∈X.fs
  ·obtain sl|q:=slot c o (I.cne x c e) hc nch ho (I.freeC x c e);exact #[_,q,hd]
  ·exact #[o,keep c o (I.cne x c e) hc nch ho (I.freeC x c e),hd]
 refine #[I.ok,I.os,hg,#[λb o e n hb hx=>?_,λb o e n hb hx=>?_,λb o e n hx=>?_,λb o e hx=>?_,λb xs e=>tups b xs (I.base.tups b xs e),λb o xs e=>frzs b o xs (I.base.frzs b o xs e),λb ps e=>?_],?_,λx c e=>?_,?_,λx c e=>?_,λp hp=>?_,hok,I.len]
 ·exact keep b o (neL b o e) hb (neC b o e hx) (I.base.keep b o e n hb hx) (I.base.free b o e n hx)
 ·obtain sl|e1:=I.base.slot b o e n hb hx;obtain sl'|e2:=slot b _ (neL b o e) hb (neC b o e hx) e1 (I.base.free b o e n hx);exact #[sl',e2]
 ·obtain o'|e1:=I.base.there b o e hx;exact free b o' (neC b o e hx) e1 (I.base.free b o e n hx)
 ·obtain o'|e1:=I.base.there b o e hx;exact there b o' (neC b o e hx) e1
 ·obtain m1|e1:=I.base.tbls b ps e;obtain m2|e2:=tbls b _ e1;exact #[m1++m2,by rw[e2,Array.append_assoc]]
 ·obtain m|hn|hl:=I.loc;refine #[m,ns m hn,λi x v e1 e2 e3=>?_];obtain u|r|l:=hl i x v e1 e2 e3;refine #[u,r,?_];rcases l with l | ⟨k,c,e,z⟩
  ·exact .inl l
  ·exact .inr #[k,c,e,cellK x c e _ z]
 ·obtain v|z:=I.cell x c e;exact #[v,cellK x c e v z]
 ·obtain m|⟨o,_,_,ho,_⟩|_:=I.loc;exact free _ o (λz=>(hch _ z).2.1 rfl) ho I.free
 ·obtain v|o|ho|hd:=I.cell x c e;exact free c o (λz=>(hch c z).2.2.1 x c e rfl) ho (I.freeC x c e)
 ·obtain e|n|ne|nf|d:=I.pin p hp;have nch:p.1∉ch:=λz=>(hch p.1 z).2.2.2 p hp rfl
  exact #[keep p.1 p.2 ne nf nch e n,free p.1 p.2 nch e n,ne,nf,d]
theorem Inv.un (I:Inv X pins σ H s) (u:Un X.fs [] H H' s.heap h') (hok:xh X.prog X.w H' h'):Inv X pins σ H' { s with heap:=h',toks:=t' }:=by
 obtain m|⟨o,es,ep,ho,r⟩|_:=id I.loc;obtain sl|hL:=u.any ho I.free (by simp)
 exact I.step (g':=s.gens) (d':=s.drawn) (ch:=[]) (λ_ z=>nomatch z) (λb o _ hb _ e n=>u.keep b o e n hb (by simp)) (λb o _ hb _ e n=>u.slot b o e n hb (by simp)) (λb o _ e n=>u.free b o e n (by simp)) (λb o _ e=>u.there b o e (by simp)) u.tups u.frzs u.tbls (λm' hm=>by
  obtain o'|es'|ep'|ho'|r':=hm;rw[ho] at ho';cases ho';exact #[_,es',ep',hL,r']) hok I.bare
theorem Inv.call (I:Inv X pins σ H s) (u:Un (wH X.stack) ch H H' s.heap h') (hok:xh X.prog X.w H' h') (hg:AllBare g')
  (hch:∀b∈ch,(b∈X.ex\/X.s₀.6<=b)/\b≠X.env.locals/\(∀x c,X.env.cells.lookup x=some c->c≠b)/\∀p∈X.pn++pins,p.1≠b) :
  Inv X pins σ H' { s with heap:=h',gens:=g',drawn:=d',toks:=t' }:=by
 obtain m|⟨o,es,ep,ho,r⟩|_:=id I.loc;obtain sl|hL:=u.any ho I.free λz=>(hch _ z).2.1 rfl
 exact I.step (ch:=ch) hch (λb o hL hb hc e n=>u.keep b o e n (λz=>(ay.mp (I.stkSub b z)).elim hL hb) hc) (λb o _ _ hc e n=>u.any e n hc) (λb o hc e n=>u.free b o e n hc) (λb o hc e=>u.there b o e hc) u.tups u.frzs u.tbls (λm' hm=>by
  obtain o'|es'|ep'|ho'|r':=hm;rw[ho] at ho';cases ho';exact #[_,es',ep',hL,r']) hok hg
theorem Inv.turned (I:Inv X pins σ H s) (k:∀b o,b≠it->s.heap.get? b=some o->h'.get? b=some o) (hn:H it=none) (hL:it≠X.env.locals)
  (h1:it∈X.ex\/X.s₀.6<=it) (h2:∀x c,X.env.cells.lookup x=some c->c≠it) (h3:∀p∈X.pn++pins,p.1≠it):Inv X pins σ H { s with heap:=h',toks:=t' }:=by
 have nit:∀b u,H b=some u->b≠it:=λb u e z=>by rw[z,hn] at e;cases e
 refine I.step (g':=s.gens) (d':=s.drawn) (ch:=[it]) (λb hb=>?_) (λb o _ _ hc e _=>k b o (λz=>hc (by simp [z])) e) (λb o _ _ hc e _=>#[o.slots,k b o (λz=>hc (by simp [z])) e]) (λ_ _ _ _ n=>n)
  (λb o hc e=>#[o,k b o (λz=>hc (by simp [z])) e]) (λ_ _ e=>e) (λ_ _ _ e=>e) (λb ps e=>#[[].toArray,by rw[e];simp]) (λm hm=>?_) (λb u e=>?_) I.bare
 ·have e:b=it:=by simpa using hb
  subst e;exact #[h1,hL,h2,h3]
 ·obtain o|es|ep|ho|r:=hm;exact #[o,es,ep,k _ o (YI hL) ho,r]
 ·refine (I.hok b u e).stay (λc v hc q=>k c v ?_ q) (λ_ q=>q) λ_ _ q=>q
  rcases hc with z | z
  ·rw[z];exact nit b u e
  ·exact nit c _ z
theorem Inv.tok (I:Inv X pins σ H s) (t:Nat):Inv X pins σ H { s with toks:=t }:=I.un (h':=s.8) (t':=t) Un.refl I.hok
theorem Inv.kept (I:Inv X pins σ H s) (k:∀b u,s.heap.get? b=some u->h'.get? b=some u):Inv X pins σ H { s with heap:=h',toks:=t' }:=I.un (Un.kept k) (I.hok.kept k)
theorem Inv.laid {a:Addr} (I:Inv X pins σ H s) (k:∀b u,s.heap.get? b=some u->h'.get? b=some u) (hp:s.6<=a) (new:iG X.prog X.w (upd H a o) h' a o) :
  Inv X pins σ (upd H a o) { s with heap:=h',toks:=t' }:=I.un (Un.laid k hp (I.hok.fresh hp)) (I.hok.laid k hp new)
theorem Inv.write (I:Inv X pins σ H s) (mu:XQ (H x)) (he:e=x\/H e=some (.own x)) (k:∀b u,b≠e->s.heap.get? b=some u->h'.get? b=some u) (heo:∃u,h'.get? e=some u)
  (new:iG X.prog X.w (upd H x o) h' x o):Inv X pins σ (upd H x o) { s with heap:=h',toks:=t' }:=I.un (Un.write mu he k heo) (I.hok.write mu he k heo new)
theorem Inv.pins_of (I:Inv X pins σ H s) (h:∀p∈pins',s.heap.get? p.1=some p.2/\H p.1=none/\p.1≠X.env.locals/\p.1∉X.fs/\∀v,p.2.data≠.cell v):Inv X pins' σ H s :=
 #[I.ok,I.os,I.bare,I.base,I.loc,I.cell,I.free,I.freeC,λp hp=>(aB.mp hp).elim (λz=>I.pin p (mh _ z)) (h p),I.hok,I.len]
theorem Gx {N:List Str} (hN:N.Nodup) {i j:Nat} (a:N[i]?=some x) (b:N[j]?=some x):i=j:=by
 obtain h1|e1:=aI.mp a;obtain h2|e2:=aI.mp b;exact (List.getElem_inj hN).mp (e1.trans e2.symm)
theorem Ct {M:Model} {A:Y3} {E:Value->Yo->Prop} {i:Nat} {x:Str} {v:V} {u:Value} {Q:Unit->Yo->Prop} (I:Inv X pins σ H s) (hN:X.N.Nodup) (hi:X.N[i]?=some x) (hx:Loc X.env.scope x) (r:RelV v u)
  (h:∀s',Inv X pins (σ.set i (some v)) H s'->(∃a,Heap.SameBut a s.heap s'.8/\(a=X.env.locals\/X.env.cells.lookup x=some a))->Q .unit s') (hf:X.fn x=true\/X.env.scope.names.lookup x=some .local:=by first | exact .inl rfl | exact .inr rfl | assumption):Yy M A (storeName X.env x u) Q E s:=by
 obtain m|hn|hl:=id I.loc;have hcls:(X.env.scope.kind == .class || (X.env.scope.kind == .module && X.env.locals != X.env.globals))=false:=by rw[I.ok.kind];rfl
 have hiσ:i < σ.9:=by rw[I.len];exact (aI.mp hi).1
 have cne:=I.cne
 have tracked:∀{a:Addr} {h':Heap},(∃o,s.heap.get? a=some o/\H a=none)->Heap.SameBut a s.heap h'->xh X.prog X.w H h':=λ{a h'} ha hs b ob e=>by
  obtain _|_|hfree:=ha;refine (I.hok b ob e).stay (λc w' hc q=>(hs.2 c ?_).trans q) (λ_ q=>q) λ_ _ q=>q
  rintro rfl;rcases hc with rfl | hc
  ·rw[hfree] at e;cases e
  ·rw[hfree] at hc;cases hc
 rcases hx with hk | hk
 ·refine wpAny_storeName_local hk hn (λh' hn' hs=>?_) hcls;obtain oL|_|_|hoL|_:=id hn;refine h _ #[I.ok,I.os,I.bare,#[λb o e n hb hx=>?_,λb o e n hb hx=>?_,I.base.free,λb o e hx=>?_,I.base.tups,I.base.frzs,I.base.tbls],#[_,hn',λj y v' e1 e2 e3=>?_],λy c e=>?_,I.free,I.freeC,λp hp=>?_,tracked #[oL,hoL,I.free] hs,by simpa using I.len] #[_,hs,.inl rfl]
  ·exact (hs.2 b (bR (bD (Yr e) I.ok.above))).trans (I.base.keep b o e n hb hx)
  ·obtain sl|e1:=I.base.slot b o e n hb hx;exact #[sl,(hs.2 b (bR (bD (Yr e) I.ok.above))).trans e1]
  ·obtain o'|e1:=I.base.there b o e hx;exact #[o',(hs.2 b (bR (bD (Yr e) I.ok.above))).trans e1]
  ·by_cases hj:j=i
   ·subst hj;rw[hi] at e1;cases e1;rw[List.getElem?_set_self hiσ] at e2;cases e2;exact #[u,r,.inl #[hk,by simp]]
   ·rw[List.getElem?_set_ne (YI hj)] at e2;obtain u'|r'|q:=hl j y v' e1 e2 e3;refine #[u',r',?_];rcases q with ⟨k,e⟩ | ⟨k,c,e,z⟩
    ·refine .inl #[k,?_];have:y≠x:=λe=>hj (Gx hN e1 (e ▸ hi))
     simp [this,e]
    ·exact .inr #[k,c,e,z.sameBut hs (cne y c e)]
  ·obtain w'|z:=I.cell y c e;exact #[w',z.sameBut hs (cne y c e)]
  ·obtain e|n|ne|nf|d:=I.pin p hp;exact #[(hs.2 p.1 ne).trans e,n,ne,nf,d]
 ·have hfn:X.fn x=true:=by
   rcases hf with z | z
   ·exact z
   ·rw[z] at hk;cases hk
  obtain c|hc:=I.ok.has x (.inl hk);obtain w'|z:=I.cell x c hc;refine wpAny_storeName_cell I.ok.kind hk hc z (λh' hc' hs=>?_);obtain oc|hoc|hocd:=id z;refine h { s with heap:=h' } ⟨I.ok,I.os,I.bare,⟨λb o e n hb hx=>?_,λb o e n hb hx=>?_,I.base.free,λb o e hx=>?_,I.base.tups,I.base.frzs,I.base.tbls⟩,#[m,hn.sameBut hs (YI (cne x c hc)),λj y v' e1 e2 e3=>?_],λy c' e=>?_,I.free,I.freeC,λp hp=>?_,tracked #[oc,hoc,I.freeC x c hc] hs,by simpa using I.len⟩ #[c,hs,.inr hc]
  ·exact (hs.2 b (bR (bD (Yr e) (I.ok.cab x c hfn hc)))).trans (I.base.keep b o e n hb hx)
  ·obtain sl|e1:=I.base.slot b o e n hb hx;exact #[sl,(hs.2 b (bR (bD (Yr e) (I.ok.cab x c hfn hc)))).trans e1]
  ·obtain o'|e1:=I.base.there b o e hx;exact #[o',(hs.2 b (bR (bD (Yr e) (I.ok.cab x c hfn hc)))).trans e1]
  ·by_cases hj:j=i
   ·subst hj;rw[hi] at e1;cases e1;rw[List.getElem?_set_self hiσ] at e2;cases e2;exact #[u,r,.inr #[.inl hk,c,hc,hc']]
   ·rw[List.getElem?_set_ne (YI hj)] at e2;obtain u'|r'|q:=hl j y v' e1 e2 e3;refine #[u',r',?_];rcases q with q | ⟨k,c',e,z'⟩
    ·exact .inl q
    ·refine .inr #[k,c',e,z'.sameBut hs ?_];rintro rfl;exact hj (Gx hN e1 (I.ok.inj _ _ _ e hc ▸ hi))
  ·by_cases hcc:c'=c
   ·subst hcc;exact #[_,hc']
   ·obtain w2|z2:=I.cell y c' e;exact #[w2,z2.sameBut hs hcc]
  ·obtain e|n|ne|nf|d:=I.pin p hp;refine #[(hs.2 p.1 ?_).trans e,n,ne,nf,d];intro q;rw[q,hoc] at e;have q':oc=p.2:=bP e;exact d w' (by rw[<- q'];exact hocd)
theorem vQ {M:Model} {A:Y3} {E:Value->Yo->Prop} {i:Nat} {x:Str} {v:V} {u:Value} {Q:Unit->Yo->Prop} (I:Inv X pins σ H s) (hN:X.N.Nodup) (hi:X.N[i]?=some x) (hx:Loc X.env.scope x) (r:RelV v u)
  (h:∀s',Inv X pins (σ.set i (some v)) H s'->Q .unit s') (hf:X.fn x=true\/X.env.scope.names.lookup x=some .local:=by first | exact .inl rfl | exact .inr rfl | assumption):Yy M A (storeName X.env x u) Q E s :=
 Ct I hN hi hx r (λs' I' _=>h s' I') hf
theorem Inv.call' (I:Inv X pins σ H s) (ho:s'.os=s.os) (u:Un (wH X.stack) ch H H' s.heap s'.8) (hok:xh X.prog X.w H' s'.8) (hg:AllBare s'.gens)
  (hch:∀b∈ch,(b∈X.ex\/X.s₀.6<=b)/\b≠X.env.locals/\(∀x c,X.env.cells.lookup x=some c->c≠b)/\∀p∈X.pn++pins,p.1≠b):Inv X pins σ H' s':=by
 obtain h'|g'|d'|t'|o':=s';have e:o'=s.os:=ho;subst e;exact I.call (g':=g') (t':=t') (d':=d') u hok hg hch
end
abbrev XK:=Value->Option Addr->Hp->Prop
abbrev St:=List (Option V)
abbrev VK:=V->Hp->Prop
abbrev TE:=St->Hp->VK->Prop
abbrev TT:=St->Hp->(Bool->Hp->Prop)->Prop
abbrev TA:=St->Hp->(List V->Hp->Prop)->Prop
structure Ends where
 nx:St->Hp->Prop
 rt:VK
 bk:St->Hp->Prop:=λ_ _=>False
 ct:St->Hp->Prop:=λ_ _=>False
abbrev TS:=Ends->St->Hp->Prop
def EP (X:Cx) (pins:List (Addr×Obj)) (σ:St) (Q:VK) (u:Value) (s':Yo):Prop:=∃v H',Inv X pins σ H' s'/\RelV v u/\Q v H'
def TP (X:Cx) (pins:List (Addr×Obj)) (σ:St) (Q:Bool->Hp->Prop) (b:Bool) (s':Yo):Prop:=∃H',Inv X pins σ H' s'/\Q b H'
def AP (X:Cx) (pins:List (Addr×Obj)) (σ:St) (Q:List V->Hp->Prop) (us:List Value) (s':Yo):Prop:=∃vs H',Inv X pins σ H' s'/\cX vs us/\Q vs H'
def SP (X:Cx) (pins:List (Addr×Obj)) (D:Ends) (f:Flow) (s':Yo):Prop :=
 match f with
 | .next=>∃σ' H',Inv X pins σ' H' s'/\D.nx σ' H'
 | .brk=>∃σ' H',Inv X pins σ' H' s'/\D.bk σ' H'
 | .cont=>∃σ' H',Inv X pins σ' H' s'/\D.ct σ' H'
 | .ret u=>∃v σ' H',Inv X pins σ' H' s'/\RelV v u/\D.rt v H'
def PE (X:Cx) (e:Expr) (t:TE):Prop :=
 ∀(pins:List (Addr×Obj)) (s:Yo) (σ:St) (H:Hp) (Q:VK),Inv X pins σ H s->t σ H Q->Yy (model X.prog X.w) X.A (eval e X.env) (EP X pins σ Q) X.xe s
def PT (X:Cx) (e:Expr) (t:TT):Prop :=
 ∀(pins:List (Addr×Obj)) (s:Yo) (σ:St) (H:Hp) (Q:Bool->Hp->Prop),Inv X pins σ H s->t σ H Q->Yy (model X.prog X.w) X.A (isTrue e X.env (eval e X.env)) (TP X pins σ Q) X.xe s
def PW (X:Cx) (e:Expr) (t:TT):Prop :=
 ∀(whole:Sem Value) (pins:List (Addr×Obj)) (s:Yo) (σ:St) (H:Hp) (Q:Bool->Hp->Prop),Inv X pins σ H s->t σ H Q->Yy (model X.prog X.w) X.A (isTrue e X.env whole) (TP X pins σ Q) X.xe s
theorem PW.pt (h:PW X e t):PT X e t:=h _
def PA (X:Cx) (es:List Expr) (t:TA):Prop :=
 ∀(pos:Pos) (pins:List (Addr×Obj)) (s:Yo) (σ:St) (H:Hp) (Q:List V->Hp->Prop),Inv X pins σ H s->t σ H Q->Yy (model X.prog X.w) X.A (spliced (ZK pos (Yu es X.env))) (AP X pins σ Q) X.xe s
def PS (X:Cx) (st:Stmt) (t:TS):Prop :=
 ∀(pins:List (Addr×Obj)) (s:Yo) (σ:St) (H:Hp) (D:Ends),Inv X pins σ H s->t D σ H->Yy (model X.prog X.w) X.A (exec st X.env) (SP X pins D) X.xe s
def Dm (X:Cx) (st:List Stmt) (t:TS):Prop :=
 ∀(pins:List (Addr×Obj)) (s:Yo) (σ:St) (H:Hp) (D:Ends),Inv X pins σ H s->t D σ H->Yy (model X.prog X.w) X.A (execs st X.env) (SP X pins D) X.xe s
theorem ib {t:Sem α} {Q Q':α->Yo->Prop} (h:Yy M A t Q E s) (hQ:∀a s,Q a s->Q' a s):Yy M A t Q' E s:=YX h hQ λ_ _ x=>x
section
variable {X:Cx}
def Ub (i:Nat):TE:=λσ H Q=>∃v,σ[i]?=some (some v)/\Q v H
def tC (v:V):TE:=λ_ H Q=>Q v H
theorem UT {i:Nat} {x:Str} {pos:Pos} (hN:X.N[i]?=some x) (hv:Yc X.env.scope x) (hd:(x == ("__debug__":Str))=false:=by decide) (hcd:(x == ("__classdict__":Str))=false:=by decide):PE X (.Name x pos) (Ub i):=by
 intro pins s σ H Q I h;obtain v|e|h:=h;obtain m|hn|hl:=I.loc;obtain u|r|l:=hl i x v hN e hv;have fin:EP X pins σ Q u s:=#[v,H,I,r,h];rcases l with ⟨hk,hm⟩ | ⟨hk,c,hc,hcell⟩
 ·exact wpAny_Name (wpAny_loadName_local I.ok.kind hk hn hm fin) hd
 ·rcases hk with hk | hk
  ·exact wpAny_Name (wpAny_loadName_cell I.ok.kind hk hc hcell fin) hd
  ·exact wpAny_Name (wpAny_loadName_free I.ok.kind hk hc hcell fin hcd) hd
theorem aj:PE X (.Constant (.int i) j pos) (tC (.int i)):=λ_ _ _ H _ I h=>wpAny_Constant_int #[.int i,H,I.tok _,#[_,rfl],h]
theorem sQ:PE X (.Constant (.bool b) j pos) (tC (.bl b)):=λ_ _ _ H _ I h=>Constant_bool #[.bl b,H,I,rfl,h]
theorem Jd:PE X (.Constant .none j pos) (tC .non):=λ_ _ _ H _ I h=>Constant_none #[.non,H,I,rfl,h]
theorem Ai:PE X (.Constant (.str x) j pos) (tC (.str x)):=λ_ _ _ H _ I h=>Calls.Constant_str #[.str x,H,I.tok _,#[_,rfl],h]
def Gl (X:Cx) (x:Str):Prop:=X.env.kindOf x=some .globalImplicit
theorem uG {E:Value->Yo->Prop} {pins:List (Addr×Obj)} {s:Yo} {σ:St} {H:Hp} {x:Str} {u:Value} {pos:Pos} {Q:Value->Yo->Prop} (I:Inv X pins σ H s) (hg:Gl X x) (hm:X.mg x=some u) (h:Q u s)
  (hd:(x == ("__debug__":Str))=false:=by decide):Yy (model X.prog X.w) X.A (eval (.Name x pos) X.env) Q E s :=
 Calls.Name_function_global I.ok.kind hg (Calls.loadGlobal_global (by rw[I.ok.glob];exact I.mod.glob.keeps I.bk) hm h) hd
theorem mJ {E:Value->Yo->Prop} {pins:List (Addr×Obj)} {s:Yo} {σ:St} {H:Hp} {x:Str} {u:Value} {pos:Pos} {Q:Value->Yo->Prop} (I:Inv X pins σ H s) (hg:Gl X x) (hm:X.mg x=none) (hv:Zt x=some u) (h:Q u s)
  (hn:x≠"__name__":=by decide) (hd:(x == ("__debug__":Str))=false:=by decide):Yy (model X.prog X.w) X.A (eval (.Name x pos) X.env) Q E s:=by
 obtain mb|h1|h2:=I.mod.blt;exact Calls.Name_function_global I.ok.kind hg (Calls.loadGlobal_builtin (by rw[I.ok.glob];exact I.mod.glob.keeps I.bk) hm (by rw[I.ok.blt];exact h1.keeps I.bk) ((h2 x hn).trans hv) h) hd
theorem mP {x:Str} {v:V} {u:Value} {pos:Pos} (hg:Gl X x) (hm:X.mg x=some u) (r:RelV v u) (hd:(x == ("__debug__":Str))=false:=by decide):PE X (.Name x pos) (tC v) :=
 λ_ _ _ H _ I h=>uG I hg hm #[v,H,I,r,h] hd
theorem Kw {x:Str} {v:V} {u:Value} {pos:Pos} (hg:Gl X x) (hm:X.mg x=none) (hv:Zt x=some u) (r:RelV v u) (hn:x≠"__name__":=by decide) (hd:(x == ("__debug__":Str))=false:=by decide):PE X (.Name x pos) (tC v) :=
 λ_ _ _ H _ I h=>mJ I hg hm hv #[v,H,I,r,h] hn hd
variable {a b:Expr} {ta tb:TE} {pos:Pos}
def tB (t:TE):TT:=λσ H Q=>t σ H λx H1=>∃c,x=.bl c/\Q c H1
theorem kM {e:Expr} {t:TE} (h:PE X e t) (he:∀whole,isTrue e X.env whole=(do let v <- whole;standAt e.pos;holding [v] (truthy v)):=by intro _;rfl):PT X e (tB t):=by
 intro pins s σ H Q I hw;refine isTrue_plain (ib (h pins s σ H _ I hw) λv s1 #[x,H1,I1,r1,q1]=>?_) (he _);obtain d|rfl|q:=q1;cases r1;exact Zw #[H1,I1,q]
variable {tA tB':TT} {rest:List Expr}
def Wf (t u:TT):TT:=λσ H Q=>t σ H λc H1=>if c=true then u σ H1 Q else Q false H1
def tOr (t u:TT):TT:=λσ H Q=>t σ H λc H1=>if c=true then Q true H1 else u σ H1 Q
def Wa (t:TT):TT:=λσ H Q=>t σ H λc H1=>Q (!c) H1
theorem kL (ha:PT X a tA):PW X (.BoolOp .And [a] pos) tA:=by
 intro wh pins s σ H Q I h;refine isTrue_and (ib (ha pins s σ H Q I h) λc s1 e=>?_);cases c with
 | true=>exact isTrue_and_nil e
 | false=>exact e
theorem nQ (ha:PT X a tA):PW X (.BoolOp .Or [a] pos) tA:=by
 intro wh pins s σ H Q I h;refine isTrue_or (ib (ha pins s σ H Q I h) λc s1 e=>?_);cases c with
 | false=>exact isTrue_or_nil e
 | true=>exact e
theorem j9 (ha:PT X a tA) (hb:PW X (.BoolOp .And (b :: rest) pos) tB'):PW X (.BoolOp .And (a :: b :: rest) pos) (Wf tA tB'):=by
 intro wh pins s σ H Q I h;refine isTrue_and (ib (ha pins s σ H _ I h) λc s1 #[H1,I1,q1]=>?_);cases c with
 | true=>exact hb wh pins s1 σ H1 Q I1 q1
 | false=>exact #[H1,I1,q1]
theorem sP (ha:PT X a tA) (hb:PW X (.BoolOp .Or (b :: rest) pos) tB'):PW X (.BoolOp .Or (a :: b :: rest) pos) (tOr tA tB'):=by
 intro wh pins s σ H Q I h;refine isTrue_or (ib (ha pins s σ H _ I h) λc s1 #[H1,I1,q1]=>?_);cases c with
 | true=>exact #[H1,I1,q1]
 | false=>exact hb wh pins s1 σ H1 Q I1 q1
theorem mE (ha:PT X a tA):PT X (.UnaryOp .Not a pos) (Wa tA):=by
 intro pins s σ H Q I h;exact isTrue_not (ha pins s σ H (λc H1=>Q (!c) H1) I h)
def SU (ta tb:TE):TE:=λσ H Q=>ta σ H λx H1=>∃c,x=.bl c/\if c=true then tb σ H1 Q else Q (.bl false) H1
def SK (ta:TE):TE:=λσ H Q=>ta σ H λx H1=>∃c,x=.bl c/\Q (.bl (!c)) H1
theorem D9 (h:PE X a t):PE X (.BoolOp op [a] pos) t:=λpins s σ H Q I hw=>BoolOp_one (h pins s σ H Q I hw)
theorem Eb (ha:PE X a ta) (hb:PE X (.BoolOp .And (b :: rest) pos) tb):PE X (.BoolOp .And (a :: b :: rest) pos) (SU ta tb):=by
 intro pins s σ H Q I h;refine BoolOp_and (ib (ha pins s σ H _ I h) λv s1 #[x,H1,I1,r1,q1]=>?_);obtain c|rfl|q1:=q1;cases r1;refine Zw ?_;cases c with
 | true=>exact hb pins s1 σ H1 Q I1 q1
 | false=>exact #[.bl false,H1,I1,rfl,q1]
theorem UU (ha:PE X a ta):PE X (.UnaryOp .Not a pos) (SK ta):=by
 intro pins s σ H Q I h;refine UnaryOp_ (ib (ha pins s σ H _ I h) λv s1 #[x,H1,I1,r1,q1]=>?_);obtain c|rfl|q1:=q1;cases r1;exact not_of (Zw #[.bl (!c),H1,I1,rfl,q1])
def tIf (t:TT) (ta tb:TE):TE:=λσ H Q=>t σ H λc H1=>if c=true then ta σ H1 Q else tb σ H1 Q
theorem Gj (hc:PT X c tA) (ha:PE X a ta) (hb:PE X b tb):PE X (.IfExp c a b pos) (tIf tA ta tb):=by
 intro pins s σ H Q I h;refine wpAny_IfExp (ib (hc pins s σ H _ I h) λd s1 #[H1,I1,q1]=>?_);cases d with
 | true=>exact ha pins s1 σ H1 Q I1 q1
 | false=>exact hb pins s1 σ H1 Q I1 q1
end
def br (K:FG9) (H:Hp) (a:Addr) (xs:List V):Prop :=
 Rd H a (.lst xs) \/
  ∃(o:Obj) (its:Array Value) (n:Nat),K.lookup a=some o/\o.cls=.type "list"/\o.dict=none/\o.data=.seq its n/\its.7<=YB/\cX xs its.toList
def pA (K:FG9) (H:Hp) (a:Addr) (xs:List V):Prop :=
 Rd H a (.tup xs) \/
  ∃(o:Obj) (its:Array Value) (n:Nat),K.lookup a=some o/\o.cls=.type "tuple"/\o.data=.seq its n/\its.7<=YB/\cX xs its.toList
def Yb:Value->Option V
 | .none=>some .non
 | .bool b=>some (.bl b)
 | .int i _=>some (.int i)
 | .str x _=>some (.str x)
 | .bytes b _=>some (.byt b)
 | .float b _=>some (.flt b)
 | .ref a=>some (.ref a)
 | .type n=>some (.ty n)
 | _=>none
theorem RelV.abs (r:RelV x u):Yb u=some x:=by
 cases x with
 | non=>cases r;rfl
 | bl _=>cases r;rfl
 | int _=>obtain t|rfl:=r;rfl
 | str _=>obtain t|rfl:=r;rfl
 | byt _=>obtain t|rfl:=r;rfl
 | flt _=>obtain t|rfl:=r;rfl
 | ref _=>cases r;rfl
 | ty _=>cases r;rfl
theorem RelV.inj (r:RelV x u) (q:RelV y u):x=y:=bP (r.abs.symm.trans q.abs)
theorem cX.inj:∀{xs ys:List V} {us:List Value},cX xs us->cX ys us->xs=ys
 | _,_,_,.nil,.nil=>rfl
 | _,_,_,.cons r t,.cons r' t'=>by rw[r.inj r',cX.inj t t']
section
variable {σ:St}
theorem br.of {K:FG9} (h:H a=some (.lst xs)):br K H a xs:=.inl (.inl h)
theorem pA.of {K:FG9} (h:H a=some (.tup xs)):pA K H a xs:=.inl (.inl h)
theorem Inv.list (I:Inv X pins σ H s) (h:br X.K H a xs):∃its:List Value,cX xs its/\PlainL s.heap a its.5/\xs.9<=YB:=by
 rcases h with h | ⟨o,its,n,hk,hc,hd,hs,hz,r⟩
 ·obtain z|its|n|r|e:=h.ok I.hok;exact #[its,r,#[_,n,e,rfl,rfl,rfl],z]
 ·refine #[its.toList,r,#[o,n,I.kIn a o hk,hc,hd,by simpa using hs],?_];have e:=r.9;simp only[Zo] at e
  lia
theorem Inv.tuple (I:Inv X pins σ H s) (h:pA X.K H a xs):∃its:List Value,cX xs its/\IsTup s.heap a its.5/\xs.9<=YB:=by
 rcases h with h | ⟨o,its,n,hk,hc,hs,hz,r⟩
 ·obtain z|its|r|p:=h.ok I.hok;exact #[its,r,p,z]
 ·refine #[its.toList,r,#[o,I.kIn a o hk,hc,n,by simpa using hs],?_];have e:=r.9;simp only[Zo] at e
  lia
theorem Inv.list_inj (I:Inv X pins σ H s) (h:br X.K H a xs) (h':br X.K H a ys):xs=ys:=by
 obtain its|r|⟨o,n,e,_,_,d⟩|_:=I.list h;obtain its'|r'|⟨o',n',e',_,_,d'⟩|_:=I.list h';rw[e] at e';cases e';rw[d] at d';injection d' with d1 _
 have:its=its':=by simpa using congrArg Array.toList d1
 subst this;exact r.inj r'
theorem Inv.tuple_inj (I:Inv X pins σ H s) (h:pA X.K H a xs) (h':pA X.K H a ys):xs=ys:=by
 obtain its|r|⟨o,e,_,n,d⟩|_:=I.tuple h;obtain its'|r'|⟨o',e',_,n',d'⟩|_:=I.tuple h';rw[e] at e';cases e';rw[d] at d';injection d' with d1 _
 have:its=its':=by simpa using congrArg Array.toList d1
 subst this;exact r.inj r'
end
abbrev Cx.wish (X:Cx) (E:Value->Yo->Prop):Cx:={ X with xe:=E }
abbrev Cx.nox (X:Cx):Cx:=X.wish λ_ _=>False
theorem Cx.Ok.wish {X:Cx} (ok:X.Ok) (E:Value->Yo->Prop):(X.wish E).Ok :=
 #[ok.mod,ok.kind,ok.glob,ok.blt,ok.above,ok.inj,ok.has,ok.cab,ok.hd,ok.frames,ok.stk,ok.exf,ok.bs,ok.bsz,ok.noex,ok.exfs,ok.funs,ok.frf]
theorem Cx.Ok.unwish {X:Cx} (ok:(X.wish E).Ok):X.Ok :=
 #[ok.mod,ok.kind,ok.glob,ok.blt,ok.above,ok.inj,ok.has,ok.cab,ok.hd,ok.frames,ok.stk,ok.exf,ok.bs,ok.bsz,ok.noex,ok.exfs,ok.funs,ok.frf]
section
variable {σ:St}
theorem Inv.wish (I:Inv X pins σ H s) (E:Value->Yo->Prop):Inv (X.wish E) pins σ H s:=#[I.ok.wish E,I.os,I.bare,I.base,I.loc,I.cell,I.free,I.freeC,I.pin,I.hok,I.len]
theorem Inv.unwish (I:Inv (X.wish E) pins σ H s):Inv X pins σ H s:=#[I.ok.unwish,I.os,I.bare,I.base,I.loc,I.cell,I.free,I.freeC,I.pin,I.hok,I.len]
theorem SP.unwish (h:SP (X.wish E) pins D f s'):SP X pins D f s':=by
 cases f with
 | next=>obtain σ'|H'|I|q:=h;exact #[σ',H',I.unwish,q]
 | brk=>obtain σ'|H'|I|q:=h;exact #[σ',H',I.unwish,q]
 | cont=>obtain σ'|H'|I|q:=h;exact #[σ',H',I.unwish,q]
 | ret u=>obtain v|σ'|H'|I|r|q:=h;exact #[v,σ',H',I.unwish,r,q]
theorem Dm.nox {st:List Stmt} (h:Dm X.nox st t):Dm X st t:=λpins s σ H D I hw =>
 YX (h pins s σ H D (I.wish _) hw) (λ_ _ q=>q.unwish) λ_ _ z=>YL z
end
section
variable {X:Cx} {st:Stmt} {rest:List Stmt} {t u:TS} {e:Expr} {te:TE} {pos:Pos}
def SM:TS:=λD σ H=>D.nx σ H
def V6 (t u:TS):TS:=λD σ H=>t { D with nx:=u D } σ H
theorem cg:Dm X [] SM:=λ_ _ σ H _ I h=>ZI #[σ,H,I,h]
theorem ak (h1:PS X st t) (h2:Dm X rest u):Dm X (st :: rest) (V6 t u):=by
 intro pins s σ H D I h;refine wpAny_execs_cons (ib (h1 pins s σ H { D with nx:=u D } I h) λf s1 q=>?_);cases f with
 | next =>
  obtain σ'|H'|I'|q:=q;exact h2 pins s1 σ' H' D I' q
 | ret v=>exact q
 | brk=>exact q
 | cont=>exact q
theorem av (h1:PS X st t):Dm X [st] t:=by
 intro pins s σ H D I h;refine wpAny_execs_cons (ib (h1 pins s σ H D I h) λf s1 q=>?_);cases f with
 | next=>exact ZI q
 | ret v=>exact q
 | brk=>exact q
 | cont=>exact q
theorem Inv.quiet {σ:St} (I:Inv X pins σ H s):interactive X.env=false:=by simp [interactive,I.ok.kind]
def SQ (te:TE):TS:=λD σ H=>te σ H λ_ H1=>D.nx σ H1
theorem jd (he:PE X e te) (hs:swapsWith e none pos.line X.env=pure false:=by rfl):PS X (.Expr e pos) (SQ te):=by
 intro pins s σ H D I h;exact wpAny_Expr_any (ib (he pins s σ H _ I h) λv s1 #[x,H1,I1,r1,q1]=>#[σ,H1,I1,q1]) I.quiet hs
def V7 (te:TE):TS:=λD σ H=>te σ H D.rt
theorem aX (he:PE X e te):PS X (.Return (some e) pos) (V7 te):=by
 intro pins s σ H D I h;exact wpAny_Return_some (ib (he pins s σ H _ I h) λv s1 #[x,H1,I1,r1,q1]=>#[x,σ,H1,I1,r1,q1])
def Wd (c:TT) (t u:TS):TS:=λD σ H=>c σ H λb H1=>if b=true then t D σ H1 else u D σ H1
theorem dw (hc:PT X c tc) (ha:Dm X a t) (hb:Dm X b u):PS X (.If c a b pos) (Wd tc t u):=by
 intro pins s σ H D I h;refine wpAny_If (ib (hc pins s σ H _ I h) λd s1 #[H1,I1,q1]=>?_);cases d with
 | true=>exact ha pins s1 σ H1 D I1 q1
 | false=>exact hb pins s1 σ H1 D I1 q1
end
abbrev TG:=V->St->Hp->(St->Hp->Prop)->Prop
abbrev PZ:=List V->St->Hp->(St->Hp->Prop)->Prop
def PG (X:Cx) (target:Expr) (t:TG):Prop :=
 ∀(pins:List (Addr×Obj)) (s:Yo) (σ:St) (H:Hp) (v:V) (u:Value) (Q:St->Hp->Prop),Inv X pins σ H s->RelV v u->t v σ H Q →
  Yy (model X.prog X.w) X.A (assign target X.env u) (λ_ s'=>∃σ' H',Inv X pins σ' H' s'/\Q σ' H') X.xe s
def Xs (X:Cx) (ts:List Expr) (t:PZ):Prop :=
 ∀(pins:List (Addr×Obj)) (s:Yo) (σ:St) (H:Hp) (vs:List V) (us:List Value) (Q:St->Hp->Prop),Inv X pins σ H s->cX vs us->t vs σ H Q →
  Yy (model X.prog X.w) X.A (assignInOrder ((ZL ts X.env).map (·.2)) us) (λ_ s'=>∃σ' H',Inv X pins σ' H' s'/\Q σ' H') X.xe s
abbrev J5:=V->V->V->Hp->(Hp->Prop)->Prop
def VE (X:Cx) (t:J5):Prop :=
 ∀(pins:List (Addr×Obj)) (s:Yo) (σ:St) (H:Hp) (o i v:V) (ov iv u:Value) (Q:Hp->Prop),Inv X pins σ H s->RelV o ov->RelV i iv->RelV v u->t o i v H Q →
  Yy (model X.prog X.w) X.A (setItem ov iv u) (λ_ s'=>∃H',Inv X pins σ H' s'/\Q H') X.xe s
abbrev Xr:=V->V->Hp->VK->Prop
def PIp (X:Cx) (op:Operator) (t:Xr):Prop :=
 ∀(pins:List (Addr×Obj)) (s:Yo) (σ:St) (H:Hp) (x y:V) (v u:Value) (Q:VK),Inv X pins σ H s->RelV x v->RelV y u->t x y H Q →
  Yy (model X.prog X.w) X.A (inplaceOp op v u) (EP X pins σ Q) X.xe s
section
variable {X:Cx} {pos:Pos}
def CZ (i:Nat):TG:=λv σ H Q=>Q (σ.set i (some v)) H
theorem Q1 {i:Nat} {x:Str} (hN:X.N.Nodup) (hi:X.N[i]?=some x:=by exact rfl) (hx:Loc X.env.scope x:=by exact Or.inl rfl) (hf:X.fn x=true\/X.env.scope.names.lookup x=some .local:=by first | exact .inl rfl | exact .inr rfl | assumption):PG X (.Name x pos) (CZ i):=by
 intro pins s σ H v u Q I r h;exact wpAny_assign_Name (vQ I hN hi hx r (λs' I'=>#[_,H,I',h]) hf)
def WY:PZ:=λvs σ H Q=>vs=[]/\Q σ H
def Tg (t:TG) (u:PZ):PZ:=λvs σ H Q=>∃v r,vs=v :: r/\t v σ H λσ' H'=>u r σ' H' Q
theorem gP:Xs X [] WY:=by
 intro pins s σ H vs us Q I r h;obtain e|h:=h;subst e;cases r;exact assignInOrder_nil #[σ,H,I,h]
theorem cp {e:Expr} {es:List Expr} {t:TG} {u:PZ} (h1:PG X e t) (h2:Xs X es u)
  (hs:(ZL (e :: es) X.env).map (·.2)=assign e X.env :: (ZL es X.env).map (·.2):=by rfl):Xs X (e :: es) (Tg t u):=by
 intro pins s σ H vs us Q I r h;obtain v|vr|e1|h:=h;subst e1;cases r with
 | cons r rr =>
  rw[hs];refine assignInOrder_cons (ib (h1 pins s σ H _ _ _ I r h) λ_ s1 #[σ1,H1,I1,q1]=>?_);exact h2 pins s1 σ1 H1 _ _ Q I1 rr q1
def Vl (K:FG9) (n:Nat) (t:PZ):TG:=λv σ H Q=>∃a xs,v=.ref a/\pA K H a xs/\xs.9=n/\t xs σ H Q
theorem vq {es:List Expr} {k:Nat} {t:PZ} {n:Nat} (hc:X.calm=true) (h:Xs X es t)
  (hn:(ZL es X.env).9=n:=by rfl) (hst:(ZL es X.env).findIdx? (·.1)=none:=by rfl):PG X (.Tuple es k pos) (Vl X.K n t):=by
 intro pins s σ H v u Q I r hw;obtain a|xs|e1|hq|hl|hw:=hw;subst e1;cases r;obtain its|rv|ht|hz:=I.tuple hq;refine assign_Tuple_tuple (I.ok.hd hc) ht (by simp [hn,<- hl,rv.9]) hst λh' hx=>?_
 have I1:Inv X pins σ H { s with heap:=h' }:=I.kept (t':=s.toks) λb o e=>hx b o (bR (Yr e)) e
 exact h pins _ σ H xs _ Q I1 (by simpa using rv) hw
def WX (to ti:TE) (t:J5):TG:=λv σ H Q=>to σ H λo H1=>ti σ H1 λi H2=>t o i v H2 λH3=>Q σ H3
theorem gX {o i : Expr} {to ti : TE} {t : J5} (ho : PE X o to) (hi : PE X i ti) (hs : VE X t)
    (ha : ∀ v, assign (.Subscript o i pos) X.env v = (do
      let ov <- holding [v] (eval o X.env)
      let iv <- holding [v, ov] (eval i X.env)
      standAt pos
      holding [v, ov, iv] (setItem ov iv v)
      release [v, ov, iv] []) := by intro _; rfl) : PG X (.Subscript o i pos) (WX to ti t) := by
  intro pins s σ H v u Q I r h;rw [ha];refine K0 (Zc (ib (ho pins s σ H _ I h) λov s1 #[x, H1, I1, r1, q1] => ?_));refine K0 (Zc (ib (hi pins s1 σ H1 _ I1 q1) λiv s2 #[y, H2, I2, r2, q2] => ?_));refine K0 (ZH (K0 (Zc (ib (hs pins s2 σ H2 x y v ov iv u _ I2 r1 r2 r q2) λ_ s3 #[H3, I3, q3] => ?_))));exact wpAny_release #[σ, H3, I3, q3]
def NA (te:TE) (g:TG):TS:=λD σ H=>te σ H λx H1=>g x σ H1 D.nx
theorem gM {tg e:Expr} {te:TE} {g:TG} (he:PE X e te) (hg:PG X tg g) (hs:swapsWithSole [tg] e pos.line X.env=pure false:=by rfl) (hw:swappedStores [tg] e X.env=pure none:=by rfl)
  (h1:(ZL [tg] X.env).map (·.2)=[assign tg X.env]:=by rfl):PS X (.Assign [tg] e pos) (NA te g):=by
 intro pins s σ H D I h;refine wpAny_Assign_stores (ib (he pins s σ H _ I h) λv s1 #[x,H1,I1,r1,q1]=>?_) hs hw;rw[h1];exact ib (hg pins s1 σ H1 x v _ I1 r1 q1) λ_ s2 q=>q
theorem UQ {i:Nat} {x:Str} {e:Expr} {te:TE} {pos':Pos} (hN:X.N.Nodup) (hi:X.N[i]?=some x) (hx:Loc X.env.scope x) (he:PE X e te) (hs:swapsWith e (some (.Name x pos')) pos.line X.env=pure false:=by rfl) (hf:X.fn x=true\/X.env.scope.names.lookup x=some .local:=by first | exact .inl rfl | exact .inr rfl | assumption) :
  PS X (.Assign [.Name x pos'] e pos) (NA te (CZ i)):=by
 intro pins s σ H D I h;refine wpAny_Assign_Name (ib (he pins s σ H _ I h) λv s1 #[y,H1,I1,r1,q1]=>?_) hs;exact vQ I1 hN hi hx r1 (λs2 I2=>#[_,H1,I2,q1]) hf
def V8 (i j:Nat) (ta:TA):TS:=λD σ H=>ta σ H λvs H1=>∃v w,vs=[v,w]/\D.nx ((σ.set i (some v)).set j (some w)) H1
theorem Oc {i j:Nat} {x y:Str} {a b:Expr} {ta:TA} {px py pt:Pos} {kt k2 pt2} (hc:X.calm=true) (hN:X.N.Nodup) (hi:X.N[i]?=some x) (hj:X.N[j]?=some y) (hij:i≠j)
  (hx:X.env.scope.names.lookup x=some .local) (hy:X.env.scope.names.lookup y=some .local) (ha:PA X [a,b] ta)
  (hw:swappedStores [.Tuple [.Name x px,.Name y py] kt pt] (.Tuple [a,b] k2 pt2) X.env=pure (some [x,y]))
  (hs:swapsWithSole [.Tuple [.Name x px,.Name y py] kt pt] (.Tuple [a,b] k2 pt2) pos.line X.env=pure false:=by rfl) :
  PS X (.Assign [.Tuple [.Name x px,.Name y py] kt pt] (.Tuple [a,b] k2 pt2) pos) (V8 i j ta):=by
 intro pins s σ H D I h;rw[exec_Assign_arm];refine K0 (ZH ?_);rw[hs];refine K0 (Yp ?_);rw[if_neg ()];refine K0 (Tuple_ (ib (ha _ pins s σ H _ I h) λus s1 #[vs,H1,I1,r1,q1]=>?_));obtain v|w|e1|q1:=q1;subst e1
 obtain ⟨u1,u2,rfl,rv,rw'⟩:∃u1 u2,us=[u1,u2]/\RelV v u1/\RelV w u2:=by
  cases r1 with
  | cons p q =>
   cases q with
   | cons p' q' =>
    cases q';exact #[_,_,rfl,p,p']
 refine wpAny_newObj_type ?_ (by show 2<=YB;decide);have I2:Inv X pins σ H1 { s1 with heap:=s1.heap.push { cls:=.type "tuple",data:=.seq [u1,u2].5 } }:=I1.kept (t':=s1.toks) λb o e=>Ym _ e
 rw[hw];refine K0 (Yp ?_);show Yy (model X.prog X.w) X.A (do rule "assign.swapped-stores";let items <- unpackItems (.ref s1.6) 2 none;assignInOrder [λv=>bindName X.env y v,λv=>bindName X.env x v] items.reverse;pure Flow.next) _ _ _
 refine K0 (wpAny_rule (K0 (unpackItems_tuple (items:=[u1,u2].toArray) (I.ok.hd hc) (IsTup.new s1.heap _) λh' hx'=>?_)));have I3:=I2.kept (h':=h') (t':=s1.toks) λb o e=>hx' b o (bR (Yr e)) e
 show Yy _ _ (assignInOrder [λv=>bindName X.env y v,λv=>bindName X.env x v] [u2,u1] >>= λ_=>pure Flow.next) _ _ _
 refine K0 (assignInOrder_cons (wpAny_bindName (vQ I3 hN hj (.inl hy) rw' (λs2 I4=>?_) (.inr hy))));refine assignInOrder_cons (wpAny_bindName (vQ I4 hN hi (.inl hx) rv (λs3 I5=>assignInOrder_nil (Yp ?_)) (.inr hx)));rw[List.set_comm _ _ (YI hij)] at I5;exact #[_,H1,I5,q1]
def SS (to ti te:TE) (tget:V->V->Hp->VK->Prop) (tip:Xr) (tset:J5):TS:=λD σ H=>to σ H λo H1=>ti σ H1 λi H2=>tget o i H2 λx H3=>te σ H3 λy H4=>tip x y H4 λz H5=>tset o i z H5 λH6=>D.nx σ H6
def Xt (X:Cx) (t:V->V->Hp->VK->Prop):Prop :=
 ∀(pins:List (Addr×Obj)) (s:Yo) (σ:St) (H:Hp) (o i:V) (ov iv:Value) (Q:VK),Inv X pins σ H s->RelV o ov->RelV i iv->t o i H Q →
  Yy (model X.prog X.w) X.A (getItem ov iv) (EP X pins σ Q) X.xe s
theorem QX {o i e:Expr} {to ti te:TE} {tget:V->V->Hp->VK->Prop} {tip:Xr} {tset:J5} {op:Operator} {tpos:Pos} (ho:PE X o to) (hi:PE X i ti) (hg:Xt X tget) (he:PE X e te) (hp:PIp X op tip) (hs:VE X tset)
  (ha:∀ov iv new,augStore i ov iv new=(do holding [new,ov,iv] (setItem ov iv new);release [new,ov,iv] [];pure .next):=by intros;rfl):PS X (.AugAssign (.Subscript o i tpos) op e pos) (SS to ti te tget tip tset):=by
 intro pins s σ H D I h;refine wpAny_AugAssign_SubscriptAny (ib (ho pins s σ H _ I h) λov s1 #[x1,H1,I1,r1,q1]=>?_) ha;refine ib (hi pins s1 σ H1 _ I1 q1) λiv s2 #[x2,H2,I2,r2,q2]=>?_
 refine ib (hg pins s2 σ H2 x1 x2 ov iv _ I2 r1 r2 q2) λold s3 #[x3,H3,I3,r3,q3]=>?_
 refine ib (he pins s3 σ H3 _ I3 q3) λv s4 #[x4,H4,I4,r4,q4]=>?_
 refine ib (hp pins s4 σ H4 x3 x4 old v _ I4 r3 r4 q4) λnew s5 #[x5,H5,I5,r5,q5]=>?_
 exact ib (hs pins s5 σ H5 x1 x2 x5 ov iv new _ I5 r1 r2 r5 q5) λ_ s6 #[H6,I6,q6]=>#[σ,H6,I6,q6]
def ipI (f:Int->Int->Int):Xr:=λx y H Q=>∃i j,x=.int i/\y=.int j/\Q (.int (f i j)) H
theorem Vd:PIp X .Add (ipI λi j=>i+j):=by
 intro pins s σ H x y v u Q I r1 r2 h;obtain i|j|e1|e2|q:=h;subst e1;subst e2;obtain t|rfl:=r1;obtain t'|rfl:=r2;exact iadd_int #[.int _,H,I.tok _,#[_,rfl],q]
end
section
variable {X:Cx} {pos:Pos}
def Nv (c:TT) (tb:TS):TS:=λD σ H=>∃W:Nat->St->Hp->Prop,(∃m,W m σ H)/\∀m σ H,W m σ H →
 c σ H λb H1=>if b=true then ∃N:St->Hp->Prop,(∀σ' H',N σ' H'->∃m',m' < m/\W m' σ' H')/\tb { D with nx:=N,ct:=N,bk:=D.nx } σ H1 else D.nx σ H1
theorem vY (hp:PassesOwn (model X.prog X.w) X.A X.env X.xe) (hc:PT X c tc) (hb:Dm X body tb):PS X (.While c body [] pos) (Nv tc tb):=by
 intro pins s σ H D I h;obtain W|⟨m0,w0⟩|turn:=h;refine wpAny_While (codeAny_whileLoop (λn s'=>∃σ' H',Inv X pins σ' H' s'/\W n σ' H') ?_ m0 #[σ,H,I,w0]);rintro n s1 ⟨σ1,H1,I1,w1⟩;refine Zj hp (ib (hc pins s1 σ1 H1 _ I1 (turn n σ1 H1 w1)) λb s2 #[H2,I2,q2]=>?_);cases b with
 | true =>
  obtain N|hN|q2:=q2;rw[if_pos rfl];refine Zj hp (ib (hb pins s2 σ1 H2 _ I2 q2) λf s3 q3=>?_);cases f with
  | next =>
   obtain σ3|H3|I3|n3:=q3;obtain m'|hm|w3:=hN σ3 H3 n3;exact #[m',hm,σ3,H3,I3,w3]
  | cont =>
   obtain σ3|H3|I3|n3:=q3;obtain m'|hm|w3:=hN σ3 H3 n3;exact #[m',hm,σ3,H3,I3,w3]
  | brk=>exact q3
  | ret v=>exact q3
 | false =>
  rw[if_neg aV];exact ZI #[σ1,H2,I2,q2]
end
structure It where
 go:Nat->Hp->Prop
 yld:Nat->Hp->V->Hp->Prop
 stop:Nat->Hp->Prop
def lQ (X:Cx) (pins:List (Addr×Obj)) (H:Hp) (b:Addr):Prop :=
 H b=none/\b≠X.env.locals/\b∉X.fs/\(b∈X.ex\/X.s₀.6<=b)/\(∀x c,X.env.cells.lookup x=some c->c≠b)/\∀p∈X.pn++pins,p.1≠b
theorem Inv.fpOk {σ:St} {b:Addr} (I:Inv X pins σ H s) (hb:s.6<=b) (hn:H' b=none):lQ X pins H' b:=by
 refine #[hn,pW (bD I.lt hb),I.nofs hb,.inr (ag I.sz hb),λx c e z=>?_,λp hp z=>?_]
 ·obtain v|q:=I.cell x c e;exact absurd (bD q.lt (by rw[z];exact hb)) (gG _)
 ·exact absurd (bD (Yr (I.pin p hp).1) (by rw[z];exact hb)) (gG _)
structure Turn (P:YS) (w:Y9) (K:FG9) (tg:Expr) (J:It) (fp:List Addr) (it:Addr) (tn:Nat->Heap->Prop):Prop where
 mem:it∈fp
 obj:∀i h,tn i h->∀b∈fp,∃o,h.get? b=some o/\∀v,o.data≠.cell v
 keep:∀i h h',tn i h->(∀b∈fp,∀o,h.get? b=some o->h'.get? b=some o)->tn i h'
 item:∀(X:Cx),X.prog=P->X.w=w->X.K=K->X.calm=true->∀(i:Nat) (pins:List (Addr×Obj)) (s:Yo) (σ:St) (H:Hp) (E:Value->Yo->Prop),Inv X pins σ H s->(∀b∈fp,lQ X pins H b)->tn i s.8->J.go i H →
  Yy (model P w) X.A (pyNext (.ref it)) (λr s1=>∃u,r=some u /\
   Yy (model P w) X.A (letOwnedTupleGo tg (.ref it) u) (λ_ s2=>∃x H',Inv X pins σ H' s2/\RelV x u/\J.yld i H x H'/\tn (i+1) s2.8/\∀b∈fp,H' b=none) E s1) E s
 done:∀(X:Cx),X.prog=P->X.w=w->X.K=K->X.calm=true->∀(i:Nat) (pins:List (Addr×Obj)) (s:Yo) (σ:St) (H:Hp) (E:Value->Yo->Prop),Inv X pins σ H s->(∀b∈fp,lQ X pins H b)->tn i s.8->J.stop i H →
  Yy (model P w) X.A (pyNext (.ref it)) (λr s1=>r=none/\Inv X pins σ H s1) E s
 self:∀(A:Y3) (i:Nat) (s:Yo) (Q:Value->Yo->Prop) (E:Value->Yo->Prop),tn i s.8->Q (.ref it) s->Yy (model P w) A (pyIter (.ref it)) Q E s
abbrev TI:=St->Hp->(It->Hp->Prop)->Prop
def PIE (X:Cx) (pins:List (Addr×Obj)) (σ:St) (tg:Expr) (R:It->Hp->Prop) (itv:Value) (s2:Yo):Prop :=
 ∃(it:Addr) (fp:List Addr) (tn:Nat->Heap->Prop) (J:It) (H':Hp),itv=.ref it/\Inv X pins σ H' s2/\Turn X.prog X.w X.K tg J fp it tn/\tn 0 s2.8/\(∀b∈fp,lQ X pins H' b)/\R J H'
def PI (X:Cx) (tg iter:Expr) (wi:TI):Prop :=
 ∀(pins:List (Addr×Obj)) (s:Yo) (σ:St) (H:Hp) (R:It->Hp->Prop),Inv X pins σ H s->wi σ H R →
  Yy (model X.prog X.w) X.A (eval iter X.env) (λv s1=>Yy (model X.prog X.w) X.A (pyIter v) (PIE X pins σ tg R) X.xe s1) X.xe s
theorem KO (ho:s.heap.get? it=some o) (hc:o.cls=.type n) (hd:o.data=.fields vs)
  (hn:["enumerate","zip","dict_itemiterator","dict_reverseitemiterator","odict_iterator","itertools.zip_longest","itertools.pairwise"].contains n=false) (hQ:Q .unit s):Yy M A (letOwnedTupleGo tg (.ref it) u) Q E s:=by
 unfold letOwnedTupleGo
 cases tg <;> first
  | exact Yp hQ
  | (cases u <;> first | exact Yp hQ | (refine K0 (wpAny_load ho ?_);rw[hc,hd];show Yy M A (if (["enumerate","zip","dict_itemiterator","dict_reverseitemiterator","odict_iterator","itertools.zip_longest","itertools.pairwise"].contains n && vs[0]? == some (ZG _))=true then _ else _) Q E s;rw[if_neg (by intro h;rw[hn,Bool.false_and] at h;cases h)];exact Yp hQ))
def SD (K:FG9) (a:Addr):It :=
 #[λi H=>∃xs x,br K H a xs/\xs[i]?=some x,λi H x H'=>H'=H/\∀xs,br K H a xs->xs[i]?=some x,λi H=>∃xs,br K H a xs/\xs.9<=i]
def VR (K:FG9) (a:Addr):It :=
 #[λi H=>∃xs x,pA K H a xs/\xs[i]?=some x,λi H x H'=>H'=H/\∀xs,pA K H a xs->xs[i]?=some x,λi H=>∃xs,pA K H a xs/\xs.9<=i]
def Io (lo:Int) (n:Nat):It:=#[λi _=>i < n,λi H x H'=>H'=H/\x=.int (lo+i),λi _=>n<=i]
theorem Ls {P:YS} {w:Y9} {K:FG9} {tg:Expr} (a it:Addr):Turn P w K tg (SD K a) [it] it (λi h=>h.IsListIter it a i) where
 mem:=by simp
 obj:=λi h st b hb=>by
  have e:b=it:=by simpa using hb
  subst e;obtain o|e|c|d:=st;exact #[o,e,λv z=>by rw[d] at z;cases z]
 keep:=λi h h' st k=>st.at λo e=>k it (by simp) o e
 item:=by
  intro X hP hw hK hc i pins s σ H E I hf st hg;subst hP hw hK;obtain xs|x|hq|hx:=hg;obtain its|rv|p|hz:=I.list hq;obtain u|hu|ru:=rv.get hx;obtain f0|f1|f2|f3|f4|f5:=hf it (by simp);refine wpAny_pyNext_list_item st p.isList (x:=u) (by simpa using hu) λh' st' sb=>?_
  have I1:Inv X pins σ H { s with heap:=h' }:=I.turned (t':=s.toks) (λb o hb e=>(sb.2 b hb).trans e) f0 f1 f3 f4 f5;obtain o|e|c|d:=id st';exact #[u,rfl,KO (s:={ s with heap:=h' }) e c d () ⟨x,H,I1,ru,⟨rfl,λys hy=>by rw[I.list_inj hy hq];exact hx⟩,st',λb hb=>(hf b hb).1⟩]
 done:=by
  intro X hP hw hK hc i pins s σ H E I hf st hg;subst hP hw hK;obtain xs|hq|hx:=hg;obtain its|rv|p|hz:=I.list hq;obtain f0|f1|f2|f3|f4|f5:=hf it (by simp);have hl:=rv.9;exact wpAny_pyNext_list_end (I.ok.hd hc) st p.isList (by simp;lia) λh' eb=>#[rfl,I.turned (t':=s.toks) (λb o hb e=>eb b o hb e) f0 f1 f3 f4 f5]
 self:=λ_ _ _ _ _ st h=>wpAny_pyIter_listiter st h
theorem IP {P:YS} {w:Y9} {K:FG9} {tg:Expr} (a it:Addr):Turn P w K tg (VR K a) [it] it (λi h=>h.IsTupleIter it a i) where
 mem:=by simp
 obj:=λi h st b hb=>by
  have e:b=it:=by simpa using hb
  subst e;obtain o|e|c|d:=st;exact #[o,e,λv z=>by rw[d] at z;cases z]
 keep:=λi h h' st k=>st.at λo e=>k it (by simp) o e
 item:=by
  intro X hP hw hK hc i pins s σ H E I hf st hg;subst hP hw hK;obtain xs|x|hq|hx:=hg;obtain its|rv|p|hz:=I.tuple hq;obtain u|hu|ru:=rv.get hx;obtain f0|f1|f2|f3|f4|f5:=hf it (by simp);refine wpAny_pyNext_tuple_item st (show s.heap.IsTuple a its.toArray from p) (x:=u) (by simpa using hu) λh' st' sb=>?_
  have I1:Inv X pins σ H { s with heap:=h' }:=I.turned (t':=s.toks) (λb o hb e=>(sb.2 b hb).trans e) f0 f1 f3 f4 f5;obtain o|e|c|d:=id st';exact #[u,rfl,KO (s:={ s with heap:=h' }) e c d () ⟨x,H,I1,ru,⟨rfl,λys hy=>by rw[I.tuple_inj hy hq];exact hx⟩,st',λb hb=>(hf b hb).1⟩]
 done:=by
  intro X hP hw hK hc i pins s σ H E I hf st hg;subst hP hw hK;obtain xs|hq|hx:=hg;obtain its|rv|p|hz:=I.tuple hq;obtain f0|f1|f2|f3|f4|f5:=hf it (by simp);have hl:=rv.9;exact wpAny_pyNext_tuple_end (I.ok.hd hc) st (show s.heap.IsTuple a its.toArray from p) (by simp;lia) λh' eb=>#[rfl,I.turned (t':=s.toks) (λb o hb e=>eb b o hb e) f0 f1 f3 f4 f5]
 self:=λ_ _ _ _ _ st h=>wpAny_pyIter_tupleiter st h
theorem IQ {P:YS} {w:Y9} {K:FG9} {tg:Expr} (it:Addr) (lo:Int) (n:Nat):Turn P w K tg (Io lo n) [it] it (λi h=>IsRangeIter h it (lo+(i:Nat)*1) ((n:Int) - (i:Nat)) 1) where
 mem:=by simp
 obj:=λi h st b hb=>by
  have e:b=it:=by simpa using hb
  subst e
  exact #[_,st,λv z=>by
   have z':Data.fields _=Data.cell v:=z;cases z']
 keep:=λi h h' st k=>k it (by simp) _ st
 item:=by
  intro X hP hw hK hc i pins s σ H E I hf st hg;subst hP hw hK;obtain f0|f1|f2|f3|f4|f5:=hf it (by simp);have W:=Walks.range (prog:=X.prog) (w:=X.w) (I.ok.hd hc) it lo 1 n;refine W.item i s _ _ hg st λv h' tk hv st' kk=>?_
  obtain t|rfl:=hv;have I1:Inv X pins σ H { s with heap:=h',toks:=tk }:=I.turned (λb o hb e=>kk b o (by simpa using hb) e) f0 f1 f3 f4 f5;refine #[_,rfl,KO (s:={ s with heap:=h',toks:=tk }) (n:="range_iterator") st' rfl rfl () ⟨.int (lo+i),H,I1,⟨t,?_⟩,⟨rfl,rfl⟩,st',λb hb=>(hf b hb).1⟩];rw[Int.mul_one]
 done:=by
  intro X hP hw hK hc i pins s σ H E I hf st hg;subst hP hw hK;obtain f0|f1|f2|f3|f4|f5:=hf it (by simp);exact wpAny_pyNext_range_end (I.ok.hd hc) st (by have:n<=i:=hg;lia) λh' eb=>#[rfl,I.turned (t':=s.toks) (λb o hb e=>eb b o hb e) f0 f1 f3 f4 f5]
 self:=λ_ _ _ _ _ st h=>wpAny_pyIter_rangeiter st h
section
variable {X:Cx} {tg:Expr}
def OR (K:FG9) (tl:TE):TI:=λσ H R=>tl σ H λx H1=>∃a,x=.ref a/\(∃xs,br K H1 a xs)/\R (SD K a) H1
def WR (K:FG9) (tl:TE):TI:=λσ H R=>tl σ H λx H1=>∃a,x=.ref a/\(∃xs,pA K H1 a xs)/\R (VR K a) H1
theorem cM (hl:PE X l tl):PI X tg l (OR X.K tl):=by
 intro pins s σ H R I h;refine ib (hl pins s σ H _ I h) λv s1 #[x,H1,I1,r1,q1]=>?_
 obtain a|e|⟨xs,hq⟩|q:=q1;subst e;cases r1;obtain its|rv|p|hz:=I1.list hq;refine Zx p.isList ?_;refine #[s1.6,[s1.6],_,_,H1,rfl,I1.kept (t':=s1.toks) λb o e=>Ym _ e,Ls a _,#[_,Yw _ rfl,rfl,rfl],λb hb=>?_,q];have e:b=s1.6:=by simpa using hb
 subst e;exact I1.fpOk (ah _) (I1.hok.fresh (ah _))
theorem UR (hl:PE X l tl):PI X tg l (WR X.K tl):=by
 intro pins s σ H R I h;refine ib (hl pins s σ H _ I h) λv s1 #[x,H1,I1,r1,q1]=>?_
 obtain a|e|⟨xs,hq⟩|q:=q1;subst e;cases r1;obtain its|rv|p|hz:=I1.tuple hq;refine wpAny_pyIter_tuple (show s1.heap.IsTuple a its.toArray from p) ?_;refine #[s1.6,[s1.6],_,_,H1,rfl,I1.kept (t':=s1.toks) λb o e=>Ym _ e,IP a _,#[_,Yw _ rfl,rfl,rfl],λb hb=>?_,q];have e:b=s1.6:=by simpa using hb
 subst e;exact I1.fpOk (ah _) (I1.hok.fresh (ah _))
theorem Ge {σ:St} {lo hi:Int} (I:Inv X pins σ H s) (h1:-(2^62)<=lo) (h2:lo < 2^62) (h3:-(2^62)<=hi) (h4:hi < 2^62)
  (q:R (Io lo (hi - lo).toNat) H):Yy (model X.prog X.w) X.A (pyIter (.ref s.6)) (PIE X pins σ tg R) E { s with heap:=s.heap.push { cls:=.type "range",data:=.fields [.int lo t,.int hi u,.int 1 v].toArray },toks:=tk }:=by
 refine wpAny_pyIter_range (IsRange.new ..) (small_one h1 h2 h3 h4) ?_;have I1:Inv X pins σ H { s with heap:=s.heap.push { cls:=.type "range",data:=.fields [.int lo t,.int hi u,.int 1 v].toArray },toks:=tk }:=I.kept λb o e=>Ym _ e
 refine #[(s.heap.push { cls:=.type "range",data:=.fields [.int lo t,.int hi u,.int 1 v].toArray }).objs.size,[(s.heap.push { cls:=.type "range",data:=.fields [.int lo t,.int hi u,.int 1 v].toArray }).objs.size],_,_,H,rfl,
  I1.kept (t':=tk) λb o e=>Ym _ e,IQ _ lo (hi - lo).toNat,?_,λb hb=>?_,q]
 ·have e1:lo+((0:Nat):Int)*1=lo:=by simp
  have e2:(((hi - lo).toNat:Nat):Int) - ((0:Nat):Int)=Y5.Range.rangeSize lo hi 1:=by rw[rangeSize_one];split <;> lia
  show IsRangeIter _ _ (lo+((0:Nat):Int)*1) ((((hi - lo).toNat:Nat):Int) - ((0:Nat):Int)) 1
  rw[e1,e2];exact Yw _ rfl
 ·have e:b=(s.heap.push { cls:=.type "range",data:=.fields [.int lo t,.int hi u,.int 1 v].toArray }).objs.size:=by simpa using hb
  subst e;exact I1.fpOk (ah _) (I1.hok.fresh (ah _))
def Td (ta:TA):TI:=λσ H R=>ta σ H λvs H1=>∃j:Int,vs=[.int j]/\-(2^62)<=j/\j < 2^62/\R (Io 0 j.toNat) H1
def Tc (ta:TA):TI:=λσ H R=>ta σ H λvs H1=>∃i j:Int,vs=[.int i,.int j]/\(-(2^62)<=i/\i < 2^62/\-(2^62)<=j/\j < 2^62)/\R (Io i (j - i).toNat) H1
theorem cm {a:Expr} {ta:TA} {p pos:Pos} (hg:Gl X "range") (hm:X.mg "range"=none) (ha:PA X [a] ta) (hs:Yu [a] X.env=[(false,eval a X.env)]:=by rfl):PI X tg (.Call (.Name "range" p) [a] [] pos) (Td ta):=by
 intro pins s σ H R I h;refine Call_ (mJ I hg hm boot_range (YE (ib (ha pos pins s σ H _ I h) λus s1 #[vs,H1,I1,r1,q1]=>?_) hs rfl));obtain j|e|q1|q2|q:=q1;subst e;cases r1 with
 | cons r rr =>
  cases rr;obtain t|rfl:=r;exact call_range_1 (Ge I1 () () q1 q2 (by simpa using q))
theorem CN {a b:Expr} {ta:TA} {p pos:Pos} (hg:Gl X "range") (hm:X.mg "range"=none) (ha:PA X [a,b] ta) (hs:Yu [a,b] X.env=[(false,eval a X.env),(false,eval b X.env)]:=by rfl) (hs2:Yu [b] X.env=[(false,eval b X.env)]:=by rfl) :
  PI X tg (.Call (.Name "range" p) [a,b] [] pos) (Tc ta):=by
 intro pins s σ H R I h;refine Call_ (mJ I hg hm boot_range (YE (ib (ha pos pins s σ H _ I h) λus s1 #[vs,H1,I1,r1,q1]=>?_) (by rw[hs,hs2]) (by rw[hs2];rfl)));obtain i|j|e|⟨q1,q2,q3,q4⟩|q:=q1;subst e;cases r1 with
 | cons r rr =>
  cases rr with
  | cons r' rr =>
   cases rr;obtain t|rfl:=r;obtain t'|rfl:=r';exact call_range_2 (Ge I1 q1 q2 q3 q4 q)
def We (wi:TI) (g:TG) (tb:TS):TS:=λD σ H=>wi σ H λJ H1=>∃W:Nat->Nat->St->Hp->Prop,(∃m,W 0 m σ H1)/\∀i m σ H,W i m σ H →
 (J.stop i H/\D.nx σ H)\/(J.go i H/\∃N:St->Hp->Prop,(∀σ' H',N σ' H'->∃m',m' < m/\W (i+1) m' σ' H')/\∀x H',J.yld i H x H'->g x σ H' λσ2 H2=>tb { D with nx:=N,ct:=N,bk:=D.nx } σ2 H2)
def Ag (fp:List Addr) (h:Heap):List (Addr×Obj):=fp.filterMap λb=>(h.get? b).map λo=>(b,o)
theorem sF (hb:b∈fp) (e:h.get? b=some o):(b,o)∈Ag fp h:=IG.mpr #[b,hb,by rw[e];rfl]
theorem LU (hp:p∈Ag fp h):p.1∈fp/\h.get? p.1=some p.2:=by
 obtain b|hb|e:=IG.mp hp;cases q:h.get? b with
 | none=>rw[q] at e;cases e
 | some o =>
  rw[q] at e;have e':(b,o)=p:=bP e;subst e';exact #[hb,q]
theorem Inv.pinned {σ:St} (I:Inv X pins σ H s) (hf:∀b∈fp,lQ X pins H b) (ho:∀b∈fp,∃o,s.heap.get? b=some o/\∀v,o.data≠.cell v):Inv X (pins++Ag fp s.8) σ H s :=
 I.pins_of λp hp=>(aB.mp hp).elim (λz=>I.pin p (b6 _ z)) λz=>by
  obtain hb|e:=LU z;obtain f0|f1|f2|_:=hf p.1 hb;obtain o|e'|d:=ho p.1 hb;rw[e] at e';cases e';exact #[e,f0,f1,f2,d]
theorem Inv.unpinned {σ:St} (I:Inv X (pins++pl) σ H s):Inv X pins σ H s:=I.pins_of λp hp=>I.pin p (b6 _ (mh _ hp))
theorem eL {iter:Expr} {body:List Stmt} {wi:TI} {g:TG} {tb:TS} {pos:Pos} (hp:PassesOwn (model X.prog X.w) X.A X.env X.xe) (hc:X.calm=true) (hi:PI X tg iter wi) (hg:PG X tg g) (hb:Dm X body tb)
  (hs:∀x,foldedSetIterable iter X.env x=pure x:=by intro _;rfl):PS X (.For tg iter body [] pos) (We wi g tb):=by
 intro pins s σ H D I h;refine wpAny_For (ib (hi pins s σ H _ I h) λv s1 h1=>ib h1 λitv s2 h2=>?_) hs;obtain it|fp|tn|J|H2|e|I2|T|st2|f2|W|⟨m0,w0⟩|turn:=h2;subst e;have stat:∀{H':Hp},(∀b∈fp,H' b=none)->∀b∈fp,lQ X pins H' b:=λhn b hb=>#[hn b hb,(f2 b hb).2]
 refine codeAny_forLoop_any (λn s'=>∃i σ' H',Inv X pins σ' H' s'/\tn i s'.8/\(∀b∈fp,H' b=none)/\W i n σ' H') ?_ m0 #[0,σ,H2,I2,st2,λb hb=>(f2 b hb).1,w0];rintro n s3 ⟨i,σ3,H3,I3,st3,fr3,w3⟩;rcases turn i n σ3 H3 w3 with ⟨stop,qn⟩ | ⟨go,N,hN,step⟩
 ·refine Zj hp (ib (T.done X rfl rfl rfl hc i pins s3 σ3 H3 X.xe I3 (stat fr3) st3 stop) λr s4 #[hr,I4]=>?_);subst hr;exact ZI #[σ3,H3,I4,qn]
 ·refine Zj hp (ib (T.item X rfl rfl rfl hc i pins s3 σ3 H3 X.xe I3 (stat fr3) st3 go) λr s4 #[u,hr,h4]=>?_);subst hr;refine Zj hp (ib h4 λ_ s5 #[x,H5,I5,r5,y5,st5,fr5]=>?_);have I5':=I5.pinned (stat fr5) (T.obj _ _ st5);refine Zj hp (ib (hg _ s5 σ3 H5 x u _ I5' r5 (step x H5 y5)) λ_ s6 #[σ6,H6,I6,q6]=>?_);refine Zj hp (ib (hb _ s6 σ6 H6 _ I6 q6) λf s7 q7=>?_)
  have again:∀{σ7:St} {H7:Hp},Inv X (pins++Ag fp s5.8) σ7 H7 s7->N σ7 H7->∃m,m < n/\∃i σ' H',Inv X pins σ' H' s7/\tn i s7.8/\(∀b∈fp,H' b=none)/\W i m σ' H':=λ{σ7 H7} I7 n7=>by
   obtain m'|hm|w7:=hN σ7 H7 n7;refine #[m',hm,i+1,σ7,H7,I7.unpinned,T.keep _ _ _ st5 λb hb o e=>(I7.pin (b,o) (b6 _ (b6 _ (sF hb e)))).1,λb hb=>?_,w7];obtain o|e|d:=T.obj _ _ st5 b hb;exact (I7.pin (b,o) (b6 _ (b6 _ (sF hb e)))).2.1
  cases f with
  | next=>obtain σ7|H7|I7|n7:=q7;exact again I7 n7
  | cont=>obtain σ7|H7|I7|n7:=q7;exact again I7 n7
  | brk=>obtain σ7|H7|I7|q7:=q7;exact #[σ7,H7,I7.unpinned,q7]
  | ret v=>obtain x7|σ7|H7|I7|r7|q7:=q7;exact #[x7,σ7,H7,I7.unpinned,r7,q7]
end
theorem qT {K:FG9} {g:TG} {tb:TS} {D:Ends} (Pv:Nat->St->Hp->Prop) (h0:Pv 0 σ H) (hl:∀i σ H,i<=xs.9->Pv i σ H->br K H a xs)
  (hs:∀i x σ H,xs[i]?=some x->Pv i σ H->g x σ H λσ2 H2=>tb { D with nx:=Pv (i+1),ct:=Pv (i+1),bk:=D.nx } σ2 H2) (hd:∀σ H,Pv xs.9 σ H->D.nx σ H) :
  ∃W:Nat->Nat->St->Hp->Prop,(∃m,W 0 m σ H)/\∀i m σ H,W i m σ H →
   ((SD K a).stop i H/\D.nx σ H)\/((SD K a).go i H/\∃N:St->Hp->Prop,(∀σ' H',N σ' H'->∃m',m' < m/\W (i+1) m' σ' H')/\∀x H',(SD K a).yld i H x H'->g x σ H' λσ2 H2=>tb { D with nx:=N,ct:=N,bk:=D.nx } σ2 H2):=by
 refine #[λi m σ H=>m=xs.9 - i/\i<=xs.9/\Pv i σ H,#[xs.9,by simp,a8 _,h0],?_];rintro i m σ H ⟨rfl,hi,p⟩;have q:=hl i σ H hi p;by_cases hlt:i < xs.9
 ·refine .inr #[#[xs,xs[i],q,by simp [hlt]],Pv (i+1),λσ' H' p'=>#[xs.9 - (i+1),(),rfl,hlt,p'],λx H' y=>?_];obtain e|y:=y;subst e;exact hs i x σ _ (y xs q) p
 ·have e:i=xs.9:=()
  subst e;exact .inl #[#[xs,q,ah _],hd σ H p]
theorem RH {K:FG9} {g:TG} {tb:TS} {D:Ends} (Pv:Nat->St->Hp->Prop) (h0:Pv 0 σ H) (hl:∀i σ H,i<=xs.9->Pv i σ H->pA K H a xs)
  (hs:∀i x σ H,xs[i]?=some x->Pv i σ H->g x σ H λσ2 H2=>tb { D with nx:=Pv (i+1),ct:=Pv (i+1),bk:=D.nx } σ2 H2) (hd:∀σ H,Pv xs.9 σ H->D.nx σ H) :
  ∃W:Nat->Nat->St->Hp->Prop,(∃m,W 0 m σ H)/\∀i m σ H,W i m σ H →
   ((VR K a).stop i H/\D.nx σ H)\/((VR K a).go i H/\∃N:St->Hp->Prop,(∀σ' H',N σ' H'->∃m',m' < m/\W (i+1) m' σ' H')/\∀x H',(VR K a).yld i H x H'->g x σ H' λσ2 H2=>tb { D with nx:=N,ct:=N,bk:=D.nx } σ2 H2):=by
 refine #[λi m σ H=>m=xs.9 - i/\i<=xs.9/\Pv i σ H,#[xs.9,by simp,a8 _,h0],?_];rintro i m σ H ⟨rfl,hi,p⟩;have q:=hl i σ H hi p;by_cases hlt:i < xs.9
 ·refine .inr #[#[xs,xs[i],q,by simp [hlt]],Pv (i+1),λσ' H' p'=>#[xs.9 - (i+1),(),rfl,hlt,p'],λx H' y=>?_];obtain e|y:=y;subst e;exact hs i x σ _ (y xs q) p
 ·have e:i=xs.9:=()
  subst e;exact .inl #[#[xs,q,ah _],hd σ H p]
theorem yd {lo:Int} {g:TG} {tb:TS} {D:Ends} (Pv:Nat->St->Hp->Prop) (h0:Pv 0 σ H)
  (hs:∀i σ H,i < n->Pv i σ H->g (.int (lo+i)) σ H λσ2 H2=>tb { D with nx:=Pv (i+1),ct:=Pv (i+1),bk:=D.nx } σ2 H2) (hd:∀σ H,Pv n σ H->D.nx σ H) :
  ∃W:Nat->Nat->St->Hp->Prop,(∃m,W 0 m σ H)/\∀i m σ H,W i m σ H →
   ((Io lo n).stop i H/\D.nx σ H)\/((Io lo n).go i H/\∃N:St->Hp->Prop,(∀σ' H',N σ' H'->∃m',m' < m/\W (i+1) m' σ' H')/\∀x H',(Io lo n).yld i H x H'->g x σ H' λσ2 H2=>tb { D with nx:=N,ct:=N,bk:=D.nx } σ2 H2):=by
 refine #[λi m σ H=>m=n - i/\i<=n/\Pv i σ H,#[n,by simp,a8 _,h0],?_];rintro i m σ H ⟨rfl,hi,p⟩;by_cases hlt:i < n
 ·refine .inr #[hlt,Pv (i+1),λσ' H' p'=>#[n - (i+1),(),rfl,hlt,p'],λx H' y=>?_];obtain e|y:=y;subst e y;exact hs i σ _ hlt p
 ·have e:i=n:=()
  subst e;exact .inl #[ah _,hd σ H p]
abbrev R2:=V->V->Hp->VK->Prop
def yF (X:Cx) (f:Value->Value->Sem Value) (r:R2):Prop :=
 ∀(pins:List (Addr×Obj)) (s:Yo) (σ:St) (H:Hp) (x y:V) (v u:Value) (Q:VK),Inv X pins σ H s->RelV x v->RelV y u->r x y H Q →
  Yy (model X.prog X.w) X.A (f v u) (EP X pins σ Q) X.xe s
def Yd (X:Cx) (f:Value->Sem Value) (r:V->Hp->VK->Prop):Prop :=
 ∀(pins:List (Addr×Obj)) (s:Yo) (σ:St) (H:Hp) (x:V) (v:Value) (Q:VK),Inv X pins σ H s->RelV x v->r x H Q →
  Yy (model X.prog X.w) X.A (f v) (EP X pins σ Q) X.xe s
def sT (X:Cx) (f:Value) (r:List V->Hp->VK->Prop):Prop :=
 ∀(pins:List (Addr×Obj)) (s:Yo) (σ:St) (H:Hp) (xs:List V) (us:List Value) (Q:VK),Inv X pins σ H s->cX xs us->r xs H Q →
  Yy (model X.prog X.w) X.A (call f us) (EP X pins σ Q) X.xe s
def V9 (r:R2) (ta tb:TE):TE:=λσ H Q=>ta σ H λx H1=>tb σ H1 λy H2=>r x y H2 Q
def XJ (r:V->Hp->VK->Prop) (ta:TE):TE:=λσ H Q=>ta σ H λx H1=>r x H1 Q
def rI (C:Int->Int->Prop) (g:Int->Int->V):R2:=λx y H Q=>∃i j,x=.int i/\y=.int j/\C i j/\Q (g i j) H
def QT (g:Int->Int->V):R2:=λx y H Q=>∃i j,x=.int i/\y=.int j/\Q (g i j) H
def rU (g:Int->V):V->Hp->VK->Prop:=λx H Q=>∃i,x=.int i/\Q (g i) H
section
variable {X:Cx} {a b c:Expr} {ta tb tc:TE} {pos:Pos}
theorem VA (ha:PE X a ta) (hb:PE X b tb) {σ:St} {R:V->V->Hp->Prop} (I:Inv X pins σ H s)
  (h:ta σ H λx H1=>tb σ H1 λy H2=>R x y H2) {f:Value->Value->Sem Value}
  (hf:∀v u s2 x y H2,Inv X pins σ H2 s2->RelV x v->RelV y u->R x y H2->Yy (model X.prog X.w) X.A (f v u) Q X.xe s2) :
  Yy (model X.prog X.w) X.A (eval a X.env) (λv s₁=>Yy (model X.prog X.w) X.A (eval b X.env) (λu s₂=>Yy (model X.prog X.w) X.A (f v u) Q X.xe s₂) X.xe s₁) X.xe s:=by
 refine ib (ha pins s σ H _ I h) λv s1 #[x,H1,I1,r1,q1]=>?_
 refine ib (hb pins s1 σ H1 _ I1 q1) λu s2 #[y,H2,I2,r2,q2]=>?_
 exact hf v u s2 x y H2 I2 r1 r2 q2
theorem bw (ho:yF X (binaryOp op) r) (ha:PE X a ta) (hb:PE X b tb):PE X (.BinOp a op b pos) (V9 r ta tb):=by
 intro pins s σ H Q I h;exact wpAny_BinOp (VA ha hb I h λv u s2 x y H2 I2 rx ry q=>ho pins s2 σ H2 x y v u Q I2 rx ry q)
theorem qS (ho:Yd X (unaryOp op) r) (ha:PE X a ta):PE X (.UnaryOp op a pos) (XJ r ta):=by
 intro pins s σ H Q I h;exact UnaryOp_ (ib (ha pins s σ H _ I h) λv s1 #[x,H1,I1,r1,q1]=>ho pins s1 σ H1 x v Q I1 r1 q1)
theorem X6 {g:Int->Int->Int}
  (rule:∀(i j:Int) (t u:Tok) (s:Yo) (Q:Value->Yo->Prop) (E:Value->Yo->Prop),C i j->Q (.int (g i j) s.toks) { s with toks:=s.toks+1 }->Yy (model X.prog X.w) X.A (f (.int i t) (.int j u)) Q E s) :
  yF X f (rI C λi j=>.int (g i j)):=by
 intro pins s σ H x y v u Q I rx ry h;obtain i|j|rfl|rfl|hc|q:=h;obtain t|rfl:=rx;obtain t'|rfl:=ry;exact rule i j t t' s _ _ hc #[.int (g i j),H,I.tok _,#[_,rfl],q]
theorem WC {g:Int->Int->Int}
  (rule:∀(i j:Int) (t u:Tok) (s:Yo) (Q:Value->Yo->Prop) (E:Value->Yo->Prop),Q (.int (g i j) s.toks) { s with toks:=s.toks+1 }->Yy (model X.prog X.w) X.A (f (.int i t) (.int j u)) Q E s) :
  yF X f (QT λi j=>.int (g i j)):=by
 intro pins s σ H x y v u Q I rx ry h;obtain i|j|rfl|rfl|q:=h;obtain t|rfl:=rx;obtain t'|rfl:=ry;exact rule i j t t' s _ _ #[.int (g i j),H,I.tok _,#[_,rfl],q]
theorem Q8 {g:Int->Int->Bool}
  (rule:∀(i j:Int) (t u:Tok) (s:Yo) (Q:Value->Yo->Prop) (E:Value->Yo->Prop),Q (.bool (g i j)) s->Yy (model X.prog X.w) X.A (f (.int i t) (.int j u)) Q E s) :
  yF X f (QT λi j=>.bl (g i j)):=by
 intro pins s σ H x y v u Q I rx ry h;obtain i|j|rfl|rfl|q:=h;obtain t|rfl:=rx;obtain t'|rfl:=ry;exact rule i j t t' s _ _ #[.bl (g i j),H,I,rfl,q]
def VN (i j:Int):Prop:=(-(2^64) < i/\i < 2^64)\/(-(2^64) < j/\j < 2^64)
theorem VN.ok (h:VN i j):IntMulOk i j:=by
 rcases h with ⟨h1,h2⟩ | ⟨h1,h2⟩
 ·exact .of_left (intBits_le_64 h1 h2)
 ·exact .of_right (intBits_le_64 h1 h2)
theorem fj:yF X (binaryOp .Add) (QT λi j=>.int (i+j)):=WC λ_ _ _ _ _ _ _ q=>add_int q
theorem jy:yF X (binaryOp .Sub) (QT λi j=>.int (i - j)):=WC λ_ _ _ _ _ _ _ q=>sub_int q
theorem qG:yF X (binaryOp .Mod) (rI (λ_ j=>0 < j) λi j=>.int (i % j)):=X6 λi j _ _ _ _ _ hc q=>by
 have h1:(0:Int) < j:=hc;exact mod_int' () (by rw[Int.fmod_eq_emod_of_nonneg i ()];exact q)
theorem Q7:yF X (binaryOp .Mod) (rI (λ_ j=>j≠0) λi j=>.int (i.fmod j)):=X6 λ_ _ _ _ _ _ _ hc q=>mod_int' hc q
theorem unI {g:Int->Int}
  (rule:∀(i:Int) (t:Tok) (s:Yo) (Q:Value->Yo->Prop) (E:Value->Yo->Prop),Q (.int (g i) s.toks) { s with toks:=s.toks+1 }->Yy (model X.prog X.w) X.A (f (.int i t)) Q E s) :
  Yd X f (rU λi=>.int (g i)):=by
 intro pins s σ H x v Q I rx h;obtain i|rfl|q:=h;obtain t|rfl:=rx;exact rule i t s _ _ #[.int (g i),H,I.tok _,#[_,rfl],q]
theorem my:Yd X (unaryOp .USub) (rU λi=>.int (-i)):=unI λ_ _ _ _ _ q=>neg_int q
end
def Wj:V->V->Bool
 | .non,.non=>true | .non,.int _=>true | .int _,.non=>true | .non,.bl _=>true | .bl _,.non=>true | .non,.str _=>true | .str _,.non=>true
 | .int _,.int _=>true | .bl _,.bl _=>true | .str _,.str _=>true | .byt _,.byt _=>true
 | .int _,.str _=>true | .str _,.int _=>true | .bl _,.str _=>true | .str _,.bl _=>true
 | _,_=>false
def X4:R2:=λx y H Q=>Wj x y=true/\Q (.bl (decide (x=y))) H
def XZ:R2:=λx y H Q=>Wj x y=true/\Q (.bl (!decide (x=y))) H
theorem K7:decide (V.int i=V.int j)=(i == j):=by
 rw[oy];simp
theorem Pe:decide (V.bl i=V.bl j)=(i == j):=by
 rw[oy];simp
theorem K6:decide (V.str i=V.str j)=(i == j):=by
 rw[oy];simp
theorem K8:decide (V.byt i=V.byt j)=(i.toList == j.toList):=by
 rw[oy];cases i;cases j;simp
section
variable {X:Cx} {a b c:Expr} {ta tb tc:TE} {pos:Pos}
theorem dN {σ:St} (I:Inv X pins σ H s) (q:Q (.bl k) H) (e:k=k'):EP X pins σ Q (.bool k') s:=by
 subst e;exact #[.bl k,H,I,rfl,q]
theorem fI:yF X (Zh .Eq) X4:=by
 intro pins s σ H x y v u Q I rx ry h;obtain hs|q:=h;cases x with
 | non =>
  cases rx;cases y with
  | non=>cases ry;exact PySem.EqNone.eq_none_none (dN I q (by simp))
  | bl j=>cases ry;exact PySem.EqNone.eq_none_bool (dN I q (by simp))
  | int j=>obtain t'|rfl:=ry;exact PySem.EqNone.eq_none_int (dN I q (by simp))
  | str j=>obtain t'|rfl:=ry;exact PySem.EqNone.eq_none_str (dN I q (by simp))
  | _=>exact absurd (show false=true from hs) aV
 | bl i =>
  cases rx;cases y with
  | non=>cases ry;exact PySem.EqNone.eq_bool_none (dN I q (by simp))
  | bl j=>cases ry;exact eq_bool (dN I q Pe)
  | str j=>obtain t'|rfl:=ry;exact PySem.EqMixed.eq_bool_str (dN I q (by simp))
  | _=>exact absurd (show false=true from hs) aV
 | int i =>
  obtain t|rfl:=rx;cases y with
  | non=>cases ry;exact PySem.EqNone.eq_int_none (dN I q (by simp))
  | int j=>obtain t'|rfl:=ry;exact eq_int (dN I q K7)
  | str j=>obtain t'|rfl:=ry;exact PySem.EqMixed.eq_int_str (dN I q (by simp))
  | _=>exact absurd (show false=true from hs) aV
 | str i =>
  obtain t|rfl:=rx;cases y with
  | non=>cases ry;exact PySem.EqNone.eq_str_none (dN I q (by simp))
  | bl j=>cases ry;exact PySem.EqMixed.eq_str_bool (dN I q (by simp))
  | int j=>obtain t'|rfl:=ry;exact PySem.EqMixed.eq_str_int (dN I q (by simp))
  | str j=>obtain t'|rfl:=ry;exact eq_str (dN I q K6)
  | _=>exact absurd (show false=true from hs) aV
 | byt i =>
  obtain t|rfl:=rx;cases y with
  | byt j=>obtain t'|rfl:=ry;exact PySem.W.eq_bytes (dN I q K8)
  | _=>exact absurd (show false=true from hs) aV
 | _=>cases y <;> exact absurd (show false=true from hs) aV
theorem uS:yF X (Zh .NotEq) XZ:=by
 intro pins s σ H x y v u Q I rx ry h;obtain hs|q:=h;cases x with
 | non =>
  cases rx;cases y with
  | non=>cases ry;exact PySem.EqNone.ne_none_none (dN I q (by simp))
  | bl j=>cases ry;exact PySem.EqNone.ne_none_bool (dN I q (by simp))
  | int j=>obtain t'|rfl:=ry;exact PySem.EqNone.ne_none_int (dN I q (by simp))
  | str j=>obtain t'|rfl:=ry;exact PySem.EqNone.ne_none_str (dN I q (by simp))
  | _=>exact absurd (show false=true from hs) aV
 | bl i =>
  cases rx;cases y with
  | non=>cases ry;exact PySem.EqNone.ne_bool_none (dN I q (by simp))
  | bl j=>cases ry;exact ne_bool (dN I q (congrArg not Pe))
  | str j=>obtain t'|rfl:=ry;exact PySem.EqMixed.ne_bool_str (dN I q (by simp))
  | _=>exact absurd (show false=true from hs) aV
 | int i =>
  obtain t|rfl:=rx;cases y with
  | non=>cases ry;exact PySem.EqNone.ne_int_none (dN I q (by simp))
  | int j=>obtain t'|rfl:=ry;exact ne_int (dN I q (congrArg not K7))
  | str j=>obtain t'|rfl:=ry;exact PySem.EqMixed.ne_int_str (dN I q (by simp))
  | _=>exact absurd (show false=true from hs) aV
 | str i =>
  obtain t|rfl:=rx;cases y with
  | non=>cases ry;exact PySem.EqNone.ne_str_none (dN I q (by simp))
  | bl j=>cases ry;exact PySem.EqMixed.ne_str_bool (dN I q (by simp))
  | int j=>obtain t'|rfl:=ry;exact PySem.EqMixed.ne_str_int (dN I q (by simp))
  | str j=>obtain t'|rfl:=ry;exact ne_str (dN I q (congrArg not K6))
  | _=>exact absurd (show false=true from hs) aV
 | byt i =>
  obtain t|rfl:=rx;cases y with
  | byt j=>obtain t'|rfl:=ry;exact PySem.W.ne_bytes (dN I q (congrArg not K8))
  | _=>exact absurd (show false=true from hs) aV
 | _=>cases y <;> exact absurd (show false=true from hs) aV
theorem oR:yF X (Zh .Lt) (QT λi j=>.bl (decide (i < j))):=Q8 λ_ _ _ _ _ _ _ q=>lt_int q
theorem WA:yF X (Zh .LtE) (QT λi j=>.bl (decide (i<=j))):=Q8 λ_ _ _ _ _ _ _ q=>le_int q
theorem An:yF X (Zh .Gt) (QT λi j=>.bl (decide (j < i))):=Q8 λ_ _ _ _ _ _ _ q=>gt_int q
theorem Ao:yF X (Zh .GtE) (QT λi j=>.bl (decide (j<=i))):=Q8 λ_ _ _ _ _ _ _ q=>ge_int q
theorem Q5:yF X (Zh .IsNot) (λx y H Q=>y=.non/\Q (.bl (!decide (x=.non))) H):=by
 intro pins s σ H x y v u Q I rx ry h;obtain rfl|q:=h;cases ry;refine isnot_none_gen (dN I q ?_)
 cases x <;> first
  | (cases rx;rfl)
  | (obtain ⟨t,rfl⟩:=rx;rfl)
theorem bo (b:Expr) {op:CmpOp} (h:op≠.In:=by decide) (h2:op≠.NotIn:=by decide):behindInMarks op b=false:=by
 have e1:(op == CmpOp.In)=false:=by cases op <;> first | rfl | exact absurd rfl h
 have e2:(op == CmpOp.NotIn)=false:=by cases op <;> first | rfl | exact absurd rfl h2
 cases b <;> simp [behindInMarks,e1,e2]
theorem ig (ho:yF X (Zh op) r) (ha:PE X a ta) (hb:PE X b tb) (hm:behindInMarks op b=false):PE X (.Compare a [op] [b] pos) (V9 r ta tb):=by
 intro pins s σ H Q I h;exact wpAny_Compare1 (VA ha hb I h λv u s2 x y H2 I2 rx ry q=>ho pins s2 σ H2 x y v u Q I2 rx ry q) hm
def SI (t:TE):TT:=λσ H Q=>t σ H λx H'=>∃k,x=.bl k/\Q k H'
theorem bh (ho:yF X (Zh op) r) (ha:PE X a ta) (hb:PE X b tb) (hm:behindInMarks op b=false):PT X (.Compare a [op] [b] pos) (SI (V9 r ta tb)):=by
 intro pins s σ H Q I h
 refine wpAny_isTrue_Compare1 (ib (ha pins s σ H _ I h) λv s1 #[x,H1,I1,r1,q1]=>ib (hb pins s1 σ H1 _ I1 q1) λu s2 #[y,H2,I2,r2,q2] =>
  ib (ho pins s2 σ H2 x y v u _ I2 r1 r2 q2) λc s3 #[z,H3,I3,r3,k,e,q3]=>?_) hm
 subst e;cases r3;exact Zw #[H3,I3,q3]
theorem AK:(YB:Nat) < 2^63:=by rw[sizeLine_eq];decide
theorem vals1 (r:cX [x] us):∃u,us=[u]/\RelV x u:=by
 cases r with
 | cons r1 r2=>cases r2;exact #[_,rfl,r1]
theorem vals2 (r:cX [x,y] us):∃u w',us=[u,w']/\RelV x u/\RelV y w':=by
 cases r with
 | cons r1 r2 =>
  cases r2 with
  | cons r3 r4=>cases r4;exact #[_,_,rfl,r1,r3]
theorem A2:sT X (.builtin "abs") (λxs H Q=>∃i,xs=[.int i]/\Q (.int (if i < 0 then -i else i)) H):=by
 intro pins s σ H xs us Q I r h;obtain i|rfl|q:=h;obtain u|rfl|t|rfl:=vals1 r;exact call_abs_int λu tk=>#[.int (if i < 0 then -i else i),H,I.tok _,#[_,rfl],q]
theorem uJ (hc:X.calm=true):sT X (.builtin "min") (λxs H Q=>∃i j,xs=[.int i,.int j]/\Q (.int (if j < i then j else i)) H):=by
 intro pins s σ H xs us Q I r h;obtain i|j|rfl|q:=h;obtain u|w'|rfl|⟨t,rfl⟩|⟨t',rfl⟩:=vals2 r;refine min_two_ints (I.ok.hd hc) λh' tk k=>#[_,H,I.kept k,?_,q]
 by_cases hj:j < i
 ·rw[if_pos hj,if_pos hj];exact #[_,rfl]
 ·rw[if_neg hj,if_neg hj];exact #[_,rfl]
end
structure J8 (h:Heap) (x dx C:Addr) (mA:Str->Option Value):Prop where
 obj:h.get? x=some (Ze C dx)
 ns:h.Ns1 dx mA
 ne:dx≠x
theorem L8 {h:Heap} (n:h.Ns1 dx mA):∃od,h.get? dx=some od/\∀name,PySem.W.lookIn name od=some (mA name):=by
 obtain o|es|ep|ho|hd|hk|_|hm:=n;refine #[o,ho,λname=>?_];have e:=hm name;unfold nsFind findBy at e;rw[<- Array.find?_toList] at e;unfold PySem.W.lookIn;rw[hd]
 dsimp only
 split
 ·rename_i y q
  rw[q] at e;exact congrArg some e
 ·rename_i q
  rw[q] at e
  have a:es.toList.any (·.refKey)=false:=by
   rw[List.any_eq_false];intro y hy;obtain z|t|hkey:=hk y (Array.mem_toList_iff.mp hy);simp [DictEntry.refKey,hkey]
  have a':¬es.toList.any (·.refKey)=true:=by rw[a];exact aV
  rw[if_neg a'];exact congrArg some e
theorem J8.look (I:J8 h x dx C mA):∃od,PySem.W.InstAt h x (Ze C dx) C (some od)/\∀name,PySem.W.lookIn name od=some (mA name) :=
 let ⟨od,ho,hl⟩:=L8 I.ns
 #[od,#[I.obj,rfl,rfl,ho],hl]
section
variable {K:FG9}
theorem get_map (X:K.In s.8) (I:J8 s.heap x dx C mA) (hg:PySem.W.plainGet K C name=true) (hh:PySem.W.hasDictIn K C=true)
  (ha:YH K (.ref C) name=some none) (hv:mA name=some v) (hv':PySem.W.handedIn v=true) (h:Q v { s with toks:=s.toks+1 }) :
  Yy (model prog w) A (getAttr (.ref x) name expr) Q E s:=by
 obtain od|J|hl:=I.look;exact PySem.W.get_value X J (Fv hg).1 (PySem.W.findObj_own hh ha rfl (by rw[hl,hv])) hv' h
theorem OV (X:K.In s.8) (I:J8 s.heap x dx C mA) (hg:PySem.W.plainGet K C name=true)
  (hf:YH K (.ref C) name=some (some (.ref f))) (ht:PySem.W.isFn K (.ref f)=true) (hv:mA name=none) (h:Q (.ref f,[.ref x]) s) :
  Yy (model prog w) A (getMethod (.ref x) name pl) Q E s:=by
 obtain od|J|hl:=I.look;exact PySem.W.method_fn X J (Fv hg).1 (Fv hg).2 hf (beq_iff_eq.mp ht) (by show (PySem.W.lookIn name od).map (·.isSome)=some false;rw[hl,hv];rfl) h
theorem Qo (X:K.In s.8) (I:J8 s.heap x dx C mA)
  (hs:YH K (.ref C) "__setattr__"=some (some (.builtin "object.__setattr__"))) (hp:PySem.W.plainOver K C=true) (ht:PySem.W.takerIn K C name=some none) (hh:PySem.W.hasDictIn K C=true)
  (hw:PySem.Within mA ns) (hsz:ns.9<=YB)
  (h:∀h',J8 h' x dx C (λy=>if y=name then some v else mA y)->Heap.SameBut dx s.heap h'->Q .unit { s with heap:=h',toks:=s.toks+2 }) :
  Yy (model prog w) A (setAttr (.ref x) name v) Q E s:=by
 obtain od|J|hl:=I.look;refine PySem.W.set_plain X J hs (PySem.W.osa_open (s:={ s with toks:=s.toks+1 }) (r:=none) X J hp ht λb=>?_);obtain cd|hc|hd':=PySem.W.any_some hh;have hx:s.heap.get? x=some #[.ref C,some dx,.plain,[].toArray]:=I.obj;refine K0 (Yp (K0 (K0 (wpAny_loadPart hx (K0 (PySem.W.Looks.here (s:={ s with toks:=s.toks+1 }) (PySem.W.looks_clsIn X hc) ?_))))));rw[hd'];refine Yp (a:=some dx) (K0 (Yp (K0 ?_)));refine wpAny_nsSet1 (s:={ s with toks:=s.toks+1 }) I.ns λh' hn2 hs2=>?_
 obtain oD|esD|epD|hoD|hdD|hcD:=hn2.count (PySem.Within.cons name v hw);refine K0 (wpAny_lookBehind hoD (by rw[hdD];exact pastItsLine_dict (ag hcD (by rw[bL];lia))) ?_);exact Yp (h _ #[(hs2.2 _ (YI I.ne)).trans I.obj,hn2,I.ne] hs2)
theorem OC (X:K.In s.8) (hm:PySem.W.makesIn K C=true)
  (hi:YH K (.ref C) "__init__"=some (some (.ref f))) (hf:PySem.W.typeIn K (.ref f)=some (.type "function"))
  (h:Zy (model prog w) (A.under (.builtin "type.__call__" #[.ref C :: vs,kw])) (.call (.ref f) #[.ref (s.6+1) :: vs,kw]) (PySem.W.InitBack (s.6+1) R)
   { s with heap:=(s.heap.push YY).push (Ze C s.6) }) :
  Zy (model prog w) A (.call (.ref C) #[vs,kw]) R s:=by
 obtain hh|g|d|t|os:=s;exact PySem.W.make_core (PySem.W.makes_of X hm) (PySem.W.looks_findIn X hi) (λself=>PySem.W.bind_fn X self hf) (.inl rfl) h
end
def cB (f:Str) (v:V):List (Str×V)->List (Str×V)
 | []=>[(f,v)]
 | (g,x) :: r=>if g=f then (g,v) :: r else (g,x) :: cB f v r
theorem bB (f g:Str) (v:V):∀fs:List (Str×V),(cB f v fs).lookup g=if g=f then some v else fs.lookup g
 | []=>by
  show Zk g [(f,v)]=_
  by_cases h:g=f
  ·have hb:(g == f)=true:=beq_iff_eq.mpr h;simp only[Zk,hb,if_pos h]
  ·have hb:(g == f)=false:=beq_eq_false_iff_ne.mpr h;simp only[Zk,hb,if_neg h]
 | (k,x) :: r=>by
  have ih:=bB f g v r;rw[show cB f v ((k,x) :: r)=(if k=f then (k,v) :: r else (k,x) :: cB f v r) from rfl];by_cases hk:k=f
  ·rw[if_pos hk];by_cases h:g=k
   ·have hb:(g == k)=true:=beq_iff_eq.mpr h;simp only[Zk,hb,if_pos (h.trans hk)]
   ·have hb:(g == k)=false:=beq_eq_false_iff_ne.mpr h;simp only[Zk,hb,if_neg (λe:g=f=>h (e.trans hk.symm))]
  ·rw[if_neg hk];by_cases h:g=k
   ·have hb:(g == k)=true:=beq_iff_eq.mpr h;simp only[Zk,hb,if_neg (λe:g=f=>hk (h.symm.trans e))]
   ·have hb:(g == k)=false:=beq_eq_false_iff_ne.mpr h;simp only[Zk,hb];exact ih
theorem xZ (f:Str) (v:V):∀fs:List (Str×V),f∈(cB f v fs).map (·.1)/\∀g,g∈fs.map (·.1)->g∈(cB f v fs).map (·.1)
 | []=>#[by simp [cB],λg h=>by simp at h]
 | (k,x) :: r=>by
  obtain i1|i2:=xZ f v r;rw[show cB f v ((k,x) :: r)=(if k=f then (k,v) :: r else (k,x) :: cB f v r) from rfl];by_cases hk:k=f
  ·rw[if_pos hk];subst hk;exact #[by simp,λg h=>by simpa using h]
  ·rw[if_neg hk];refine #[?_,λg h=>?_]
   ·rw[iB];exact bS _ i1
   ·rw[iB] at h ⊢;rcases ay.mp h with e | e
    ·exact ay.mpr (.inl e)
    ·exact bS _ (i2 g e)
theorem yD (f:Str) (v:V):∀fs:List (Str×V),(cB f v fs).9<=fs.9+1
 | []=>by simp [cB]
 | (k,x) :: r=>by
  have ih:=yD f v r;rw[show cB f v ((k,x) :: r)=(if k=f then (k,v) :: r else (k,x) :: cB f v r) from rfl];by_cases hk:k=f
  ·rw[if_pos hk,bL,bL];lia
  ·rw[if_neg hk,bL,bL];lia
theorem Bf.some_of (r:Bf (some v) o):∃u,o=some u/\RelV v u:=by
 cases o with
 | none=>exact (show False from r).elim
 | some u=>exact #[u,rfl,r]
theorem Bf.none_of (r:Bf none o):o=none:=by
 cases o with
 | none=>rfl
 | some u=>exact (show False from r).elim
theorem Mj (r:RelV v u):PySem.W.handedIn u=true:=by
 cases v with
 | non=>cases (show u=Zb from r);rfl
 | bl b=>cases (show u=Value.bool b from r);rfl
 | int i=>obtain t|e:=(show ∃t,u=Value.int i t from r);cases e;rfl
 | str x=>obtain t|e:=(show ∃t,u=Value.str x t from r);cases e;rfl
 | byt b=>obtain t|e:=(show ∃t,u=Value.bytes b t from r);cases e;rfl
 | flt b=>obtain t|e:=(show ∃t,u=Value.float b t from r);cases e;rfl
 | ref a=>cases (show u=Yx a from r);rfl
 | ty n=>cases (show u=Y6 n from r);rfl
theorem zw (hok:xh P w H h) (e:H a=some (.ins C dx fs)):∃mA,J8 h a dx C mA/\(∀f,Bf (fs.lookup f) (mA f))/\PySem.Within mA (fs.map (·.1))/\fs.9<=1000/\H dx=some (.own a):=by
 obtain d|z|ne|ob|mA|n|r|q:=(show iG P w H h a (.ins C dx fs) from hok a _ e);exact #[mA,#[ob,n,ne],r,q,z,d]
structure M6 (K:FG9) (C:Addr):Prop where
 pg:PySem.W.plainGet K C Str.empty=true
 hd:PySem.W.hasDictIn K C=true
 po:PySem.W.plainOver K C=true
 sa:YH K (.ref C) "__setattr__"=some (some (.builtin "object.__setattr__"))
theorem M6.get {K:FG9} (c:M6 K C) (f:Str):PySem.W.plainGet K C f=true:=c.pg
def lO (K:FG9) (C:Addr) (f:Str):Prop:=YH K (.ref C) f=some none
theorem lO.taker {K:FG9} (n:lO K C f):PySem.W.takerIn K C f=some none:=by
 unfold PySem.W.takerIn;rw[show YH K (.ref C) f=some none from n];rfl
structure VG (K:FG9) (C:Addr) (m:Str) (f:Addr):Prop where
 at_:YH K (.ref C) m=some (some (.ref f))
 fn:PySem.W.isFn K (.ref f)=true
 kp:Zp K (.ref f)=true
section
variable {σ:St}
theorem Jr (I:Inv X pins σ H s) (e:H a=some (.ins C dx fs)) (c:M6 X.K C) (n:lO X.K C f) (l:fs.lookup f=some v)
  (h:∀u s',Inv X pins σ H s'->RelV v u->Q u s'):Yy (model X.prog X.w) A (getAttr (.ref a) f b) Q E s:=by
 obtain mA|O|r|_|_|_:=zw I.hok e;obtain u|hu|ru:=Bf.some_of (v:=v) (o:=mA f) (by rw[<- l];exact r f);exact get_map I.kIn O (c.get f) c.hd n hu (Mj ru) (h u _ (I.tok _) ru)
theorem Jq (I:Inv X pins σ H s) (e:H a=some (.ins C dx fs)) (c:M6 X.K C) (k:VG X.K C m g) (l:fs.lookup m=none)
  (h:Q (.ref g,[.ref a]) s):Yy (model X.prog X.w) A (getMethod (.ref a) m pl) Q E s:=by
 obtain mA|O|r|_|_|_:=zw I.hok e;have hn:mA m=none:=Bf.none_of (by rw[<- l];exact r m);exact OV I.kIn O (c.get m) k.at_ k.fn hn h
theorem IT (I:Inv X pins σ H s) (e:H a=some (.ins C dx fs)) (c:M6 X.K C) (n:lO X.K C f) (hl:fs.9 < 1000) (ry:RelV y u)
  (h:∀s',Inv X pins σ (upd H a (.ins C dx (cB f y fs))) s'->Q .unit s'):Yy (model X.prog X.w) A (setAttr (.ref a) f u) Q E s:=by
 obtain mA|O|r|wi|_|ho:=zw I.hok e;have hz:(fs.map (·.1)).9<=YB:=by rw[af,sizeLine_eq];lia
 refine Qo I.kIn O c.sa c.po n.taker c.hd wi hz λh' O' sb=>h _ ?_
 have hd:∃o,h'.get? dx=some o:=let ⟨o,_,_,e',_⟩:=O'.ns;#[o,e']
 refine I.write (x:=a) (e:=dx) (by rw[e];exact ZM) (.inr ho) (λb q hb z=>(sb.2 b hb).trans z) hd ?_;refine #[by rw[aY O.ne];exact ho,?_,O.ne,O'.obj,_,O'.ns,λg=>?_,λg hg=>?_]
 ·have:=yD f y fs;lia
 ·show Bf ((cB f y fs).lookup g) (if g=f then some u else mA g)
  rw[bB];by_cases q:g=f
  ·rw[if_pos q,if_pos q];exact ry
  ·rw[if_neg q,if_neg q];exact r g
 ·by_cases q:g=f
  ·rw[q];exact (xZ f y fs).1
  ·refine (xZ f y fs).2 g (wi g λz=>hg ?_);show (if g=f then some u else mA g)=none
   rw[if_neg q];exact z
theorem Inv.made (I:Inv X pins σ H s):Inv X pins σ (upd (upd H s.heap.objs.size (.own (s.6+1))) (s.6+1) (.ins C s.6 []))
  { s with heap:=(s.heap.push YY).push (Ze C s.6) }:=by
 have e1:(s.heap.push YY).get? s.6=some YY:=Yw s.heap rfl
 have e2:((s.heap.push YY).push (Ze C s.6)).get? (s.6+1)=some (Ze C s.6):=by
  have:=Yw (s.heap.push YY) (o:=Ze C s.6) rfl;rwa [YT] at this
 have e3:(s.heap.push YY).Ns s.heap.objs.size (λ_=>none):=#[YY,[].toArray,_,e1,rfl,(λe he=>absurd he (by simp)),λ_=>rfl];have I1:=I.laid (a:=s.6) (o:=.own (s.6+1)) (h':=s.heap.push YY) (t':=s.toks) (λb u q=>Ym _ q) (ah _) #[_,e1];refine I1.laid (a:=s.6+1) (o:=.ins C s.6 []) (t':=s.toks) (λb u q=>Ym _ q) (Lp (YT _ _)) ?_;have ne:s.6≠s.6+1:=bR (iD _);refine #[by rw[aY ne,aD],a8 _,ne,e2,λ_=>none,(Heap.Ns1.of_empty e3).at λo q=>Ym _ q,λ_=>ZM,λy hy=>absurd rfl hy]
theorem Sj (hb:attributeBase e f env (eval e env)=eval e env)
  (h:Yy (model prog w) A (eval e env) (λo s₁=>Yy (model prog w) A (getAttr o f true) Q E s₁) E s):Yy (model prog w) A (eval (.Attribute e f pos) env) Q E s :=
 Attribute_any_ h (by rw[arm_eval_Attribute,hb])
end
def Uc (K:FG9) (ta:TE) (f:Str):TE:=λσ H Q=>ta σ H λx H1=>∃a C dx fs v,x=.ref a/\H1 a=some (.ins C dx fs)/\M6 K C/\lO K C f/\fs.lookup f=some v/\Q v H1
def Wk (K:FG9) (ta tv:TE) (f:Str):TS:=λD σ H=>tv σ H λy H1=>ta σ H1 λx H2=>∃a C dx fs,x=.ref a/\H2 a=some (.ins C dx fs)/\M6 K C/\lO K C f/\fs.9 < 1000 /\
 D.nx σ (upd H2 a (.ins C dx (cB f y fs)))
theorem dB (he:PE X e ta) (hb:attributeBase e f X.env (eval e X.env)=eval e X.env):PE X (.Attribute e f pos) (Uc X.K ta f):=by
 intro pins s σ H Q I h;refine Sj hb (ib (he pins s σ H _ I h) λu s1 #[x,H1,I1,rx,a,C,dx,fs,v,ex,ea,c,n,l,q]=>?_);subst ex;obtain rfl:u=Yx a:=rx;exact Jr I1 ea c n l λu' s2 I2 ru=>#[v,H1,I2,ru,q]
theorem xP (ha:PE X o ta) (hv:PE X value tv) (hs:swapsWith value (some (.Attribute o f pos')) pos.line X.env=pure false):PS X (.Assign [.Attribute o f pos'] value pos) (Wk X.K ta tv f):=by
 intro pins s σ H D I h;refine plainObj_wpAny_Assign_Attribute (ib (hv pins s σ H _ I h) λu s1 #[y,H1,I1,ry,q]=>ib (ha pins s1 σ H1 _ I1 q) λov s2 #[x,H2,I2,rx,a,C,dx,fs,ex,ea,c,n,l,q2]=>?_) hs;subst ex;obtain rfl:ov=Yx a:=rx;exact IT I2 ea c n l ry λs3 I3=>#[σ,_,I3,q2]
section
variable {X:Cx} {pins:List (Addr×Obj)} {σ:St} {H:Hp} {s:Yo} {A:Y3} {E:Value->Yo->Prop} {Q:Value->Yo->Prop} {c:Value} {b:Bool}
inductive yo (K:FG9) (H:Hp):V->Value->Prop where
 | non:yo K H .non (.type "NoneType")
 | bl (x:Bool):yo K H (.bl x) (.type "bool")
 | int (i:Int):yo K H (.int i) (.type "int")
 | str (x:Str):yo K H (.str x) (.type "str")
 | flt (x:UInt64):yo K H (.flt x) (.type "float")
 | lst {a:Addr} {xs:List V} (e:H a=some (.lst xs)):yo K H (.ref a) (.type "list")
 | frz {a:Addr} {o:Obj} {xs:List V} (e:H a=some (.frz o (.lst xs))):yo K H (.ref a) (.type "list")
 | tup {a:Addr} {xs:List V} (e:H a=some (.tup xs)):yo K H (.ref a) (.type "tuple")
 | dK {a:Addr} {kvs:List (Key×V)} (e:H a=some (.dK kvs)):yo K H (.ref a) (.type "dict")
 | dT {a:Addr} {kvs:List (List Key×V)} (e:H a=some (.dT kvs)):yo K H (.ref a) (.type "dict")
 | ins {a C dx:Addr} {fs:List (Str×V)} (e:H a=some (.ins C dx fs)) (cl:M6 K C) (ha:YH K (.ref C) "__class__"=some (some (.builtin "object.__class__")))
   (hn:PySem.W.specialIn K (.builtin "object.__class__") "__get__"=some (some (.builtin "getset_descriptor.__get__"))) (htk:PySem.W.takesIn K (.builtin "object.__class__")=some true)
   (hm:PySem.W.mroIn K C (.type "object")=some true):yo K H (.ref a) (.ref C)
theorem CW (I:Inv X pins σ H s) (rx:RelV x u) (ty:yo X.K H x t) (e:PySem.W.kitOne X.K t c=some b) (h:∀tk,Q (.bool b) { s with toks:=tk }) :
  Yy (model X.prog X.w) A (call (.builtin "isinstance") [u,c]) Q E s:=by
 cases ty with
 | non=>cases (show u=Zb from rx);exact dP PySem.W.kitx_none I.kIn ZM e (λz=>nomatch z) h
 | bl y=>cases (show u=Value.bool y from rx);exact dP PySem.W.kitx_bool I.kIn ZM e (λz=>nomatch z) h
 | int i=>obtain t|q:=(show ∃t,u=Value.int i t from rx);cases q;exact dP PySem.W.kitx_int I.kIn ZM e (λz=>nomatch z) h
 | str y=>obtain t|q:=(show ∃t,u=Value.str y t from rx);cases q;exact dP PySem.W.kitx_str I.kIn ZM e (λz=>nomatch z) h
 | flt y=>obtain t|q:=(show ∃t,u=Value.float y t from rx);cases q;exact dP PySem.W.kitx_float I.kIn ZM e (λz=>nomatch z) h
 | @lst a xs ea =>
  cases (show u=Yx a from rx);obtain _|_|n|_|h1:=(show iG X.prog X.w H s.heap a (.lst xs) from I.hok a _ ea);exact dP PySem.W.kitx_list I.kIn #[_,h1,rfl] e (λz=>nomatch z) h
 | @frz a ob xs ea =>
  cases (show u=Yx a from rx);obtain _|_|_|n|_|h1:=(show iG X.prog X.w H s.heap a (.frz ob (.lst xs)) from I.hok a _ ea);exact dP PySem.W.kitx_list I.kIn #[_,h1,rfl] e (λz=>nomatch z) h
 | @tup a xs ea =>
  cases (show u=Yx a from rx);obtain _|_|_|p:=(show iG X.prog X.w H s.heap a (.tup xs) from I.hok a _ ea);obtain o|h1|h2|_:=p;exact dP PySem.W.kitx_tuple I.kIn #[o,h1,h2] e (λz=>nomatch z) h
 | @dK a kvs ea =>
  cases (show u=Yx a from rx);obtain _|_|vs|_|p:=(show iG X.prog X.w H s.heap a (.dK kvs) from I.hok a _ ea);obtain o|es|ep|h1|h2|_:=p;exact dP PySem.W.kitx_dict I.kIn #[o,h1,h2.1] e (λz=>nomatch z) h
 | @dT a kvs ea =>
  cases (show u=Yx a from rx);obtain _|_|xs|_|o|es|ep|h1|h2|_:=(show iG X.prog X.w H s.heap a (.dT kvs) from I.hok a _ ea);exact dP PySem.W.kitx_dict I.kIn #[o,h1,h2.1] e (λz=>nomatch z) h
 | @ins a C dx fs ea cl ha hn htk hm =>
  cases (show u=Yx a from rx);obtain mA|O|_:=zw I.hok ea;obtain od|J|_:=O.look;exact dP (PySem.W.kitx_own (cl.get _) cl.hd ha hn htk hm) I.kIn J e (λz=>nomatch z) h
end
structure kq (k:Nat) (A:Y3):Prop where
 hd:A.handled=none
 dp:A.depth+3*k+105 < recursionLimit
 un:A.units+16*k+200 < cLine
theorem kq.mono (r:kq k A) (h:j<=k):kq j A:=#[r.hd,by have:=r.dp;lia,by have:=r.un;lia]
theorem kq.deeper (r:kq (k+1) A) (env:Env):kq k (A.deeper env) :=
 #[r.hd,by have:=r.dp;show A.depth+1+3*k+105 < _;lia,by have:=r.un;show A.units+3+16*k+200 < _;lia]
theorem Jn {A:Y3}:(A.under (.builtin "type.__call__" #[.ref C :: us,kw])).depth=A.depth+1:=by
 first | rfl | simp [Y3.under,Code.weight,Code.isCreation,Code.isGuard,Code.isCaller,Code.frames,Code.isFrame,guardIds]
theorem Jm {A:Y3}:(A.under (.builtin "type.__call__" #[.ref C :: us,kw])).units=A.units+1:=by
 first | rfl | simp [Y3.under,Code.cUnits,Code.frames,Code.isFrame]
theorem kq.make (r:kq (k+1) A) (C:Addr) (us:List Value) (kw:List (Str×Value)):kq k (A.under (.builtin "type.__call__" #[.ref C :: us,kw])) :=
 #[r.hd,by have:=r.dp;rw[Jn];lia,by have:=r.un;rw[Jm];lia]
theorem kq.depth (r:kq k A):A.depth < recursionLimit:=by have:=r.dp;lia
theorem kq.units (r:kq k A):A.units+64 < cLine:=by have:=r.un;lia
def Bn:TA:=λ_ H Q=>Q [] H
def jQ (ta:TE) (tr:TA):TA:=λσ H Q=>ta σ H λx H1=>tr σ H1 λxs H2=>Q (x :: xs) H2
section
variable {X:Cx} {e:Expr} {es:List Expr} {te:TE} {t:TA} {pos:Pos}
theorem jx:PA X [] Bn:=λ_ _ _ _ H Q I h=>Calls.spliced_nil #[[],H,I,.nil,h]
theorem gQ (ha:PE X e te) (hr:PA X es t) (hs:Yu (e :: es) X.env=(false,eval e X.env) :: Yu es X.env:=by rfl):PA X (e :: es) (jQ te t):=by
 intro pos pins s σ H Q I h;rw[hs];show Yy _ _ (spliced ((false,eval e X.env) :: ZK pos (Yu es X.env))) _ _ s
 refine Calls.spliced_cons (ib (ha pins s σ H _ I h) λu s1 #[x,H1,I1,r1,q1]=>?_);exact ib (hr pos pins s1 σ H1 _ I1 q1) λus s2 #[xs,H2,I2,r2,q2]=>#[x :: xs,H2,I2,.cons r1 r2,q2]
def VZ (t:TA):TE:=λσ H Q=>t σ H λxs H1=>xs.9<=YB/\∀p,H1 p=none->Q (.ref p) (upd H1 p (.tup xs))
def Wc (t:TA):TE:=λσ H Q=>t σ H λxs H1=>xs.9<=YB/\∀p,H1 p=none->Q (.ref p) (upd H1 p (.lst xs))
theorem c8 (h:PA X es t):PE X (.Tuple es x1 pos) (VZ t):=by
 intro pins s σ H Q I hq;refine wpAny_Tuple_spliced (ib (h pos pins s σ H _ I hq) λus s1 #[xs,H1,I1,r,z,q]=>#[by rw[<- r.9];exact z,?_]);have hf:H1 s1.6=none:=I1.hok.fresh (ah _);refine #[.ref s1.6,upd H1 s1.heap.objs.size (.tup xs),I1.laid (t':=s1.toks) (λb u e=>Ym _ e) (ah _) ?_,rfl,q _ hf];exact #[z,us,r,#[_,Yw _ rfl,rfl,_,rfl]]
theorem fO (h:PA X es t):PE X (.List es pos) (Wc t):=by
 intro pins s σ H Q I hq;refine wpAny_List_spliced (ib (h pos pins s σ H _ I hq) λus s1 #[xs,H1,I1,r,z,q]=>#[by rw[<- r.9];exact z,?_]);have hf:H1 s1.6=none:=I1.hok.fresh (ah _);refine #[.ref s1.6,upd H1 s1.heap.objs.size (.lst xs),I1.laid (t':=s1.toks) (λb u e=>Ym _ e) (ah _) ?_,rfl,q _ hf];exact #[z,us,0,r,Yw _ rfl]
end
abbrev Sp:=List V->Hp->VK->XK->Prop
abbrev Lm:=List Env->Hp->Yo->XK->Value->Yo->Prop
structure Kb (P:YS) (w:Y9) (K:FG9) (mg:Str->Option Value) (base:Heap) (A:Y3) (outer:List Env) (s:Yo) (H:Hp):Prop where
 frames:A.frames=some outer
 mod:Mod K mg base
 bs:∀b o,base.get? b=some o->s.heap.get? b=some o/\H b=none
 bsz:base.objs.7<=s.heap.objs.size
 funs:s.heap.FunFrames base outer
 frf:∀b∈wH outer,H b=none
 hok:xh P w H s.heap
 bare:AllBare s.gens
def CE (outer:List Env) (P:YS) (w:Y9) (H:Hp) (s:Yo) (Q:VK) (u:Value) (s':Yo):Prop :=
 ∃v H',s'.os=s.os/\AllBare s'.gens/\Un (wH outer) [] H H' s.heap s'.8/\xh P w H' s'.8/\RelV v u/\Q v H'
def CR (CX:Lm) (outer:List Env) (P:YS) (w:Y9) (H:Hp) (s:Yo) (Q:VK) (E:XK) (r:Result) (s':Yo):Prop :=
 match r with
 | .ok (.ret u)=>CE outer P w H s Q u s'
 | .ok _=>False
 | .error e=>CX outer H s E e s'
structure o7 (P:YS) (w:Y9) (K:FG9) (mg:Str->Option Value) (base:Heap) (CX:Lm) (k:Nat) (f:Addr) (fd:Yn) (ps:List Str) (sp:Sp):Prop where
 len:∀vs H Q E,sp vs H Q E->vs.9=ps.9
 run:∀(A:Y3) (outer:List Env) (s:Yo) (H:Hp) (args:Args) (us:List Value) (vs:List V) (Q:VK) (E:XK),kq k A->Kb P w K mg base A outer s H->BindsTo s fd args (ps.zip us)->cX vs us->sp vs H Q E →
  Zy (model P w) A (.call (.ref f) args) (CR CX outer P w H s Q E) s
theorem Kb.make {K:FG9} (e:Kb P w K mg base A outer s H) (C:Addr) (us:List Value) (kw:List (Str×Value)) :
  Kb P w K mg base (A.under (.builtin "type.__call__" #[.ref C :: us,kw])) outer s H:=#[by first | exact e.frames | (simpa [Y3.under,Code.envs,Code.isFrame,pushEnvs] using e.frames),e.mod,e.bs,e.bsz,e.funs,e.frf,e.hok,e.bare]
section
variable {σ:St}
theorem Inv.env0 (I:Inv X pins σ H s):Kb X.prog X.w X.K X.mg X.base X.A X.stack s H :=
 #[I.ok.frames,I.ok.mod,I.bs,ag I.ok.bsz I.sz,I.stack,I.stkFree,I.hok,I.bare]
theorem Inv.after (I:Inv X pins σ H s) (h:CE X.stack X.prog X.w H s Q u s'):EP X pins σ Q u s':=by
 obtain v|H'|os|bare|un|hok|r|q:=h;obtain hh|g|d|t|os':=s';obtain rfl:os'=s.os:=os;exact #[v,H',I.call (h':=hh) (g':=g) (d':=d) (t':=t) (ch:=[]) un hok bare (λb z=>absurd z (by simp)),r,q]
end
def Nz (sp:Sp) (dvs:List V) (E:XK) (t:TA):TE:=λσ H Q=>t σ H λvs H1=>sp (vs++dvs) H1 Q E
def SN (C:Addr) (m:Str) (sp:Sp) (dvs:List V) (E:XK) (ta:TE) (t:TA):TE:=λσ H Q=>ta σ H λx H1=>∃a dx fs,x=.ref a/\H1 a=some (.ins C dx fs)/\fs.lookup m=none /\
 t σ H1 λvs H2=>sp (x :: (vs++dvs)) H2 Q E
def SO (C:Addr) (sp:Sp) (dvs:List V) (E:XK) (t:TA):TE:=λσ H Q=>t σ H λvs H1=>∀x dx,H1 x=none->H1 dx=none->dx≠x →
 sp (.ref x :: (vs++dvs)) (upd (upd H1 dx (.own x)) x (.ins C dx [])) (λv H2=>v=.non/\Q (.ref x) H2) E
def Binds (K:FG9) (fd:Yn) (ps:List Str) (ds:List Value):Prop :=
 ∀(s:Yo) (us:List Value),K.In s.8->(us++ds).9=ps.9->BindsTo s fd #[us,[]] (ps.zip (us++ds))
theorem Binds.all {K:FG9} (h:∀us:List Value,us.9=ps.9->bindArgs fd #[us,[]]=pure (ps.zip us)):Binds K fd ps []:=λs us _ hl=>by
 rw[fK] at hl ⊢;exact .of_eq (h us hl)
def vI (CX:Lm) (X:Cx) (E:XK):Prop:=∀(pins:List (Addr×Obj)) (σ:St) (H:Hp) (s:Yo) (e:Value) (s':Yo),Inv X pins σ H s->CX X.stack H s E e s'->X.xe e s'
section
variable {X:Cx} {CX:Lm} {k:Nat} {f C:Addr} {fd:Yn} {ps:List Str} {sp:Sp} {dvs:List V} {ds:List Value} {E:XK} {x m:Str} {p pos apos:Pos} {e o:Expr} {es:List Expr} {ta:TE} {t:TA}
theorem NS {σ:St} (F:o7 X.prog X.w X.K X.mg X.base CX k f fd ps sp) (hr:kq k X.A) (hb:Binds X.K fd ps ds) (hd:cX dvs ds) (hx:vI CX X E)
  (I:Inv X pins σ H s) (r:cX vs us) (h:sp (vs++dvs) H Q E):Yy (model X.prog X.w) X.A (call (.ref f) us) (EP X pins σ Q) X.xe s:=by
 have r2:cX (vs++dvs) (us++ds):=r.append hd;have hl:(us++ds).9=ps.9:=by rw[<- r2.9];exact F.len _ _ _ _ h
 refine wpAny_call (ZD (F.run X.A X.stack s H #[us,[]] (us++ds) (vs++dvs) Q E hr I.env0 (hb s us I.kIn hl) r2 h) λr s' hq=>?_);cases r with
 | error e=>exact hx pins σ H s e s' I hq
 | ok fl =>
  cases fl with
  | ret u=>exact I.after hq
  | next=>exact YL hq
  | brk=>exact YL hq
  | cont=>exact YL hq
theorem Kv (F:o7 X.prog X.w X.K X.mg X.base CX k f fd ps sp) (hr:kq k X.A) (hg:Gl X x) (hm:X.mg x=some (.ref f)) (hk:Zp X.K (.ref f)=true) (hb:Binds X.K fd ps ds) (hd:cX dvs ds) (hx:vI CX X E)
  (ha:PA X (e :: es) t) (hdb:(x == ("__debug__":Str))=false:=by decide) (he:Yu (e :: es) X.env=(false,eval e X.env) :: Yu es X.env:=by rfl) (hpl:(ZK pos (Yu es X.env)).any (·.1)=false:=by rfl) :
  PE X (.Call (.Name x p) (e :: es) [] pos) (Nz sp dvs E t):=by
 intro pins s σ H Q I h;refine YU (uG I hg hm ?_ hdb);refine oB (h₀:=X.base) I.ok.mod.kin hk (ib (ha pos pins s σ H _ I h) λus s1 #[vs,H1,I1,r,q]=>#[I1.kIn,?_]) he hpl;exact NS F hr hb hd hx I1 r q
theorem Q2 {pl : Sem Bool} (he : PE X o ta) (c : M6 X.K C) (hm : VG X.K C m f) (F : o7 X.prog X.w X.K X.mg X.base CX k f fd ps sp) (hr : kq k X.A) (hb : Binds X.K fd ps ds) (hd : cX dvs ds) (hx : vI CX X E) (ha : PA X (e :: es) t)
    (hst : Yu (e :: es) X.env = (false, eval e X.env) :: Yu es X.env := by rfl) (hpl : (ZK pos (Yu es X.env)).any (·.1) = false := by rfl)
    (ht : eval (.Call (.Attribute o m apos) (e :: es) [] pos) X.env = (do
      let ov <- eval o X.env
      standAt apos.atName
      let (f, first) <- holding [ov] (getMethod ov m pl)
      callWith pos f first (ZK pos (Yu (e :: es) X.env)) (backToKw pos (keywordEach [] X.env))) := by rfl) :
    PE X (.Call (.Attribute o m apos) (e :: es) [] pos) (SN C m sp dvs E ta t) := by
  intro pins s σ H Q I h;refine PySem.W.methodCall_KW (pl := pl) (ib (he pins s σ H _ I h) λu s1 #[x, H1, I1, rx, a, dx, fs, ex, ea, l, q] => ?_) ht;subst ex;obtain rfl : u = Yx a := rx;refine Jq I1 ea c hm l ?_;refine oB (first := [.ref a]) (h₀ := X.base) I.ok.mod.kin hm.kp (ib (ha pos pins s1 σ H1 _ I1 q) λus s2 #[vs, H2, I2, r, q2] => #[I2.kIn, ?_]) hst hpl;exact NS (us := .ref a :: us) (vs := .ref a :: vs) F hr hb hd hx I2 (.cons rfl r) q2
structure Mk (K:FG9) (C f:Addr):Prop where
 makes:PySem.W.makesIn K C=true
 init:YH K (.ref C) "__init__"=some (some (.ref f))
 fn:PySem.W.isFn K (.ref f)=true
 kp:Zp K (.ref C)=true
theorem NR {σ:St} (M:Mk X.K C f) (F:o7 X.prog X.w X.K X.mg X.base CX k f fd ps sp) (hr:kq (k+1) X.A) (hb:Binds X.K fd ps ds) (hd:cX dvs ds)
  (hx:vI CX X E) (I:Inv X pins σ H s) (r:cX vs us)
  (h:∀x dx,H x=none->H dx=none->dx≠x->sp (.ref x :: (vs++dvs)) (upd (upd H dx (.own x)) x (.ins C dx [])) (λv H2=>v=.non/\Q (.ref x) H2) E) :
  Yy (model X.prog X.w) X.A (call (.ref C) us) (EP X pins σ Q) X.xe s:=by
 have hq:=h (s.6+1) s.heap.objs.size (I.hok.fresh (Dn _)) (I.hok.fresh (ah _)) (bR (iD _));have I2:=Inv.made (C:=C) I;have r2:cX (V.ref (s.6+1) :: (vs++dvs)) (Yx (s.6+1) :: (us++ds)):=.cons rfl (r.append hd)
 have hl:(Yx (s.6+1) :: us++ds).9=ps.9:=by
  have e:=r2.9;rw[F.len _ _ _ _ hq] at e;exact e.symm
 refine wpAny_call (OC (f:=f) I.kIn M.makes M.init (beq_iff_eq.mp M.fn) (ZD (F.run _ X.stack _ _ #[Yx (s.6+1) :: us,[]] (Yx (s.6+1) :: (us++ds)) _ _ E (hr.make C us [])
  (I2.env0.make C us []) (hb _ (Yx (s.6+1) :: us) I2.kIn hl) r2 hq) λr s' hq'=>?_))
 cases r with
 | error e=>exact hx pins σ _ _ e s' I2 hq'
 | ok fl =>
  cases fl with
  | ret u =>
   obtain v|H'|I3|rv|ev|q3:=I2.after hq';subst ev;exact #[rv,#[V.ref (s.6+1),H',I3,rfl,q3]]
  | next=>exact YL hq'
  | brk=>exact YL hq'
  | cont=>exact YL hq'
theorem Ea (M:Mk X.K C f) (F:o7 X.prog X.w X.K X.mg X.base CX k f fd ps sp) (hr:kq (k+1) X.A) (hg:Gl X x) (hm:X.mg x=some (.ref C)) (hb:Binds X.K fd ps ds) (hd:cX dvs ds) (hx:vI CX X E)
  (ha:PA X (e :: es) t) (hdb:(x == ("__debug__":Str))=false:=by decide) (he:Yu (e :: es) X.env=(false,eval e X.env) :: Yu es X.env:=by rfl) (hpl:(ZK pos (Yu es X.env)).any (·.1)=false:=by rfl) :
  PE X (.Call (.Name x p) (e :: es) [] pos) (SO C sp dvs E t):=by
 intro pins s σ H Q I h;refine YU (uG I hg hm ?_ hdb);refine oB (h₀:=X.base) I.ok.mod.kin M.kp (ib (ha pos pins s σ H _ I h) λus s1 #[vs,H1,I1,r,q]=>#[I1.kIn,?_]) he hpl;exact NR M F hr hb hd hx I1 r q
end
structure pU (N P:List Str) (sc:Scope):Prop where
 kind:sc.kind=.function
 co:sc.isCoroutine=false
 gen:sc.isGenerator=false
 nd:N.Nodup
 pre:N.take P.9=P
 par:∀x∈P,sc.names.lookup x=some .local\/sc.names.lookup x=some .cell
 nofree:∀y∈sc.names,y.2≠.free
theorem Dc {kindOf:Str->Option Y7} {x:Str}:∀{binds:List (Str×Value)} {m:Str->Option Value},(∀v,(x,v)∉binds)->bindL kindOf binds m x=m x
 | [],_,_=>rfl
 | (n,v) :: r,m,h=>by
  unfold bindL;rw[Dc λw hw=>h w (bS _ hw)]
  split
  ·have:x≠n:=by rintro rfl;exact h v cU
   simp [this]
  ·rfl
theorem Dg {kindOf:Str->Option Y7} {x:Str}:∀{binds:List (Str×Value)} {m:Str->Option Value},(∀v,(x,v)∉binds)->bindC kindOf binds m x=m x
 | [],_,_=>rfl
 | (n,v) :: r,m,h=>by
  unfold bindC;rw[Dg λw hw=>h w (bS _ hw)]
  split
  ·rfl
  ·have:x≠n:=by rintro rfl;exact h v cU
   simp [this]
theorem De {kindOf:Str->Option Y7} {x:Str} {v:Value}:∀{P:List Str} {vs:List Value} {i:Nat} {m:Str->Option Value},P.Nodup->P[i]?=some x->vs[i]?=some v->kindOf x=some .local →
  bindL kindOf (P.zip vs) m x=some v
 | [],_,_,_,_,h,_,_=>by simp at h
 | _ :: _,[],_,_,_,_,h,_=>by simp at h
 | p :: P,w :: vs,0,m,nd,h1,h2,hk=>by
  simp at h1 h2;subst h1;subst h2;show bindL kindOf ((p,w) :: P.zip vs) m p=_
  unfold bindL;rw[Dc λv hv=>(cQ.mp nd).1 (P4 hv).1,if_pos hk];simp
 | p :: P,w :: vs,i+1,m,nd,h1,h2,hk=>by
  show bindL kindOf ((p,w) :: P.zip vs) m x=_
  unfold bindL;exact De (i:=i) (cQ.mp nd).2 (by simpa using h1) (by simpa using h2) hk
theorem Di {kindOf:Str->Option Y7} {x:Str} {v:Value}:∀{P:List Str} {vs:List Value} {i:Nat} {m:Str->Option Value},P.Nodup->P[i]?=some x->vs[i]?=some v->kindOf x≠some .local →
  bindC kindOf (P.zip vs) m x=some v
 | [],_,_,_,_,h,_,_=>by simp at h
 | _ :: _,[],_,_,_,_,h,_=>by simp at h
 | p :: P,w :: vs,0,m,nd,h1,h2,hk=>by
  simp at h1 h2;subst h1;subst h2;show bindC kindOf ((p,w) :: P.zip vs) m p=_
  unfold bindC;rw[Dg λv hv=>(cQ.mp nd).1 (P4 hv).1,if_neg hk];simp
 | p :: P,w :: vs,i+1,m,nd,h1,h2,hk=>by
  show bindC kindOf ((p,w) :: P.zip vs) m x=_
  unfold bindC;exact Di (i:=i) (cQ.mp nd).2 (by simpa using h1) (by simpa using h2) hk
def start (N:List Str) (vs:List V):St:=vs.map some++Mg (N.9 - vs.9) none
def Uk:List Str->List V->St
 | [],_=>[]
 | _ :: N,[]=>none :: Uk N []
 | _ :: N,v :: vs=>some v :: Uk N vs
theorem DD:∀{N:List Str} {vs:List V},vs.9<=N.9->start N vs=Uk N vs
 | [],[],_=>rfl
 | [],_ :: _,h=>absurd h (Nat.not_succ_le_zero _)
 | _ :: N,[],_=>congrArg (none :: ·) (DD (N:=N) (vs:=[]) (a8 _))
 | _ :: N,v :: vs,h=>by
  show some v :: (vs.map some++Mg (N.9+1 - (vs.9+1)) none)=some v :: Uk N vs
  rw[Nat.add_sub_add_right,<- DD (Nat.le_of_succ_le_succ h)];rfl
def yU (CX:Lm) (P:YS) (w:Y9) (K:FG9) (mg:Str->Option Value) (base:Heap) (N:List Str) (qual:Str) (scope:Scope) (f:Addr) (cd:Value) (A:Y3) (outer:List Env) (s:Yo) (H:Hp) (E:XK):Cx where
 prog:=P
 w:=w
 K:=K
 mg:=mg
 base:=base
 A:=A.deeper (Zm qual scope s.heap.objs.size f cd)
 N:=N
 s₀:=s
 H₀:=H
 env:=Zm qual scope s.heap.objs.size f cd
 outer:=outer
 stack:=Zm qual scope s.heap.objs.size f cd :: outer
 ex:=[]
 calm:=true
 fn:=λ_=>true
 pn:=[]
 xe:=λe s'=>Yy (model P w) (A.deeper (Zm qual scope s.heap.objs.size f cd)) (leaving (Zm qual scope s.heap.objs.size f cd) e) (λ_ s''=>CX outer H s E e s'') (λe' s''=>CX outer H s E e' s'') s'
theorem HN {sc:Scope} (h:sc.names.lookup x=some .cell):∃c,(Y4 n sc.names []).lookup x=some c:=by
 have q:=zB sc.names n [] (.inl h);exact VT.mp q
theorem Mf {K:FG9} 
  (S:pU N ps scope) (hd:A.handled=none) (e0:Kb P w K mg base A outer s H) (hl:vs.9=ps.9) (r:cX vs us)
  (x:InCallC s s.heap.objs.size (bindL (Zm qual scope s.heap.objs.size f cd).kindOf (ps.zip us) λ_=>none) (Y4 (s.6+1) scope.names []) (bindC (Zm qual scope s.heap.objs.size f cd).kindOf (ps.zip us) λ_=>none) s1) :
  Inv (yU CX P w K mg base N qual scope f cd A outer s H E) [] (start N vs) H s1:=by
 have hpl:ps.9<=N.9:=by have:=congrArg Zs S.pre;rw[bf] at this;lia
 obtain h1|tk|rfl|hk:=x.done;have noA:∀b:Addr,b∉(yU CX P w K mg base N qual scope f cd A outer s H E).ex:=λb z=>absurd (show b∈([]:List Addr) from z) (by simp)
 refine #[#[e0.mod,S.kind,rfl,rfl,ah _,λy z c h1 h2=>?_,λy hy=>?_,λy c _ h=>?_,λ_=>hd,Y3.frames_deeper e0.frames,.inr #[rfl,rfl],λb z=>absurd z (noA b),e0.bs,e0.bsz,λb _ _=>noA b,λb z=>absurd z (noA b),e0.funs,e0.frf],
  rfl,e0.bare,Un.kept hk,#[_,x.toInCall.ns,λi y v h1 h2 h3=>?_],λy c h=>#[_,x.cell y c h],e0.hok.fresh (ah _),λy c h=>?_,λp hp=>absurd (show p∈([]:List (Addr×Obj)) from hp) (by simp),e0.hok.kept hk,?_]
 ·exact name_of_addr x.apart (nK h1) (nK h2)
 ·have hy:scope.names.lookup y=some .cell\/scope.names.lookup y=some .free:=hy;rcases hy with hy | hy
  ·exact HN hy
  ·exact absurd rfl (S.nofree _ (nK hy))
 ·exact dH (x.above y c (nK h))
 ·have hi:i < vs.9:=by
   unfold start at h2;by_cases hi:i < vs.9
   ·exact hi
   ·rw[bE (by simpa using hi)] at h2;rw[eX] at h2
    split at h2 <;> cases h2
  have ha:vs[i]?=some v:=by
   unfold start at h2;rw[bM (by simpa using hi),aw] at h2;cases e:vs[i]? with
   | none=>rw[e] at h2;cases h2
   | some a=>rw[e] at h2;cases h2;rfl
  obtain u|hu|rv:=r.get ha
  have hp:ps[i]?=some y:=by
   rw[<- S.pre,eB ()];exact h1
  have ndP:ps.Nodup:=by rw[<- S.pre];exact S.nd.sublist (List.take_sublist _ _)
  refine #[u,rv,?_];rcases S.par y (ai hp) with k | k
  ·exact .inl #[k,De ndP hp hu k]
  ·obtain c|e:=HN (n:=s.6+1) k;refine .inr #[.inl k,c,e,?_];have q:=x.cell y c e;rw[Di ndP hp hu (by show scope.names.lookup y≠_;rw[k];decide)] at q;exact q
 ·exact e0.hok.fresh (dH (x.above y c (nK h)))
 ·unfold start;show _=N.9
  rw[ao,af,cE]
  lia
theorem Ti {K:FG9} {dV kV doc pm cdv ct oc:Value} 
 (lk:K.lookup f=some #[oc,od,.func (Zl name qual params body scope dV kV doc pm an cdv ct),osl]) (hcd:PySem.W.codeIn K cdv qual=true) (S:pU N ps scope)
  (len:∀vs H Q E,sp vs H Q E->vs.9=ps.9)
  (hbody:∀(A:Y3) (outer:List Env) (s:Yo) (H:Hp) (vs:List V) (Q:VK) (E:XK),kq k (A.deeper (Zm qual scope s.heap.objs.size f cdv))->sp vs H Q E →
   ∃t,Dm (yU CX P w K mg base N qual scope f cdv A outer s H E) body t/\t { nx:=λ_ H'=>Q .non H',rt:=Q } (start N vs) H) :
  o7 P w K mg base CX (k+1) f (Zl name qual params body scope dV kV doc pm an cdv ct) ps sp:=by
 refine #[len,λA outer s H args us vs Q E hr e0 hb r hsp=>?_];have hl:=len _ _ _ _ hsp;have KX:K.In s.8:=e0.mod.kin.keeps λb o e=>(e0.bs b o e).1
 have lim:s.heap.NoLimit:=e0.mod.nolimit.keeps λb o e=>(e0.bs b o e).1
 have hkind:∀y∈ps.zip us,scope.names.lookup y.1=some .local\/(scope.names.lookup y.1=some .cell/\((Y4 (s.6+1) scope.names []).lookup y.1).isSome=true):=λ#[n,v] hy=>by
  rcases S.par n (P4 hy).1 with q | q
  ·exact .inl q
  ·exact .inr #[q,zB _ _ _ (.inl q)]
 refine codeAny_call_function hr.depth (KX _ _ lk) rfl S.co S.gen rfl (PySem.W.codeRec_of KX hcd) (hb _ _ _ _ ?_);refine wpAny_newFunctionEnv_cells S.kind hkind λenv he s1 x=>?_
 subst he;refine #[lim.keeps x.toInCall.keep,codeAny_func ?_];obtain t|ht|hq:=hbody A outer s H vs Q E (hr.deeper _) hsp;have I:Inv (yU CX P w K mg base N qual scope f cdv A outer s H E) [] (start N vs) H s1:=Mf S hr.hd e0 hl r x;refine YX (ht [] s1 (start N vs) H _ I hq) (λfl s' hs=>?_) λe s' hs=>hs
 have fin:∀{σ':St} {H':Hp} {v:V} {u:Value},Inv (yU CX P w K mg base N qual scope f cdv A outer s H E) [] σ' H' s'->RelV v u->Q v H'->CE outer P w H s Q u s' :=
  λ{σ' H' v u} J rv q=>#[v,H',J.os,J.bare,J.base,J.hok,rv,q]
 cases fl with
 | ret u =>
  obtain v|σ'|H'|J|rv|q:=hs;exact fin J rv q
 | next =>
  obtain σ'|H'|J|q:=hs;exact fin (v:=V.non) (u:=Zb) J rfl q
 | brk =>
  obtain _|_|_|q:=hs;exact YL q
 | cont =>
  obtain _|_|_|q:=hs;exact YL q
section
variable {X:Cx} {x:Str} {p pos:Pos} {e:Expr} {es:List Expr} {t:TA} {id T:String} {r:List V->Hp->VK->Prop}
def XW (r:List V->Hp->VK->Prop) (t:TA):TE:=λσ H Q=>t σ H λvs H1=>r vs H1 Q
theorem bF (hc:sT X (.builtin id) r) (hg:Gl X x) (hm:X.mg x=none) (hv:Zt x=some (.builtin id)) (ha:PA X (e :: es) t) (hn:x≠"__name__":=by decide) (hdb:(x == ("__debug__":Str))=false:=by decide)
  (he:Yu (e :: es) X.env=(false,eval e X.env) :: Yu es X.env:=by rfl) (hpl:(ZK pos (Yu es X.env)).any (·.1)=false:=by rfl):PE X (.Call (.Name x p) (e :: es) [] pos) (XW r t):=by
 intro pins s σ H Q I h;refine YU (mJ I hg hm hv ?_ hn hdb);exact Zq (ib (ha pos pins s σ H _ I h) λus s1 #[vs,H1,I1,r1,q1]=>hc pins s1 σ H1 vs us Q I1 r1 q1) he hpl
theorem eN (hc:sT X (.type T) r) (hg:Gl X x) (hm:X.mg x=none) (hv:Zt x=some (.type T)) (ha:PA X (e :: es) t) (hn:x≠"__name__":=by decide) (hdb:(x == ("__debug__":Str))=false:=by decide)
  (he:Yu (e :: es) X.env=(false,eval e X.env) :: Yu es X.env:=by rfl) (hpl:(ZK pos (Yu es X.env)).any (·.1)=false:=by rfl):PE X (.Call (.Name x p) (e :: es) [] pos) (XW r t):=by
 intro pins s σ H Q I h;refine YU (mJ I hg hm hv ?_ hn hdb);exact YE (ib (ha pos pins s σ H _ I h) λus s1 #[vs,H1,I1,r1,q1]=>hc pins s1 σ H1 vs us Q I1 r1 q1) he hpl
end
end L2
namespace HT
open PySem PyProof.Rows
section
open PySem.SeqAt
open PySem.AutoSeq1 (wpAny_loadPart')
open PySem.MeetsSeq PySem.MeetsSeq2 PySem.MeetsSeq3
end
section
variable {prog:YS} {w:Y9} {A:Y3} {E:Value->Yo->Prop} {s:Yo}
def D3 (n d:Nat):Option Int->Nat
 | none=>d
 | some v=>if v < 0 then (v+(n:Int)).toNat else min v.toNat n
theorem tY (n d:Nat):D3 n d none=d:=rfl
theorem DZ (n d k:Nat):D3 n d (some (k:Int))=min k n:=by
 show (if (k:Int) < 0 then ((k:Int)+(n:Int)).toNat else min (k:Int).toNat n)=min k n
 rw[if_neg (),Int.toNat_natCast]
end
end HT
namespace L2
open PySem PySem.Spec PyProof.Rows
abbrev TO:=St->Hp->(Option Int->Hp->Prop)->Prop
def PO (X:Cx) (e:Option Expr) (t:TO):Prop :=
 ∀(pins:List (Addr×Obj)) (s:Yo) (σ:St) (H:Hp) (Q:Option Int->Hp->Prop),Inv X pins σ H s->t σ H Q →
  Yy (model X.prog X.w) X.A (evalPart e X.env) (λu s'=>∃o H',Inv X pins σ H' s'/\IsPart u o/\Q o H') X.xe s
def Kj:TO:=λ_ H Q=>Q none H
def SJ (t:TE):TO:=λσ H Q=>t σ H λx H1=>∃i,x=.int i/\Q (some i) H1
theorem intsAre_of:∀{us:List Value},cX (ns.map V.int) us->IntsAre us ns:=by
 induction ns with
 | nil=>intro us r;rw[List.map_nil] at r;cases r;exact .nil
 | cons n ns ih =>
  intro us r;rw[iB] at r;cases r with
  | cons r1 r2 =>
   obtain t|e:=r1;subst e;exact .cons n t (ih r2)
section
variable {X:Cx} {e:Expr} {te:TE} {lo hi:Option Expr} {tl th:TO} {pos p2:Pos}
theorem rW:PO X none Kj:=by
 intro pins s σ H Q I h;rw[evalPart_none];exact Yp #[none,H,I,.none,h]
theorem pL (h:PE X e te):PO X (some e) (SJ te):=by
 intro pins s σ H Q I hw;rw[evalPart_some];refine ib (h pins s σ H _ I hw) λu s1 #[x,H1,I1,r1,q1]=>?_
 obtain i|rfl|q:=q1;obtain t|rfl:=r1;exact #[some i,H1,I1,.int i t,q]
def Yh (X:Cx) (r:V->Option Int->Option Int->Hp->VK->Prop):Prop :=
 ∀(pins:List (Addr×Obj)) (s:Yo) (σ:St) (H:Hp) (x:V) (v vl vu:Value) (lo hi:Option Int) (sl:Addr) (Q:VK),Inv X pins σ H s->RelV x v->s.heap.IsSliceOf sl vl vu .none->IsPart vl lo->IsPart vu hi->r x lo hi H Q →
  ∃T id,typeLookup (.type T) "__getitem__"=pure (some (.builtin id))/\s.TypeIs v T/\Yy (model X.prog X.w) X.A (getItem v (.ref sl)) (EP X pins σ Q) X.xe s
def tSl (r:V->Option Int->Option Int->Hp->VK->Prop) (te:TE) (tl th:TO):TE:=λσ H Q=>te σ H λx H1=>tl σ H1 λl H2=>th σ H2 λu H3=>r x l u H3 Q
theorem oP (hr:Yh X r) (he:PE X e te) (hl:PO X lo tl) (hu:PO X hi th):PE X (.Subscript e (.Slice lo hi none p2) pos) (tSl r te tl th):=by
 intro pins s σ H Q I h;refine Subscript_ (ib (he pins s σ H _ I h) λv s1 #[x,H1,I1,r1,q1]=>?_);refine wpAny_Slice (ib (hl pins s1 σ H1 _ I1 q1) λvl s2 #[l,H2,I2,pl,q2]=>ib (hu pins s2 σ H2 _ I2 q2) λvu s3 #[u,H3,I3,pu,q3]=>?_);rw[evalPart_none];refine Yp ?_;have I4:Inv X pins σ H3 { s3 with heap:=s3.heap.push { cls:=.type "slice",data:=.fields [vl,vu,.none].toArray } }:=I3.kept (t':=s3.toks) λb ob q=>Ym _ q
 obtain T|id|hT|ht|hg:=hr pins { s3 with heap:=s3.heap.push { cls:=.type "slice",data:=.fields [vl,vu,.none].toArray } } σ H3 x v vl vu l u s3.heap.objs.size Q I4 r1 (Heap.IsSliceOf.new ..) pl pu q3;show Yy (model X.prog X.w) X.A (subscriptTail e (.Slice lo hi none p2) v (.ref s3.6)) (EP X pins σ Q) X.xe { s3 with heap:=s3.heap.push { cls:=.type "slice",data:=.fields [vl,vu,.none].toArray } }
 exact tail_any (ops:=[.ref s3.6,v]) ht hT hg (by with_unfolding_all rfl)
def qU (xs:List V) (lo hi:Option Int):List V:=(xs.drop (HT.D3 xs.9 0 lo)).take (HT.D3 xs.9 xs.9 hi - HT.D3 xs.9 0 lo)
theorem yE (xs:List V) (lo hi:Option Int):(qU xs lo hi).9<=xs.9:=by
 unfold qU;rw[bf,eV]
 lia
end
def M4 (n:Nat) (i:Int):Option Nat:=if 0<=i then (if i < n then some i.toNat else none) else if -(n:Int)<=i then some (i+n).toNat else none
def Iz {α:Type} (xs:List α) (i:Int):Option α:=(M4 xs.9 i).bind λj=>xs[j]?
theorem KI (h:M4 n i=some j):seqIndex? i n=some j/\j < n/\-(n:Int)<=i/\i < n:=by
 unfold M4 at h;by_cases h0:0<=i
 ·rw[if_pos h0] at h;by_cases h1:i < n
  ·rw[if_pos h1] at h;have e:i.toNat=j:=bP h;exact #[by rw[seqIndex_of h0 h1,e],(),(),h1]
  ·rw[if_neg h1] at h;cases h
 ·rw[if_neg h0] at h;by_cases h1:-(n:Int)<=i
  ·rw[if_pos h1] at h;have e:(i+n).toNat=j:=bP h;exact #[by rw[seqIndex_neg () h1,e],(),h1,()]
  ·rw[if_neg h1] at h;cases h
theorem E4 {xs:List α} {v:α} (h:Iz xs i=some v):∃j,seqIndex? i xs.9=some j/\xs[j]?=some v/\j < xs.9/\-(xs.9:Int)<=i/\i < xs.9:=by
 unfold Iz at h;cases e:M4 xs.9 i with
 | none=>rw[e] at h;cases h
 | some j =>
  rw[e] at h;obtain h1|h2|h3|h4:=KI e;exact #[j,h1,h,h2,h3,h4]
theorem dC {xs:List α} {j:Nat} {v:α} (h:xs[j]?=some v):Iz xs (j:Int)=some v:=by
 have hj:j < xs.9:=(aI.mp h).1
 have e:M4 xs.9 (j:Int)=some j:=by
  unfold M4;rw[if_pos (),if_pos ()];simp
 unfold Iz;rw[e];exact h
theorem wV (xs:List α) (v:α):Iz (xs++[v]) (-1)=some v:=by
 have hl:(xs++[v]).9=xs.9+1:=by simp
 have e:M4 (xs++[v]).9 (-1)=some xs.9:=by
  unfold M4;rw[hl,if_neg (),if_pos ()];congr 1
  lia
 unfold Iz;rw[e];show (xs++[v])[xs.9]?=some v
 simp
def Sw (b:Expr):Prop:=∀o i,subscripted b false o i=operate [o,i] (getItem o i)
def Xw (X:Cx) (r:R2):Prop :=
 ∀(value slice:Expr) (pins:List (Addr×Obj)) (s:Yo) (σ:St) (H:Hp) (x y:V) (v u:Value) (Q:VK),Inv X pins σ H s->RelV x v->RelV y u->r x y H Q →
  subscripted slice false v u=operate [v,u] (getItem v u)->Yy (model X.prog X.w) X.A (subscriptTail value slice v u) (EP X pins σ Q) X.xe s
def MtR (X:Cx) (id:String) (r:V->List V->Hp->VK->Prop):Prop :=
 ∀(pins:List (Addr×Obj)) (s:Yo) (σ:St) (H:Hp) (x:V) (xs:List V) (v:Value) (us:List Value) (Q:VK),Inv X pins σ H s->RelV x v->cX xs us->r x xs H Q →
  Yy (model X.prog X.w) X.A (call (.builtin id) (v :: us)) (EP X pins σ Q) X.xe s
section
variable {X:Cx} {a b:Expr} {ta tb:TE} {pos:Pos}
theorem aO {r:R2} (hr:Xw X r) (ha:PE X a ta) (hb:PE X b tb) (hs:Sw b:=by intro _ _;rfl):PE X (.Subscript a b pos) (V9 r ta tb):=by
 intro pins s σ H Q I h;exact Subscript_ (VA ha hb I h λv u s2 x y H2 I2 rx ry q=>hr a b pins s2 σ H2 x y v u Q I2 rx ry q (hs _ _))
def UO (K:FG9):R2:=λx y H Q=>∃p xs i v,x=.ref p/\y=.int i/\br K H p xs/\Iz xs i=some v/\Q v H
def UN (K:FG9):R2:=λx y H Q=>∃p xs i v,x=.ref p/\y=.int i/\pA K H p xs/\Iz xs i=some v/\Q v H
theorem bA:Xw X (UO X.K):=by
 intro value slice pins s σ H x y v u Q I rx ry h hs;obtain p|xs|i|z|rfl|rfl|hq|he|q:=h;cases rx;obtain t|rfl:=ry;obtain its|r|pl|hz:=I.list hq;obtain j|h1|h2|h3|h4|h5:=E4 he;obtain w|ew|rw':=r.get h2;have hl:=r.9;have hn:=AK;have fin:EP X pins σ Q w s:=#[z,H,I,rw',q];by_cases h0:0<=i
 ·have hj:i.toNat=j:=by
   rw[seqIndex_of h0 h5] at h1;exact bP h1
  exact item_listR pl.isList h0 () (by rw[hj];simpa using ew) fin hs
 ·have hj:(i+(its.5.7:Int)).toNat=j:=by
   rw[seqIndex_neg () h4] at h1;rw[aM,<- hl];exact bP h1
  exact subscriptTail_builtinR (x:=w) pl.isList.typeIs slot_list_getitem.lookup
   (wpAny_getItem_list_neg (Q:=λr s'=>r=w/\EP X pins σ Q r s') pl.isList () (by rw[aM] <;> lia) () (by rw[hj];simpa using ew) #[rfl,fin]) hs
theorem bH:Xw X (UN X.K):=by
 intro value slice pins s σ H x y v u Q I rx ry h hs;obtain p|xs|i|z|rfl|rfl|hq|he|q:=h;cases rx;obtain t|rfl:=ry;obtain its|r|pl|hz:=I.tuple hq;obtain j|h1|h2|h3|h4|h5:=E4 he;obtain w|ew|rw':=r.get h2;have hl:=r.9;have hn:=AK;have fin:EP X pins σ Q w s:=#[z,H,I,rw',q]
 exact subscriptTail_builtinR (x:=w) pl.typeIs slot_tuple_getitem.lookup
  (getItem_tuple (j:=j) (Q:=λr s'=>r=w/\EP X pins σ Q r s') pl () () (by rw[aM,<- hl];exact h1) (by simpa using ew) #[rfl,fin]) hs
theorem Jl (its:List Value) (n j:Nat) (u:Value):YQ (·.setIfInBounds j u) { cls:=.type "list",data:=.seq its.toArray n }={ cls:=.type "list",data:=.seq (its.set j u).toArray n }:=by
 simp [YQ]
theorem Inv.lst {pins:List (Addr×Obj)} {σ:St} {H:Hp} {s:Yo} {p:Addr} {xs:List V} (I:Inv X pins σ H s) (h:H p=some (.lst xs)) :
  ∃(its:List Value) (n:Nat),cX xs its/\s.heap.get? p=some { cls:=.type "list",data:=.seq its.toArray n }/\xs.9<=YB:=by
 obtain z|its|n|r|e:=I.hok p _ h;exact #[its,n,r,e,z]
theorem Inv.lstUpd {σ:St} {its its':List Value} (I:Inv X pins σ H s) (h:H p=some (.lst xs))
  (ho:s.heap.get? p=some { cls:=.type "list",data:=.seq its.toArray n }) (hf:f { cls:=.type "list",data:=.seq its.toArray n }={ cls:=.type "list",data:=.seq its'.toArray n' }) (r:cX ys its') (hz:ys.9<=YB) (t:Nat) :
  Inv X pins σ (upd H p (.lst ys)) { s with heap:=s.heap.update p f,toks:=t }:=by
 have e:(s.heap.update p f).get? p=some { cls:=.type "list",data:=.seq its'.toArray n' }:=by
  rw[Heap.get?_update_self f ho (by rw[hf] <;> rfl),hf]
 refine I.write (x:=p) (e:=p) (by rw[h];trivial) (.inl rfl) (λb u hb q=>(YJ _ _ (YI hb)).trans q) #[_,e] ?_;exact #[hz,its',n',r,e]
def S0:V->V->V->Hp->(Hp->Prop)->Prop:=λo i v H Q=>∃p xs k j,o=.ref p/\i=.int k/\H p=some (.lst xs)/\M4 xs.9 k=some j/\Q (upd H p (.lst (xs.set j v)))
theorem set_list:VE X S0:=by
 intro pins s σ H o i v ov iv u Q I ro ri rv h;obtain p|xs|k|j|rfl|rfl|hp|hj|q:=h;cases ro;obtain t|rfl:=ri;obtain its|n|r|ho|hz:=I.lst hp;obtain h1|h2|h3|h4:=KI hj;have hl:=r.9;have hn:=AK
 have I':Inv X pins σ (upd H p (.lst (xs.set j v))) { s with heap:=s.heap.update p (YQ (·.setIfInBounds j u)) } :=
  I.lstUpd hp ho (Jl its n j u) (r.set rv j) (by rw[cS];exact hz) s.toks
 by_cases h0:0<=k
 ·have hk:k.toNat=j:=by
   rw[seqIndex_of h0 h4] at h1;exact bP h1
  exact PySem.W.ki_setAt ho h0 () (by rw[aM,<- hl];exact h4) (by rw[hk];exact #[_,I',q])
 ·have hk:(k+(its.5.7:Int)).toNat=j:=by
   rw[seqIndex_neg () h3] at h1;rw[aM,<- hl];exact bP h1
  exact PySem.W.ki_setBack ho () (by rw[aM,<- hl];exact h3) () (by rw[hk];exact #[_,I',q])
theorem DH (lo hi:Option Int) (n:Nat):(ZO lo hi none n).1=((HT.D3 n 0 lo:Nat):Int)/\(ZO lo hi none n).2.1=((HT.D3 n n hi:Nat):Int)/\(ZO lo hi none n).2.2=1:=by
 refine #[?_,?_,rfl]
 ·cases lo with
  | none=>simp [ZO,HT.D3]
  | some i =>
   simp only[ZO,HT.D3,Option.getD_none,show (1:Int) > 0 by decide,if_true];by_cases h:i < 0
   ·simp only[h,if_true] <;> lia
   ·simp only[h,if_false] <;> lia
 ·cases hi with
  | none=>simp [ZO,HT.D3]
  | some i =>
   simp only[ZO,HT.D3,Option.getD_none,show (1:Int) > 0 by decide,if_true];by_cases h:i < 0
   ·simp only[h,if_true] <;> lia
   ·simp only[h,if_false] <;> lia
theorem Bo (its:List Value) (lo hi:Option Int):slicePick its.toArray lo hi none=((its.drop (HT.D3 its.9 0 lo)).take (HT.D3 its.9 its.9 hi - HT.D3 its.9 0 lo)).5:=by
 obtain h1|h2|h3:=DH lo hi its.5.7;unfold slicePick;rw[h1,h2,h3];simp only[sliceRange_one,pick_run,aM] <;> rfl
def UM (K:FG9):V->Option Int->Option Int->Hp->VK->Prop:=λx lo hi H Q=>∃a xs,x=.ref a/\br K H a xs/\∀p,H p=none->Q (.ref p) (upd H p (.lst (qU xs lo hi)))
theorem rC:Yh X (UM X.K):=by
 intro pins s σ H x v vl vu lo hi sl Q I rx hs pl pu h;obtain a|xs|rfl|hx|q:=h;cases rx;obtain its|r|ht|hz:=I.list hx;have hlen:=r.9;refine #["list",_,slot_list_getitem.lookup,ht.isList.typeIs,?_];refine wpAny_getItem_list_slice ht.isList hs pl pu .none (by simp) ?_ (by rw[aM] <;> lia);rw[Bo,<- hlen];refine #[.ref s.6,_,I.laid (t':=s.toks) (o:=.lst (qU xs lo hi)) (λb ob q=>Ym _ q) (ah _) ?_,rfl,q _ (I.hok.fresh (ah _))];exact #[ag (yE xs lo hi) hz,_,0,(r.drop (HT.D3 xs.9 0 lo)).take (HT.D3 xs.9 xs.9 hi - HT.D3 xs.9 0 lo),Yw _ rfl]
def wK:V->Bool
 | .non=>true
 | .bl _=>true
 | .int _=>true
 | .str _=>true
 | _=>false
def To:V->V->Bool
 | .non,.non=>true
 | .bl a,.bl b=>a == b
 | .bl a,.int b=>(if a then 1 else 0) == b
 | .int a,.bl b=>a == (if b then 1 else 0)
 | .int a,.int b=>a == b
 | .str a,.str b=>a == b
 | _,_=>false
theorem Vq (ry:RelV y u) (rx:RelV x v) (fy:wK y=true) (fx:wK x=true):YF A s u v (To y x):=by
 cases y with
 | non =>
  cases ry;cases x with
  | non=>cases rx;exact YF.same _
  | bl b=>cases rx;exact YF.none_bool b
  | int b=>obtain t|rfl:=rx;exact YF.none_int b t
  | str b=>obtain t|rfl:=rx;exact YF.none_str b t
  | _=>exact absurd (show false=true from fx) aV
 | bl a =>
  cases ry;cases x with
  | non=>cases rx;exact YF.bool_none a
  | bl b=>cases rx;exact YF.bool_bool a b
  | int b=>obtain t|rfl:=rx;exact YF.bool_int a b t
  | str b=>obtain t|rfl:=rx;exact YF.bool_str a b t
  | _=>exact absurd (show false=true from fx) aV
 | int a =>
  obtain t'|rfl:=ry;cases x with
  | non=>cases rx;exact YF.int_none a t'
  | bl b=>cases rx;exact YF.int_bool a t' b
  | int b=>obtain t|rfl:=rx;exact YF.int_int a t' b t
  | str b=>obtain t|rfl:=rx;exact YF.int_str a t' b t
  | _=>exact absurd (show false=true from fx) aV
 | str a =>
  obtain t'|rfl:=ry;cases x with
  | non=>cases rx;exact YF.str_none a t'
  | bl b=>cases rx;exact YF.str_bool a t' b
  | int b=>obtain t|rfl:=rx;exact YF.str_int a t' b t
  | str b=>obtain t|rfl:=rx;exact YF.str_str a t' b t
  | _=>exact absurd (show false=true from fx) aV
 | _=>exact absurd (show false=true from fy) aV
def RM (x:V) (u:Value):Bool:=match u with
 | .none=>To .non x
 | .bool b=>To (.bl b) x
 | .int i _=>To (.int i) x
 | .str z _=>To (.str z) x
 | _=>false
theorem O7 (r:RelV y u) (f:wK y=true):RM x u=To y x:=by
 cases y with
 | non=>cases r;rfl
 | bl b=>cases r;rfl
 | int i=>obtain t|rfl:=r;rfl
 | str z=>obtain t|rfl:=r;rfl
 | _=>exact absurd (show false=true from f) aV
theorem E5 {x:V}:∀{xs:List V} {us:List Value},cX xs us->xs.all wK=true->us.any (RM x)=xs.any λy=>To y x
 | _,_,.nil,_=>rfl
 | y :: xs,u :: us,.cons r t,f=>by
  rw[VU,dW] at f;rw[List.any_cons,List.any_cons,O7 r f.1,E5 t f.2]
theorem AF {A:Y3} {s:Yo} {x:V} {v:Value} (rx:RelV x v) (fx:wK x=true):∀{xs:List V} {us:List Value},cX xs us->xs.all wK=true->∀u∈us,YF A s u v (RM x u)
 | _,_,.nil,_=>λu hu=>by cases hu
 | y :: xs,u :: us,.cons r t,f=>λu' hu=>by
  rw[VU,dW] at f;rcases ay.mp hu with rfl | hu
  ·rw[O7 r f.1];exact Vq r rx f.1 fx
  ·exact AF rx fx t f.2 u' hu
def XN (x:V) (xs:List V):Bool:=xs.any λy=>To y x
def rIn (K:FG9) (neg:Bool):R2:=λx y H Q=>∃p xs,y=.ref p/\(br K H p xs\/pA K H p xs)/\wK x=true/\xs.all wK=true/\Q (.bl (if neg then !XN x xs else XN x xs)) H
theorem Ec:yF X (Zh .NotIn) (rIn X.K true):=by
 intro pins s σ H x y v u Q I rx ry h;obtain p|xs|rfl|hq|fx|fs|q:=h;cases ry;rcases hq with hq | hq
 ·obtain its|r|pl|hz:=I.list hq;refine SeqAt.notIn_listAt (RM x) pl.isList (λw hw=>AF rx fx r fs w (by simpa using hw)) #[.bl _,H,I,rfl,?_];rw[show its.toArray.any (RM x)=its.any (RM x) by simp,E5 r fs];exact q
 ·obtain its|r|pl|hz:=I.tuple hq;refine SeqAt.notIn_tupleAt (RM x) pl (λw hw=>AF rx fx r fs w (by simpa using hw)) #[.bl _,H,I,rfl,?_];rw[show its.toArray.any (RM x)=its.any (RM x) by simp,E5 r fs];exact q
theorem bc:sT X (.builtin "len") (λxs H Q=>∃p ys,xs=[.ref p]/\(br X.K H p ys\/pA X.K H p ys)/\Q (.int ys.9) H):=by
 intro pins s σ H xs us Q I r h;obtain p|ys|rfl|hq|q:=h;obtain u|rfl|rx:=vals1 r;cases rx;have hn:=AK;rcases hq with hq | hq
 ·obtain its|r'|pl|hz:=I.list hq;have hlen:=r'.9;exact Calls.call_len_list pl.isList (by simp only[aM] <;> lia) #[.int ys.9,H,I.tok _,#[s.toks+1,by rw[aM,hlen]],q]
 ·obtain its|r'|pl|hz:=I.tuple hq;have hlen:=r'.9;exact len_tuple pl (by simp only[aM] <;> lia) #[.int ys.9,H,I.tok _,#[s.toks+1,by rw[aM,hlen]],q]
theorem oj:sT X (.type "list") (λxs H Q=>∃p ys,xs=[.ref p]/\(br X.K H p ys\/pA X.K H p ys)/\∀l,H l=none->Q (.ref l) (upd H l (.lst ys))):=by
 intro pins s σ H xs us Q I r h;obtain p|ys|rfl|hq|q:=h;obtain u|rfl|rx:=vals1 r;cases rx
 have fin:∀(its:List Value),cX ys its->ys.9<=YB->∀(h':Heap) (c':Nat),(∀b o',s.heap.get? b=some o'->h'.get? b=some o') →
   h'.get? s.6=some { cls:=.type "list",dict:=none,data:=.seq its.toArray c',slots:=[].toArray }->EP X pins σ Q (.ref s.6) { s with heap:=h' }:=λits r' hz h' c' kp e =>
  #[.ref s.6,_,I.laid (t':=s.toks) kp (ah _) (show iG X.prog X.w _ h' _ (.lst ys) from #[hz,its,c',r',e]),rfl,q _ (I.hok.fresh (ah _))]
 rcases hq with hq | hq
 ·obtain its|r'|pl|hz:=I.list hq;have hlen:=r'.9;obtain o|ho|hc|n|hd:=pl.isList;exact call_list_seq p (.inl rfl) ho hc hd (λh' c' kp e=>fin its r' hz h' c' kp e) (by simp only[aM] <;> lia)
 ·obtain its|r'|pl|hz:=I.tuple hq;have hlen:=r'.9;obtain o|ho|hc|n|hd:=pl;exact call_list_seq p (.inr rfl) ho hc hd (λh' c' kp e=>fin its r' hz h' c' kp e) (by simp only[aM] <;> lia)
def XT (K:FG9) (T:String) (x:V) (H:Hp):Prop:=match x with
 | .str _=>T="str"
 | .int _=>T="int"
 | .ref p=>(T="list"/\∃xs,br K H p xs)\/(T="tuple"/\∃o,K.lookup p=some o/\o.cls=.type "tuple"/\o.dict=none) \/
   (T="dict"/\((∃kvs,H p=some (.dK kvs))\/∃kvs,H p=some (.dT kvs)))\/(T="set"/\∃S n,H p=some (.set S n))
 | _=>False
theorem T6 {σ:St} (I:Inv X pins σ H s) (r:RelV x v) (ty:XT X.K T x H) :
  s.TypeIs v T/\∀a,v=.ref a->∃ob,s.heap.get? a=some ob/\ob.dict=none:=by
 cases x with
 | str z =>
  obtain t|rfl:=r;cases (show T="str" from ty);exact #[typeIs_str s z t,λ_ e=>nomatch e]
 | int i =>
  obtain t|rfl:=r;cases (show T="int" from ty);exact #[typeIs_int s i t,λ_ e=>nomatch e]
 | ref p =>
  cases r;rcases ty with ⟨rfl,xs,hq⟩ | ⟨rfl,o,hk,hc,hd⟩ | ⟨rfl,hk⟩ | ⟨rfl,S,n,hk⟩
  ·obtain its|_|pl|_:=I.list hq;refine #[pl.isList.typeIs,λa e=>?_];cases e;obtain o|n|e|c|hd|_:=pl;exact #[o,e,hd]
  ·refine #[#[o,I.kIn p o hk,hc],λa e=>?_];cases e;exact #[o,I.kIn _ o hk,hd]
  ·have z:∃o,s.heap.get? p=some o/\o.ExactDict:=by
    rcases hk with ⟨kvs,hk⟩ | ⟨kvs,hk⟩
    ·obtain _|_|_|_|o|_|_|e|ex|_:=I.hok p _ hk;exact #[o,e,ex]
    ·obtain _|_|_|_|o|_|_|e|ex|_:=I.hok p _ hk;exact #[o,e,ex]
   obtain o|e|ex:=z;refine #[#[o,e,ex.1],λa e2=>?_];cases e2;exact #[o,e,ex.2.1]
  ·obtain o|_|_|_|e|ex|_:=I.hok p _ hk;refine #[#[o,e,ex.1],λa e2=>?_];cases e2;exact #[o,e,ex.2.1]
 | _=>exact YL ty
def tBM (K:FG9) (T:String) (r:V->List V->Hp->VK->Prop) (to:TE) (t:TA):TE:=λσ H Q=>to σ H λx H1=>XT K T x H1/\t σ H1 λxs H2=>r x xs H2 Q
variable {o e:Expr} {es:List Expr} {to:TE} {t:TA} {name:Str} {apos cpos:Pos} {T id:String} {r:V->List V->Hp->VK->Prop}
theorem uR (pa:PlainAttrs T) (slot:Slot T name id) (hty:typeOf (.builtin id)=pure (.type "method_descriptor")) (hm:MtR X id r) (ho:PE X o to) (ha:PA X (e :: es) t)
  (hbase:attributeBase o name X.env (eval o X.env)=eval o X.env:=by rfl)
  (hfew:((ZK cpos (Yu (e :: es) X.env)).all (λx=>!x.1) && (backToKw cpos (keywordEach [] X.env)).all (λx=>x.1.isSome)
   && decide ((e :: es).9+([]:List Keyword).9+(if ([]:List Keyword).isEmpty then 0 else 1) < 30))=true:=by rfl)
  (hline:(apos.endLine == cpos.line)=true:=by rfl) (hs:Yu (e :: es) X.env=(false,eval e X.env) :: Yu es X.env:=by rfl) (hplain:(ZK cpos (Yu es X.env)).any (·.1)=false:=by rfl) :
  PE X (.Call (.Attribute o name apos) (e :: es) [] cpos) (tBM X.K T r to t):=by
 intro pins s σ H Q I h;refine wpAny_Call_method_late hbase hfew hline rfl (ib (ho pins s σ H _ I h) λv s1 #[x,H1,I1,r1,ty,q1]=>?_);obtain h1|h2:=T6 I1 r1 ty;refine #[T,id,pa,slot,hty,h1,h2,?_];have hA:=ha cpos pins s1 σ H1 _ I1 q1;rw[hs] at hA ⊢;refine Calls.callWith_builtin (by show (false || (ZK cpos (Yu es X.env)).any (·.1))=false;rw[hplain] <;> rfl) (Calls.evalArgs_plain ?_);exact ib hA λus s2 ⟨vs,H2,I2,r2,q2⟩=>hm pins s2 σ H2 x vs v us Q I2 r1 r2 q2
end
def MtM (X:Cx) (id:String) (r:V->List V->Hp->VK->Prop):Prop :=
 ∀(pins:List (Addr×Obj)) (s:Yo) (σ:St) (H:Hp) (x:V) (xs:List V) (v:Value) (us:List Value) (Q:VK),Inv X pins σ H s->RelV x v->cX xs us->r x xs H Q →
  Yy (model X.prog X.w) X.A (call (.builtin id) (v :: us)) (EP X pins σ Q) X.xe s
theorem cX.one:∀{x:V} {us:List Value},cX [x] us->∃u,us=[u]/\RelV x u
 | _,_,.cons r .nil=>#[_,rfl,r]
theorem cX.reverse (h:cX xs us):cX xs.reverse us.reverse:=by
 induction h with
 | nil=>exact .nil
 | cons r t ih=>rw[xg,xg];exact cX.append ih (.cons r .nil)
theorem cX.rep {xs:List V} {us:List Value} (h:cX xs us):∀k:Nat,cX (Mg k xs).flatten (Mg k us).flatten
 | 0=>.nil
 | k+1=>by
  rw[nN,nN,lV,lV];exact cX.append h (cX.rep h k)
theorem foldl_rep (its:List Value):∀(k:Nat) (acc:List Value),
  List.foldl (λx1 x2=>x1++x2) acc.toArray (Mg k its.5)=(acc++(Mg k its).flatten).5
 | 0,acc=>by simp
 | k+1,acc=>by
  have e:acc.5++its.5=(acc++its).5:=by simp
  have e2:(acc++its)++(Mg k its).flatten=acc++(Mg (k+1) its).flatten:=by
   rw[nN,lV,cy]
  rw[<- e2,<- foldl_rep its k (acc++its),<- e,nN,List.foldl_cons]
section
variable {σ:St}
theorem Inv.lset {its its':List Value} (I:Inv X pins σ H s) (hH:H l=some (.lst xs))
  (e:s.heap.get? l=some { cls:=.type "list",data:=.seq its.toArray n }) (hf:f its.5=its'.5) (hv:cX ys its') (hz:ys.9<=YB) :
  Inv X pins σ (upd H l (.lst ys)) { s with heap:=s.heap.update l (YQ f),toks:=t' }:=by
 have q:=nk e f;rw[hf] at q;refine I.write (x:=l) (e:=l) (by rw[hH];exact trivial) (.inl rfl) (λb' u hb hu=>(YJ s.heap (YQ f) (YI hb)).trans hu) #[_,q] ?_;exact #[hz,its',_,hv,q]
theorem Inv.lnew (I:Inv X pins σ H s) (hv:cX ys its) (hz:ys.9<=YB) :
  Inv X pins σ (upd H s.heap.objs.size (.lst ys)) { s with heap:=s.heap.push { cls:=.type "list",data:=.seq its.5 },toks:=t' } :=
 I.laid (λ_ _ q=>Ym _ q) (ah _) #[hz,its,0,hv,Yw _ rfl]
theorem Inv.fresh (I:Inv X pins σ H s):H s.6=none:=I.hok.fresh (ah _)
theorem Inv.lstM (I:Inv X pins σ H s) (hH:H l=some (.lst xs)):xs.9<=YB/\∃(its:List Value) (n:Nat),cX xs its/\xs.9=its.9/\s.heap.get? l=some { cls:=.type "list",data:=.seq its.toArray n }:=by
 obtain z|its|n|r|e:=I.hok l _ hH;exact #[z,its,n,r,r.9,e]
theorem Ow (h:n<=YB):Y5.List.listTooLong n=false:=by
 unfold Y5.List.listTooLong;exact decide_eq_false ()
end
section
variable {X:Cx}
def Ku:V->List V->Hp->VK->Prop:=λx vs H Q=>∃l xs y,x=.ref l/\vs=[y]/\H l=some (.lst xs)/\xs.9 < YB/\Q .non (upd H l (.lst (xs++[y])))
theorem iV:MtM X "list.append" Ku:=by
 intro pins s σ H x vs v us Q I rx rv h;obtain l|xs|y|rfl|rfl|hH|hz|q:=h;cases rx;obtain u|rfl|ru:=rv.one;obtain z|its|n|r|hl|e:=I.lstM hH;refine call_meets F.slot_list_append #[_,e,rfl] F.entry_list_append (F.args_list_append_2 _ _) (PySem.list_append l its.toArray n u (by rw[aM];lia)) #[e,?_];refine #[.non,_,I.lset (its':=its++[u]) hH e (by simp) (r.append (.cons ru .nil)) ?_,rfl,q];rw[ao,aQ]
 lia
def Wy:R2:=λx y H Q=>∃l b xs zs,x=.ref l/\y=.ref b/\H l=some (.lst xs)/\H b=some (.lst zs)/\xs.9+zs.9<=YB/\∀p,H p=none->Q (.ref p) (upd H p (.lst (xs++zs)))
theorem qH:yF X (binaryOp .Add) Wy:=by
 intro pins s σ H x y v u Q I rx ry h;obtain l|b|xs|zs|rfl|rfl|hH|hB|hz|q:=h;cases rx;cases ry;obtain z|its|n|r|hl|e:=I.lstM hH;obtain z2|its2|n2|r2|hl2|e2:=I.lstM hB;refine PySem.P.add_list e e2 ?_ (by rw[aM,aM];lia);have ea:its.5++its2.5=(its++its2).5:=by simp
 rw[ea];exact #[.ref _,_,I.lnew (t':=s.toks) (r.append r2) (by rw[ao];lia),rfl,q _ I.fresh]
def Wu:R2:=λx y H Q=>∃l k xs,x=.ref l/\y=.int k/\H l=some (.lst xs)/\-(2^63)<=k/\k < 2^63/\xs.9*k.toNat<=YB /\
 ∀p,H p=none->Q (.ref p) (upd H p (.lst (Mg k.toNat xs).flatten))
theorem len_rep {α:Type} (xs:List α) (k:Nat):(Mg k xs).flatten.length=k*xs.9:=by
 induction k with
 | zero=>simp
 | succ k ih=>rw[nN,lV,ao,ih,dG,ij]
theorem Ol:yF X (binaryOp .Mult) Wu:=by
 intro pins s σ H x y v u Q I rx ry h;obtain l|k|xs|rfl|rfl|hH|h1|h2|hz|q:=h;cases rx;obtain t|rfl:=ry;obtain z|its|n|r|hl|e:=I.lstM hH;have hlen:its.5.7*k.toNat<=YB:=by rw[aM,<- hl];exact hz
 have hcap:¬its.5.7*k.toNat > (2^63 - 1) / 8:=by
  have:(YB:Nat)<=(2^63 - 1) / 8:=()
  lia
 have hfit:¬(!Y5.List.listFitsIndex k)=true:=by
  rw[fitsIndex_both h1 h2];exact aV
 have hlong:¬Y5.List.listTooLong (its.5.7*k.toNat)=true:=by
  rw[Ow hlen];exact aV
 have hnew:List.foldl (λx1 x2=>x1++x2) [].toArray (Mg (if its.toArray.isEmpty=true then 0 else k.toNat) its.5)=(Mg k.toNat its).flatten.toArray:=by
  have f0:∀m:Nat,List.foldl (λx1 x2=>x1++x2) [].toArray (Mg m its.5)=(Mg m its).flatten.toArray:=λm=>by
   have:=foldl_rep its m [];rw[dg] at this;exact this
  rw[f0];cases its with
  | nil=>simp
  | cons a r'=>rw[if_neg (by simp)]
 refine wpAny_binaryOp_repeat_ref (T:="list") (U:="int") () #[_,e,rfl] (λs'=>typeIs_int s' k t) noFill_list_mul F.fills_int_mul F.slot_int_rmul repeat_list F.slot_int_index.lookup
  (call_meets F.slot_int_rmul (typeIs_int s k t) F.entry_int_rmul (F.args_int_rmul_2 _ _) (int___rmul___int_list k t l its.toArray n)
   #[e,rfl,#[_,e,rfl],call_meets F.slot_list_mul #[_,e,rfl] F.entry_list_mul (F.args_list_mul_2 _ _) (AutoListH.list___mul___list_int_3 l its.toArray n k t hfit hcap hlong) #[e,?_]])
 rw[hnew];exact #[.ref _,_,I.lnew (t':=s.toks) (r.rep k.toNat) (by rw[len_rep,bu];exact hz),rfl,q _ I.fresh]
end
end L2
namespace Att
open PySem PySem.W PySem.Calls PyProof.Rows
theorem yQ:∀(ns:List Int) (vs:List Value),WellAll P h vs (ns.map WData.int)->IntsAre vs ns:=by
 intro ns
 induction ns with
 | nil =>
  intro vs w;rw[List.map_nil] at w;cases w;exact .nil
 | cons n ns ih =>
  intro vs w;rw[iB] at w;cases w with
  | cons a b =>
   cases a;exact .cons _ _ (ih _ b)
theorem LC {l:OpenLaw} (hn:l.most=some n) 
  (hpre:l.row.toRowW.claim.pre args=true) (hwl:WellAll P h vals args) :
  ∃a vs ns,vals=[Yx a]/\args=[WData.list (ns.map WData.int)]/\h.get? a=some { cls:=.type "list",data:=.seq vs.5 }/\IntsAre vs ns/\ns.9<=n:=by
 have hsh:WShape.hasAll [] args [.list .int]=true:=(pre_splitW hpre).1;have hc:l.pre.holds [] { args:=args }=true:=(pre_splitW hpre).2;obtain d|r|rfl|h1|h2:=hasAllW_cons hsh;obtain rfl:=hasAllW_nil h2;obtain xs|rfl|h3:=hasW_list h1;obtain ns|rfl:=items_int h3
 have hlen:ns.9<=n:=by
  unfold OpenLaw.pre at hc
  have h4:(WTm.not (.lt (.lit (.int (n:Int))) (.len (.arg 0)))).holds [] { args:=[.list (ns.map .int)] }=true:=by
   have h4:=(holds_andW hc).1;rw[hn] at h4;exact h4
  have h5:=condW_of h4 (w_not (w_lt w_lit (w_len_list (w_arg rfl))));rw[af] at h5;refine M7 λq=>?_
  have q':(n:Int) < ((ns.9:Nat):Int):=()
  first
   | (rw[decide_eq_true q'] at h5;exact absurd h5 ())
   | (simp at h5;lia)
 cases hwl with
 | cons w1 w2 =>
  cases w2;cases w1 with
  | list ho hall=>exact #[_,_,ns,rfl,rfl,ho,yQ ns _ hall,hlen]
theorem LN (l:OpenLaw) (args:List WData):l.row.toRowW.claim.post args (.bool true) args=true :=
 postW_of (r:=l.row.toRowW) (X:=(true == true))
  (show WShape.has [] (.bool true) .bool=true by first | rfl | decide | simp [WShape.has,WShape.arms,WShape.armsAll])
  (show (WTm.eq .res (.lit (.bool true))).value [] { args:=args,res:=some (.bool true),after:=args }=some (.bool (true == true)) from w_eq_bool (w_res rfl) w_lit) rfl
theorem HS {l:OpenLaw} 
  (hn:l.most=some n) (hdf:d.params.defaults=[])
  (call:∀(w:Y9) (s₀ s₁:Yo) (mg mb:Str->Option Value) (fa:Addr) (o:Obj) (pm cd doc:Value) (a:Addr) (vs:List Value) (ns:List Int),
   Ground q loose [] XP w s₀ mg mb s₁.8->YP w s₁.8 →
   s₁.heap.get? fa=some o->o.data=.func (docDef d.name d.params d.body d.scope pm cd doc)->s₁.heap.CodeRec cd d.name->mg d.name=some (.ref fa) →
   s₁.heap.get? a=some { cls:=.type "list",data:=.seq vs.5 }->IntsAre vs ns->ns.9<=n->s₁.gens=[].toArray →
   Zy (model l.prog w) callerA (.call (.ref fa) #[[.ref a],[]]) (λr s'=>r=.ok (.ret (.bool true))/\OldK s₁.heap s'.8/\s'.os=s₁.os/\AllBare s'.gens) s₁) :
  WalkO q loose XP YP l.row.toRowW d [] (λf vs=>PySem.call f vs):=by
 intro w s₀ s₁ mg mb G Y fa o pm cd doc dV kV ho hd hcd hD hmg hg args vals as hpre hlay hrd hwl hlo;obtain rfl:dV=.none:=Dflts.none hD hdf;obtain rfl:kV=.none:=Dflts.noKw hD;obtain a|vs|ns|rfl|rfl|hobj|hints|hlen:=LC hn hpre hwl;refine enter_call (ZD (call w s₀ s₁ mg mb fa o pm cd doc a vs ns G Y ho (fd_plain hd) hcd hmg hobj hints hlen hg) λr s' hq=>?_);obtain rfl|h2|h3|h4:=hq;exact #[.inl #[.bool true,.bool true,[],rfl,λ_=>rfl,.bool true,LN l _,λ_=>#[List.Pairwise.nil,λ_ hm=>(nomatch hm)]],h2,h3,h4]
end Att
namespace L2
open PySem PySem.Spec PyProof.Rows
theorem Cp:∀{vs:List Value} {ns:List Int},IntsAre vs ns->cX (ns.map V.int) vs
 | _,_,.nil=>.nil
 | _,_,.cons n t h=>.cons #[t,rfl] (Cp h)
def VF (H:Hp):Prop:=∀b,H b=none\/∃o xs,H b=some (.frz o (.lst xs))
theorem OL {K:FG9} 
  (KX:K.In s₁.8) (hns:s₁.heap.Ns YA mg) (hb:s₁.heap.Ns builtinsNs mb) (hbb:∀x:Str,x≠"__name__"->mb x=Zt x) (hlim:s₁.heap.NoLimit) (hsr:s₁.heap.NoSeer) (hg:s₁.gens=[].toArray)
  (ha:s₁.heap.get? a=some { cls:=.type "list",data:=.seq vs.5 }) (hi:IntsAre vs ns) (hl:ns.9<=YB) (hr:kq k callerA)
  (F:∀base:Heap,K.In base->base.Ns YA mg->o7 P w K mg base CX k fa fd [x] sp) (hbind:∀(s:Yo) (u:Value),BindsTo s fd #[[u],[]] [(x,u)])
  (hsp:∀H:Hp,VF H->br K H a (ns.map V.int)->sp [.ref a] H (λv _=>v=.bl true) λ_ _ _=>False)
  (hCX:∀H e s',CX [] H s₁ (λ_ _ _=>False) e s'->False) :
  Zy (model P w) callerA (.call (.ref fa) #[[.ref a],[]]) (λr s'=>r=.ok (.ret (.bool true))/\OldK s₁.heap s'.8/\s'.os=s₁.os/\AllBare s'.gens) s₁:=by
 have rv:=Cp hi;have lenV:=hi.length
 have core:∀H:Hp,VF H->br K H a (ns.map V.int)->xh P w H s₁.8->(∀b,H b≠none->b=a)->(H a≠none->K.lookup a=none) →
   Zy (model P w) callerA (.call (.ref fa) #[[.ref a],[]]) (λr s'=>r=.ok (.ret (.bool true))/\OldK s₁.heap s'.8/\s'.os=s₁.os/\AllBare s'.gens) s₁:=by
  intro H hO hS hok hA hK;have base_of:∀{b:Addr} {o:Obj},s₁.heap.get? b=some o->H b=none->(Ew s₁.heap H).get? b=some o:=λe n=>OT e n
  have noA:∀{b:Addr} {o:Obj} {es:Array DictEntry} {ep:Nat},s₁.heap.get? b=some o->o.data=.dict es ep->H b=none:=λ{b o es ep} e d=>by
   cases q:H b with
   | none=>rfl
   | some u =>
    have e':b=a:=hA b (by rw[q];simp);subst e';rw[ha] at e;cases e;have d':Data.seq vs.toArray _=Data.dict es ep:=d;cases d'
  have nsK:∀{b:Addr} {m:Str->Option Value},s₁.heap.Ns b m->(Ew s₁.heap H).Ns b m:=λ{b m} #[o,es,ep,e,d,r]=>#[o,es,ep,base_of e (noA e d),d,r]
  have hKb:K.In (Ew s₁.heap H):=λb o e=>base_of (KX b o e) (by
   cases q:H b with
   | none=>rfl
   | some u =>
    have e':b=a:=hA b (by rw[q];simp);subst e';rw[hK (by rw[q];simp)] at e;cases e)
  have hM:Mod K mg (Ew s₁.heap H):=#[hKb,nsK hns,#[mb,nsK hb,hbb],let ⟨mc,h1,h2⟩:=hlim;#[mc,nsK h1,h2],#[let ⟨mc,h1,h2⟩:=hsr.statics;#[mc,nsK h1,h2],let ⟨mm,h1,h2⟩:=hsr.mods;#[mm,nsK h1,h2],#[mb,nsK hb,hbb],let ⟨mg',bm,ob,h1,h2,h3,h4,h5⟩:=hsr.main;#[mg',bm,ob,nsK h1,h2,base_of h3 (by
   cases q:H bm with
   | none=>rfl
   | some u =>
    have e':bm=a:=hA bm (by rw[q];simp);subst e';rw[ha] at h3;cases h3;injection h4 with q4
    exact absurd q4 ()),h4,h5]]]
  have e0:Kb P w K mg (Ew s₁.heap H) callerA [] s₁ H:=#[rfl,hM,λb o e=>Rf e,Lp (Mi _ _),trivial,λb hb=>absurd (show b∈([]:List Addr) from hb) (by simp),hok,.of_eq hg];refine ZD ((F _ hKb (nsK hns)).run callerA [] s₁ H #[[.ref a],[]] [.ref a] [.ref a] _ _ hr e0 (hbind s₁ (.ref a)) (.cons rfl .nil) (hsp H hO hS)) λr s' h=>?_
  cases r with
  | error e=>exact (hCX H e s' h).elim
  | ok fl =>
   cases fl with
   | next=>exact YL h
   | brk=>exact YL h
   | cont=>exact YL h
   | ret u =>
    obtain v|H'|os|bare|un|hok'|r'|q:=h;have q':v=.bl true:=q;subst q';obtain rfl:u=Value.bool true:=r';refine #[rfl,OldK.of_keep λb o e=>?_,os,bare];cases q:H b with
    | none=>exact un.keep b o e q (by intro z;exact absurd (show b∈([]:List Addr) from z) (by simp)) (by simp)
    | some u =>
     rcases hO b with z | ⟨ob,xs,z⟩
     ·rw[q] at z;cases z
     ·have z2:=un.frzs b ob _ z;obtain e1|_:=hok b _ z;obtain e2|_:=hok' b _ z2;rw[e] at e1;cases e1;exact e2
 cases hk:K.lookup a with
 | some o =>
  have e:=KX a o hk;rw[ha] at e;cases e;refine core (λ_=>none) (λ_=>.inl rfl) (.inr #[_,vs.5,_,hk,rfl,rfl,rfl,by rw[aM,lenV];exact hl,by simpa using rv]) (λb u z=>by have z':(none:Option HO)=some u:=z;cases z') (λb z=>absurd rfl z) λz=>absurd rfl z
 | none =>
  refine core (λb=>if b=a then some (.frz { cls:=.type "list",data:=.seq vs.5 } (.lst (ns.map V.int))) else none) (λb=>?_) (.inl (.inr #[{ cls:=.type "list",data:=.seq vs.5 },if_pos rfl])) (λb u z=>?_) (λb z=>?_) λ_=>hk
  ·by_cases hb:b=a
   ·exact .inr #[_,_,if_pos hb]
   ·exact .inl (if_neg hb)
  ·by_cases hb:b=a
   ·have z':=(if_pos hb).symm.trans z;cases z';subst hb;exact #[ha,by rw[af];exact hl,vs,_,rv,ha]
   ·have z':=(if_neg hb).symm.trans z;cases z'
  ·by_cases hb:b=a
   ·exact hb
   ·exact absurd (if_neg hb) z
theorem Qc {l:PySem.W.OpenLaw} {K:Params->FG9} {CX:Y9->Lm} {sp:Y9->Sp} 
  (hn:l.most=some n) (hn2:n<=YB) (hdf:d.params.defaults=[]) (hr:kq k callerA) (hi:importsNone q=true)
  (hY:∀(w:Y9) (h:Heap),YP w h->(K w.params).In h)
  (F:∀(w:Y9) (mg:Str->Option Value) (fa:Addr) (h:Heap),(K w.params).In h->h.Ns YA mg->mg d.name=some (.ref fa) →
   ∃fd:Yn,(∀(s:Yo) (u:Value),BindsTo s fd #[[u],[]] [(x,u)]) /\
    ∀base:Heap,(K w.params).In base->base.Ns YA mg->o7 l.prog w (K w.params) mg base (CX w) k fa fd [x] (sp w))
  (hsp:∀(w:Y9) (H:Hp) (a:Addr) (ns:List Int),ns.9<=n->VF H->br (K w.params) H a (ns.map V.int)->sp w [.ref a] H (λv _=>v=.bl true) λ_ _ _=>False)
  (hCX:∀(w:Y9) (H:Hp) (s:Yo) (e:Value) (s':Yo),CX w [] H s (λ_ _ _=>False) e s'->False) :
  PySem.W.WalkO q loose XP YP l.row.toRowW d [] (λf vs=>PySem.call f vs):=by
 refine Att.HS hn hdf λw s₀ s₁ mg mb fa o pm cd doc a vs ns G Y ho hd hcd hmg hobj hints hlen hg=>?_
 have KX:=hY w _ Y;obtain fd|hb|hF:=F w mg fa _ KX G.T.g hmg;exact OL KX G.T.g G.T.b G.T.builtins G.T.nolimit (G.T.seer hi) hg hobj hints (ag hlen hn2) hr hF hb (λH hO hS=>hsp w H a ns hlen hO hS) λH e s'=>hCX w H s₁ e s'
end L2

namespace L2
open PySem PySem.Spec PyProof.Rows
def inClass (s:Stmt) (j:Nat):Stmt:=match s with
 | .ClassDef _ _ _ body _ _ _ _ _ _ _=>body.getD j (.Pass #[0,0,0,0])
 | _=>.Pass #[0,0,0,0]
def m8 (s:Stmt):Arguments:=match s with
 | .FunctionDef _ a _ _ _ _ _ _ _ _=>a
 | _=>{ posonlyargs:=[],args:=[],vararg:=none,kwonlyargs:=[],kw_defaults:=[],kwarg:=none,defaults:=[] }
def iL (s:Stmt):List Stmt:=match s with
 | .FunctionDef _ _ b _ _ _ _ _ _ _=>b
 | _=>[]
def dz (s:Stmt):Scope:=match s with
 | .FunctionDef _ _ _ _ _ _ sc _ _ _=>sc
 | _=>{ kind:=.function,names:=[],isGenerator:=false,isCoroutine:=false }
abbrev Kc:Lm:=λ_ _ _ _ _ _=>False
abbrev E0:XK:=λ_ _ _=>False
theorem Gn:vI Kc X E0:=λ_ _ _ _ _ _ _ h=>h.elim
structure Iq (K:FG9) (x qual:Str) (st:Stmt) (f:Addr) (fd:Yn):Prop where
 ex:∃(oc:Value) (od:Option Addr) (kV doc pm:Value) (an:Option Addr) (cdv ct:Value) (osl:Array (Option Value)),
  fd=Zl x qual (m8 st) (iL st) (dz st) .none kV doc pm an cdv ct/\K.lookup f=some #[oc,od,.func fd,osl]/\PySem.W.codeIn K cdv qual=true
 kp:Zp K (.ref f)=true
section
variable {P:YS} {w:Y9} {K:FG9} {mg:Str->Option Value} {base:Heap}
theorem Iq.ok {st:Stmt} (F:Iq K x qual st f fd) (S:pU N ps (dz st)) (len:∀vs H Q E,sp vs H Q E->vs.9=ps.9)
  (hbody:∀(cdv:Value) (A:Y3) (outer:List Env) (s:Yo) (H:Hp) (vs:List V) (Q:VK) (E:XK),kq k (A.deeper (Zm qual (dz st) s.heap.objs.size f cdv))->sp vs H Q E →
   ∃t,Dm (yU Kc P w K mg base N qual (dz st) f cdv A outer s H E).nox (iL st) t/\t { nx:=λ_ H'=>Q .non H',rt:=Q } (start N vs) H):o7 P w K mg base Kc (k+1) f fd ps sp:=by
 obtain oc|od|kV|doc|pm|an|cdv|ct|osl|rfl|lk|hcd:=F.ex;refine Ti lk hcd S len λA outer s H vs Q E hr hsp=>?_
 obtain t|h|q:=hbody cdv A outer s H vs Q E hr hsp;exact #[t,h.nox,q]
theorem ND {N ps:List Str} {vs:List V} (h:N.take ps.9=ps) (l:vs.9=ps.9):vs.9<=N.9:=by
 have:=congrArg Zs h;rw[bf] at this
 lia
theorem Iq.k {x qual:Str} {st:Stmt} {f:Addr} {fd:Yn} {N ps:List Str} {k:Nat} {sp:Sp} (F:Iq K x qual st f fd) (S:pU N ps (dz st))
  (hbody:∀(cdv:Value) (A:Y3) (outer:List Env) (s:Yo) (H:Hp) (vs:List V) (Q:VK) (E:XK) (hr:kq k (A.deeper (Zm qual (dz st) s.heap.objs.size f cdv))) (h:sp vs H Q E),
   ∃t,Dm (yU Kc P w K mg base N qual (dz st) f cdv A outer s H E).nox (iL st) t/\t { nx:=λ_ H'=>Q .non H',rt:=Q } (Uk N vs) H) (len:∀vs H Q E,sp vs H Q E->vs.9=ps.9:=by walk_at "n"):o7 P w K mg base Kc (k+1) f fd ps sp :=
 F.ok S len λcdv A outer s H vs Q E hr h=>by
  rw[DD (ND S.pre (len _ _ _ _ h))];exact hbody cdv A outer s H vs Q E hr h
theorem Iq.binds {st:Stmt} (F:Iq K x qual st f fd)
  (h:∀(kV doc pm:Value) (an:Option Addr) (cdv ct:Value) (us:List Value),us.9=ps.9->bindArgs (Zl x qual (m8 st) (iL st) (dz st) .none kV doc pm an cdv ct) #[us,[]]=pure (ps.zip us)):Binds K fd ps []:=by
 obtain oc|od|kV|doc|pm|an|cdv|ct|osl|rfl|lk|hcd:=F.ex;exact .all (h kV doc pm an cdv ct)
theorem Ey {st:Stmt} {kV doc pm cdv ct:Value} (l:K.lookup f=some #[oc,od,.func (Zl x qual (m8 st) (iL st) (dz st) .none kV doc pm an cdv ct),osl])
  (c:PySem.W.codeIn K cdv qual=true) (k:Zp K (.ref f)=true):Iq K x qual st f (Zl x qual (m8 st) (iL st) (dz st) .none kV doc pm an cdv ct):=#[#[oc,od,kV,doc,pm,an,cdv,ct,osl,rfl,l,c],k]
end
structure Df (K:FG9) (mg:Str->Option Value) (x:Str) (st:Stmt) (ps:List Str) (f:Addr) (fd:Yn):Prop where
 m:mg x=some (.ref f)
 b:Binds K fd ps []
 F:Iq K x x st f fd
structure Dh (K:FG9) (x:Str) (st:Stmt) (f:Addr) (fd:Yn):Prop where
 a:PySem.W.nsIn K YA x=some (some (.ref f))
 F:Iq K x x st f fd
theorem Xp {K:FG9} {st:Stmt} {kV doc pm cdv ct:Value} (a:PySem.W.nsIn K YA x=some (some (.ref f))) (l:K.lookup f=some #[oc,od,.func (Zl x x (m8 st) (iL st) (dz st) .none kV doc pm an cdv ct),osl]) (c:PySem.W.codeIn K cdv x=true) (k:Zp K (.ref f)=true):Dh K x st f (Zl x x (m8 st) (iL st) (dz st) .none kV doc pm an cdv ct):=#[a,Ey l c k]
theorem Dh.D {K:FG9} {x:Str} {st:Stmt} {f:Addr} {fd:Yn} {ps:List Str} {mg:Str->Option Value} {h:Heap} (d:Dh K x st f fd) (X:K.In h) (G:h.Ns YA mg) (hb:∀(kV doc pm:Value) (an:Option Addr) (cdv ct:Value) (us:List Value),us.9=ps.9->bindArgs (Zl x x (m8 st) (iL st) (dz st) .none kV doc pm an cdv ct) #[us,[]]=pure (ps.zip us):=by walk_at "b"):Df K mg x st ps f fd:=#[PySem.W.mg_of X G d.a,d.F.binds hb,d.F]
abbrev Df.o {K:FG9} {mg:Str->Option Value} {x:Str} {st:Stmt} {ps:List Str} {f:Addr} {fd:Yn} (_:Df K mg x st ps f fd) (P:YS) (w:Y9) (base:Heap) (k:Nat) (sp:Sp):Prop:=o7 P w K mg base Kc k f fd ps sp
theorem cT {X:Cx} {k k':Nat} {f:Addr} {fd:Yn} {ps:List Str} {sp:Sp} {x:Str} {st:Stmt} {p pos:Pos} {e:Expr} {es:List Expr} {t:TA} (F:o7 X.prog X.w X.K X.mg X.base Kc k f fd ps sp) (hr:kq k' X.A) (D:Df X.K X.mg x st ps f fd) (ha:PA X (e :: es) t) (hle:k<=k':=by decide) (hg:Gl X x:=by exact rfl) (hdb:(x == ("__debug__":Str))=false:=by decide) (he:Yu (e :: es) X.env=(false,eval e X.env) :: Yu es X.env:=by rfl) (hpl:(ZK pos (Yu es X.env)).any (·.1)=false:=by rfl):PE X (.Call (.Name x p) (e :: es) [] pos) (Nz sp [] E0 t):=Kv F (hr.mono hle) hg D.m D.F.kp D.b .nil Gn ha hdb he hpl
theorem dk (h:n<=1000):n < YB:=aZ h ()
theorem ko {n:Nat} (h:n<=1000:=by lia):n<=YB:=dH (dk h)
section
variable {X:Cx}
theorem pv (i:Nat) {x:Str} {pos:Pos} (hN:X.N[i]?=some x:=by rfl) (hv:Yc X.env.scope x:=by first | exact Or.inl rfl | exact Or.inr (Or.inl rfl) | exact Or.inr (Or.inr rfl)) (hd:(x == ("__debug__":Str))=false:=by decide)
  (hcd:(x == ("__classdict__":Str))=false:=by decide):PE X (.Name x pos) (Ub i):=UT hN hv hd hcd
end
theorem RD {A B:Prop} (h:B):if false=true then A else B:=by
 rw[if_neg aV];exact h
theorem WN {A B:Prop} (h:A):if true=true then A else B:=by
 rw[if_pos rfl];exact h
theorem iZ {c A B:Prop} [Decidable c] (h1:c->A) (h2:¬c->B):if c then A else B:=by
 by_cases h:c
 ·rw[if_pos h];exact h1 h
 ·rw[if_neg h];exact h2 h
def aE (H H':Hp):Prop:=∀b o,H b=some o->H' b=some o
theorem aE.refl (H:Hp):aE H H:=λ_ _ h=>h
theorem aE.trans (a:aE H H1) (b:aE H1 H2):aE H H2:=λc o h=>b c o (a c o h)
theorem aE.free (e:aE H H') (h:H' l=Zg):H l=Zg:=by
 cases q:H l with
 | none=>rfl
 | some o =>
  rw[e l o q] at h;cases h
theorem aE.seq {K:FG9} (e:aE H H') (h:br K H a xs):br K H' a xs:=by
 rcases h with (h | ⟨o,h⟩) | h
 ·exact .inl (.inl (e _ _ h))
 ·exact .inl (.inr #[o,e _ _ h])
 ·exact .inr h
end L2
namespace Nm
theorem OY (a b:Int):Y8 b (a.fmod b)=Y8 a b:=by
 rw[Int.fmod_def,nC a b];apply Nat.dvd_antisymm
 ·apply PX
  ·exact fZ ..
  ·have h1:=fZ (a:=b) (b:=a - b*a.fdiv b);have h2:=gW (a:=b) (b:=a - b*a.fdiv b);have h3:=Int.dvd_add h2 (ph (c:=a.fdiv b) h1);rwa [Int.sub_add_cancel] at h3
 ·apply PX
  ·exact fZ ..
  ·exact Int.dvd_sub (gW ..) (ph (fZ ..))
theorem OZ (a b:Int):Y8 b (a % b)=Y8 a b:=by
 rw[Int.emod_def,nC a b];apply Nat.dvd_antisymm
 ·apply PX
  ·exact fZ ..
  ·have h1:=fZ (a:=b) (b:=a - b*(a / b));have h2:=gW (a:=b) (b:=a - b*(a / b));have h3:=Int.dvd_add h2 (ph (c:=a / b) h1);rwa [Int.sub_add_cancel] at h3
 ·apply PX
  ·exact fZ ..
  ·exact Int.dvd_sub (gW ..) (ph (fZ ..))
theorem RJ (a b:Int) (h:b≠0):(a.fmod b).natAbs < b.natAbs:=by
 rcases Int.lt_or_gt_of_ne h with h | h
 ·have e:a.fmod b=-((-a).fmod (-b)):=by
   have:=Int.neg_fmod_neg (-a) (-b);simp only[Int.neg_neg] at this;exact this
  have h1:=Int.fmod_nonneg_of_pos (-a) (b:=-b) ();have h2:=Int.fmod_lt_of_pos (-a) (b:=-b) ()
  lia
 ·have h1:=Int.fmod_nonneg_of_pos a h;have h2:=Int.fmod_lt_of_pos a h
  lia
def g (t b:Int):Int:=(Y8 t b:Int)
def lo (t b:Int):Int:=t / g t b
def hi (t b:Int):Int:=b / g t b
theorem AQ (h:b≠0):0 < g t b:=by
 unfold g;have:0 < Y8 t b:=P6 _ h
 lia
theorem AJ (t b:Int):lo t b*g t b=t:=Int.ediv_mul_cancel (fZ ..)
theorem ya (t b:Int):hi t b*g t b=b:=Int.ediv_mul_cancel (gW ..)
theorem Ex (h:0 < b):0 < hi t b:=by
 have h1:=AQ (t:=t) (b:=b) ();have h2:=ya t b;by_cases h3:0 < hi t b
 ·exact h3
 ·have:hi t b*g t b<=0:=Int.mul_nonpos_of_nonpos_of_nonneg () ()
  lia
theorem AH (h:b≠0):Y8 (lo t b) (hi t b)=1:=by
 have h1:=AQ (t:=t) h;have e:=Int.gcd_mul_right (lo t b) (g t b) (hi t b);rw[AJ,ya] at e;have e2:(g t b).natAbs=Y8 t b:=by unfold g;simp
 rw[e2] at e;have h2:0 < Y8 t b:=P6 _ h;exact Nat.eq_of_mul_eq_mul_right h2 (by rw[<- e,xf])
theorem AI (t b:Int):lo t b*b=t*hi t b:=by
 have h1:=AJ t b;have h2:=ya t b
 calc lo t b*b=lo t b*(hi t b*g t b):=by rw[h2]
  _=(lo t b*g t b)*hi t b:=by rw[ik (hi t b),<- eE]
  _=t*hi t b:=by rw[h1]
theorem sG (h:Y8 a b=1) (hd:a∣b*c):a∣c:=by
 have h1:a.natAbs∣b.natAbs*c.natAbs:=by rw[<- eC];exact fU.mpr hd
 have h2:Nat.Coprime a.natAbs b.natAbs:=h;exact fU.mp (h2.dvd_of_dvd_mul_left h1)
theorem uniq (hb:0 < b) (hd:0 < d) (h1:Y8 a b=1) (h2:Y8 c d=1) (e:a*d=c*b):a=c/\b=d:=by
 have e1:b∣d:=by
  have:b∣a*d:=#[c,by rw[e,ik]];exact sG (by rw[nC];exact h1) this
 have e2:d∣b:=by
  have:d∣c*b:=#[a,by rw[<- e,ik]];exact sG (by rw[nC];exact h2) this
 have e3:b=d:=Int.dvd_antisymm () () e1 e2;subst e3;exact #[uX () e,rfl]
theorem U3 (hb:0 < b) (hd:0 < d) (h2:Y8 c d=1) (e:t*d=c*b):lo t b=c/\hi t b=d:=by
 refine uniq (Ex hb) hd (AH ()) h2 ?_;have h:=AI t b;have hb':b≠0:=()
 apply uX hb'
 calc lo t b*d*b=lo t b*b*d:=by rw[eE,ik d b,<- eE]
  _=t*hi t b*d:=by rw[h]
  _=t*d*hi t b:=by rw[eE,ik (hi t b),<- eE]
  _=c*b*hi t b:=by rw[e]
  _=c*hi t b*b:=by rw[eE,ik b,<- eE]
theorem U4 (hb:0 < b) (h:Y8 a b=1):lo a b=a/\hi a b=b:=U3 hb hb h rfl
theorem qK {a b:Int} (h:b≠0):a.natAbs<=(a*b).natAbs:=by
 rw[eC];exact eU _ (Int.natAbs_pos.mpr h)
theorem lo_le (h:b≠0):(lo t b).natAbs<=t.natAbs:=by
 have:=qK (a:=lo t b) (b:=g t b) (by have:=AQ (t:=t) h;lia);rwa [AJ] at this
theorem Tf (h:b≠0):(hi t b).natAbs<=b.natAbs:=by
 have:=qK (a:=hi t b) (b:=g t b) (by have:=AQ (t:=t) h;lia);rwa [ya] at this
def Sz (k:Nat) (x:Int):Prop:=x.natAbs < 2^k
theorem Sz.mono (h:Sz j x) (l:j<=k):Sz k x:=bD h (ar () l)
theorem Sz.mul (h1:Sz j x) (h2:Sz k y):Sz (j+k) (x*y):=by
 unfold Sz at *
 rw[eC,bG];exact Nat.mul_lt_mul'' h1 h2
theorem Sz.neg (h:Sz k x):Sz k (-x):=by unfold Sz at *;rw[mi];exact h
theorem Sz.le (h:Sz k y) (l:x.natAbs<=y.natAbs):Sz k x:=aZ l h
theorem Sz.hi {k:Nat} {t b:Int} (h:Sz k b) (hb:b≠0):Sz k (hi t b):=h.le (Tf hb)
end Nm
namespace L2
open PySem PySem.Spec PyProof.Rows
structure Bk (env:Env) (scope:Scope) (own capN:List Str):Prop where
 kind:scope.kind=.function
 locs:∀y∈scope.names,y.2=.local->scope.names.lookup y.1=some .local
 ownk:∀x∈own,scope.names.lookup x=some .local\/scope.names.lookup x=some .cell
 cells:∀y∈scope.names,y.2=.cell->y.1∈own/\y.1∉capN
 frees:∀y∈scope.names,y.2=.free->y.1∈capN/\y.1∉own
 capf:∀x∈capN,scope.names.lookup x=some .free
 caps:∀x∈capN,env.kindOf x=some .cell\/env.kindOf x=some .free
def XO (scope:Scope) (own capN:List Str):Bool :=
 decide (scope.kind=.function) && scope.names.all (λy=>decide (y.2=.local->scope.names.lookup y.1=some .local) && decide (y.2=.cell->y.1∈own/\y.1∉capN) && decide (y.2=.free->y.1∈capN/\y.1∉own)) &&
 own.all (λx=>decide (scope.names.lookup x=some .local\/scope.names.lookup x=some .cell)) && capN.all λx=>decide (scope.names.lookup x=some .free)
def C8 (env:Env):List Str->Bool
 | []=>true
 | x :: r=>(match env.kindOf x with | some .cell=>true | some .free=>true | _=>false) && C8 env r
theorem HP {env:Env}:∀{capN:List Str},C8 env capN=true->∀x∈capN,env.kindOf x=some .cell\/env.kindOf x=some .free
 | [],_,_,h=>nomatch h
 | y :: r,h,x,hx=>by
  unfold C8 at h;rw[dW] at h;rcases ay.mp hx with e | hx
  ·subst e;have h1:=h.1
   split at h1
   ·rename_i e;exact .inl e
   ·rename_i e;exact .inr e
   ·cases h1
  ·exact HP h.2 x hx
theorem Bk.of (h1:XO scope own capN=true) (h2:C8 env capN=true):Bk env scope own capN:=by
 unfold XO at h1;rw[dW,dW,dW,rh,rh,rh] at h1;obtain ⟨⟨a1,a2⟩,a3⟩|a4:=h1
 have a2':∀y∈scope.names,(y.2=.local->scope.names.lookup y.1=some .local)/\(y.2=.cell->y.1∈own/\y.1∉capN)/\(y.2=.free->y.1∈capN/\y.1∉own):=λy hy=>by
  have q:=a2 y hy;rw[dW,dW] at q;exact #[of_decide_eq_true q.1.1,of_decide_eq_true q.1.2,of_decide_eq_true q.2]
 exact #[of_decide_eq_true a1,λy hy=>(a2' y hy).1,λx hx=>of_decide_eq_true (a3 x hx),λy hy=>(a2' y hy).2.1,λy hy=>(a2' y hy).2.2,λx hx=>of_decide_eq_true (a4 x hx),HP h2]
def fk (env:Env):List (Str×Y7)->List (Str×Addr)->List (Str×Addr)
 | [],acc=>acc
 | (n,k) :: r,acc=>if k == .free then fk env r ((n,(env.cells.lookup n).getD 0) :: acc) else fk env r acc
theorem jI (env:Env):∀(names:List (Str×Y7)) (acc:List (Str×Addr)),fk env names acc=fk env names []++acc
 | [],_=>rfl
 | (n,k) :: r,acc=>by
  unfold fk
  split
  ·rw[jI env r (_ :: acc),jI env r [_],cy];rfl
  ·exact jI env r acc
theorem sI (env:Env):∀(names:List (Str×Y7)) {x:Str} {c:Addr},(x,c)∈fk env names []->(x,Y1)∈names/\c=(env.cells.lookup x).getD 0
 | [],_,_,h=>nomatch h
 | (n,k) :: r,x,c,h=>by
  unfold fk at h
  split at h
  ·rename_i hk
   have ek:k=.free:=by simpa using hk
   subst ek;rw[jI] at h;rcases aB.mp h with h | h
   ·have q:=sI env r h;exact #[bS _ q.1,q.2]
   ·have e:(x,c)=(n,(env.cells.lookup n).getD 0):=by simpa using h
    cases e;exact #[cU,rfl]
  ·have q:=sI env r h;exact #[bS _ q.1,q.2]
theorem kj {α:Type}:∀{l:List (Str×α)} {x:Str} {c:α},(x,c)∈l->∃d,l.lookup x=some d
 | (k,v) :: r,x,c,h=>by
  rw[nv];cases hb:x == k with
  | true=>exact #[v,rfl]
  | false =>
   rcases ay.mp h with e | h
   ·cases e;simp at hb
   ·exact kj h
theorem sJ (env:Env):∀(names:List (Str×Y7)) {x:Str},(x,Y1)∈names->∃c,(x,c)∈fk env names []
 | (n,k) :: r,x,h=>by
  unfold fk;rcases ay.mp h with e | h
  ·cases e;rw[if_pos (),jI];exact #[_,b6 _ cU]
  ·obtain c|q:=sJ env r h
   split
   ·rw[jI];exact #[c,mh _ q]
   ·exact #[c,q]
theorem A0 (h:∀y∈scope.names,y.2=.free->∃c,env.cells.lookup y.1=some c):closureFor scope env=pure (fk env scope.names []):=by
 have gen:∀(names:List (Str×Y7)) (acc:List (Str×Addr)) (f:Str×Y7->List (Str×Addr)->Sem (ForInStep (List (Str×Addr)))),
   (∀name kind cells,f (name,kind) cells=if kind == .free then (do let a <- cellOf env name;pure (.yield ((name,a) :: cells))) else pure (.yield cells)) →
   (∀y∈names,y.2=.free->∃c,env.cells.lookup y.1=some c)->forIn names acc f=pure (fk env names acc):=by
  intro names
  induction names with
  | nil=>intro acc f hf _;rw[pY];rfl
  | cons y r ih =>
   intro acc f hf hh;obtain n|k:=y;rw[sY,hf];unfold fk;by_cases hk:(k == Y1)=true
   ·obtain c|hc:=hh (n,k) cU (by simpa using hk);have hc':env.cells.lookup n=some c:=hc;have e:cellOf env n=pure c:=by unfold cellOf;rw[hc']
    rw[if_pos hk,if_pos hk,e,hc'];simp only[pure_bind,jM];exact ih _ f hf λy hy=>hh y (bS _ hy)
   ·rw[if_neg hk,if_neg hk];simp only[pure_bind];exact ih _ f hf λy hy=>hh y (bS _ hy)
 simp only[closureFor];rw[gen scope.names [] _ (λname kind cells=>by cases hkc:kind == Y1 <;> simp [hkc]) h];rfl
theorem ia:∀(names:List (Str×Y7)) (n:Nat) (acc:List (Str×Addr)),Y4 n names acc=Y4 n names []++acc
 | [],_,_=>rfl
 | (x,k) :: r,n,acc=>by
  unfold Y4
  split
  ·rw[ia r (n+1) (_ :: acc),ia r (n+1) [_],cy];rfl
  ·exact ia r n acc
theorem ni:∀(names:List (Str×Y7)) (n:Nat) {x:Str} {c:Addr},(x,c)∈Y4 n names []->(x,Y7.cell)∈names
 | [],_,_,_,h=>nomatch h
 | (y,k) :: r,n,x,c,h=>by
  unfold Y4 at h
  split at h
  ·rename_i hk
   have ek:k=.cell:=by simpa using hk
   subst ek;rw[ia] at h;rcases aB.mp h with h | h
   ·exact bS _ (ni r _ h)
   ·have e:(x,c)=(y,n):=by simpa using h
    cases e;exact cU
  ·exact bS _ (ni r _ h)
def yi (env:Env) (scope:Scope) (C:Addr):Env :=
 { scope:=relabel scope env,locals:=C,globals:=env.globals,cells:=Y4 (C+1) scope.names (fk env scope.names []),qual:=env.qual,func:=none,code:=env.code,frame:=env.frame,builtins:=env.builtins }
theorem Gz 
  (h:Q (newEnv scope s.heap.objs.size g (Y4 (s.6+1) scope.names cl) qual none .none (some env) builtinsNs) { s with heap:=pushCells (s.heap.push { cls:=.type "dict",data:=.dict [].toArray }) scope.names }) :
  Yy M A (newFunctionEnv scope g cl [] qual none .none (some env)) Q E s:=by
 simp only[newFunctionEnv,Option.isSome_some,if_true];refine K0 (wpAny_alloc ?_);refine K0 (wpAny_layCells _ (λname kind cells=>by cases hkc:kind == Y7.cell <;> simp [hkc]) _ _ _ _ ?_);rw[show ({ s with heap:=s.heap.push { cls:=.type "dict",data:=.dict [].toArray } }:Yo).6=s.6+1 from YT ..];rw[pY];exact K0 (Yp (Yp h))
theorem vX:∀{k:Y7},(relabel scope env).names.lookup x=some k->∃k0,scope.names.lookup x=some k0/\(k=k0\/(k0=.free/\k=.cell)):=by
 unfold relabel;show ∀{k:Y7},(scope.names.map λ(n,k)=>if (k == Y1 && env.scope.kind == .function && env.kindOf n == some .cell) then (n,Y7.cell) else (n,k)).lookup x=some k->_
 induction scope.names with
 | nil=>intro k h;cases h
 | cons y r ih =>
  intro k h;obtain n|k1:=y;rw[iB,nv] at h;rw[nv];by_cases hc:(k1 == Y1 && env.scope.kind == .function && env.kindOf n == some .cell)=true
  ·simp only[hc,if_true] at h;cases hb:x == n with
   | true =>
    simp only[hb] at h
    have e1:k1=.free:=by
     rw[dW,dW] at hc;simpa using hc.1.1
    cases h;exact #[k1,rfl,.inr #[e1,rfl]]
   | false=>simp only[hb] at h;exact ih h
  ·have hc':(k1 == Y1 && env.scope.kind == .function && env.kindOf n == some .cell)=false:=by simpa using hc
   simp only[hc',j6,if_false] at h;cases hb:x == n with
   | true=>simp only[hb] at h;cases h;exact #[_,rfl,.inl rfl]
   | false=>simp only[hb] at h;exact ih h
theorem F7:scope.names.lookup x=some .free->(relabel scope env).names.lookup x=some .cell\/(relabel scope env).names.lookup x=some .free:=by
 unfold relabel;show _->(scope.names.map λ(n,k)=>if (k == Y1 && env.scope.kind == .function && env.kindOf n == some .cell) then (n,Y7.cell) else (n,k)).lookup x=some .cell\/(scope.names.map λ(n,k)=>if (k == Y1 && env.scope.kind == .function && env.kindOf n == some .cell) then (n,Y7.cell) else (n,k)).lookup x=some .free
 induction scope.names with
 | nil=>intro h;cases h
 | cons y r ih =>
  intro h;obtain n|k1:=y;rw[nv] at h;rw[iB];by_cases hc:(k1 == Y1 && env.scope.kind == .function && env.kindOf n == some .cell)=true
  ·simp only[hc,if_true,nv];cases hb:x == n with
   | true=>exact .inl rfl
   | false=>rw[hb] at h;exact ih h
  ·have hc':(k1 == Y1 && env.scope.kind == .function && env.kindOf n == some .cell)=false:=by simpa using hc
   simp only[hc',j6,if_false,nv];cases hb:x == n with
   | true=>rw[hb] at h;cases h;exact .inr rfl
   | false=>rw[hb] at h;exact ih h
structure Bz where
 s:Yo
 H:Hp
 fp:List Addr
 C:Addr
def yW (X:Cx) (own capN:List Str) (scope:Scope) (Z:Bz):Cx where
 prog:=X.prog
 w:=X.w
 K:=X.K
 mg:=X.mg
 base:=X.base
 A:=X.A
 N:=own++capN
 s₀:=Z.s
 H₀:=Z.H
 env:=yi X.env scope Z.C
 outer:=X.stack
 stack:=X.stack
 ex:=Z.fp
 fn:=λx=>own.contains x
 calm:=true
 pn:=[]
 xe:=λ_ _=>False
section
variable {X:Cx} {pins:List (Addr×Obj)} {σ:St} {own capN:List Str} {scope:Scope} {Z:Bz}
theorem kB (B:Bk X.env scope own capN) (I:Inv X pins σ Z.H Z.s) (h:(yi X.env scope Z.C).cells.lookup x=some c) :
  (x∈own/\(x,c)∈Y4 (Z.C+1) scope.names [])\/(x∈capN/\x∉own/\X.env.cells.lookup x=some c):=by
 have h':(Y4 (Z.C+1) scope.names (fk X.env scope.names [])).lookup x=some c:=h;rw[ia] at h';rcases aB.mp (mem_of_lookup h') with m | m
 ·exact .inl #[(B.cells _ (ni _ _ m) rfl).1,m]
 ·obtain m1|e:=sI _ _ m;obtain q1|q2:=B.frees _ m1 rfl;obtain d|hd:=I.ok.has x (B.caps x q1);rw[hd] at e;exact .inr #[q1,q2,by rw[hd,e];rfl]
theorem Si (B:Bk X.env scope own capN) (I:Inv X pins σ Z.H Z.s) (hx:x∈capN) (h:X.env.cells.lookup x=some c):(yi X.env scope Z.C).cells.lookup x=some c:=by
 have hm:(x,Y1)∈scope.names:=mem_of_lookup (B.capf x hx);obtain c1|m1:=sJ X.env scope.names hm
 have hs:∃d,(yi X.env scope Z.C).cells.lookup x=some d:=by
  show ∃d,(Y4 (Z.C+1) scope.names (fk X.env scope.names [])).lookup x=some d
  rw[ia];exact kj (b6 _ m1)
 obtain d|hd:=hs;rcases kB B I hd with ⟨q,m⟩ | ⟨_,_,q⟩
 ·exact absurd hx (B.cells _ (ni _ _ m) rfl).2
 ·rw[h] at q;cases q;exact hd
theorem LQ (h:Heap) (C:Addr) (hC:h.objs.7=C+1) (names:List (Str×Y7)):CellsOk (pushCells h names) (C+1) (Y4 (C+1) names []):=by
 have q:=cellsFrom_ok names h (C+1) [] #[λ_ _ hm=>(nomatch hm),List.Pairwise.nil] (by rw[hC];exact ah _);rwa [hC] at q
theorem E3 (I:Inv X pins σ Z.H Z.s) (h:X.env.cells.lookup x=some c):@LT.lt Nat instLTNat c Z.s.6:=by
 obtain v|q:=I.cell x c h;exact q.lt
theorem Vz (I:Inv X pins σ Z.H Z.s) (hc:X.calm=true) (B:Bk X.env scope own capN) (hC:Z.s.6<=Z.C) (hcl:CellsOk h1 (Z.C+1) (Y4 (Z.C+1) scope.names []))
  (hf:∀b∈Z.fp,lQ X pins Z.H b/\@LT.lt Nat instLTNat b Z.s.6):(yW X own capN scope Z).Ok:=by
 refine #[I.ok.mod,B.kind,I.ok.glob,I.ok.blt,hC,λx y c h1 h2=>?_,λx hx=>?_,λx c hx h=>?_,λ_=>I.ok.hd hc,I.ok.frames,.inl rfl,λb hb=>#[?_,λx c h=>?_],I.bs,ag I.ok.bsz I.sz,λb o e hb=>?_,λb hb hz=>?_,I.stack,I.stkFree]
 ·rcases kB B I h1 with ⟨q1,m1⟩ | ⟨q1,n1,m1⟩ <;> rcases kB B I h2 with ⟨q2,m2⟩ | ⟨q2,n2,m2⟩
  ·exact name_of_addr hcl.apart m1 m2
  ·have l1:=(hcl.empty _ _ m1).2;have l2:=E3 I m2
   lia
  ·have l1:=(hcl.empty _ _ m2).2;have l2:=E3 I m1
   lia
  ·exact I.ok.inj x y c m1 m2
 ·have hx':(relabel scope X.env).names.lookup x=some .cell\/(relabel scope X.env).names.lookup x=some .free:=hx
  have hk:scope.names.lookup x=some .cell\/scope.names.lookup x=some .free:=by
   rcases hx' with h | h
   ·obtain ⟨k0,e,q | ⟨q,_⟩⟩:=vX h
    ·exact .inl (by rw[e,<- q])
    ·exact .inr (by rw[e,q])
   ·obtain ⟨k0,e,q | ⟨_,q⟩⟩:=vX h
    ·exact .inr (by rw[e,<- q])
    ·cases q
  show ∃c,(Y4 (Z.C+1) scope.names (fk X.env scope.names [])).lookup x=some c
  rcases hk with h | h
  ·exact VT.mp (zB scope.names (Z.C+1) _ (.inl h))
  ·obtain c|m:=sJ X.env scope.names (mem_of_lookup h);rw[ia];exact kj (b6 _ m)
 ·have ho:x∈own:=by have hx':own.contains x=true:=hx;simpa using hx'
  rcases kB B I h with ⟨_,m⟩ | ⟨_,n,_⟩
  ·have:=(hcl.empty _ _ m).2;have hC':Z.s.6<=Z.C:=hC;show Z.s.6<=c
   lia
  ·exact absurd ho n
 ·intro e;have e':@Eq Nat b Z.C:=e;have:=(hf b hb).2
  lia
 ·have l:=(hf b hb).2;rcases kB B I h with ⟨_,m⟩ | ⟨_,_,m⟩
  ·intro e;have e':@Eq Nat c b:=e;have:=(hcl.empty _ _ m).2
   lia
  ·exact (hf b hb).1.2.2.2.2.1 x c m
 ·obtain _|_|_|f3|_:=(hf b hb).1;rcases f3 with f3 | f3
  ·exact I.ok.noex b o e f3
  ·exact absurd (bD (Yr e) (ag I.ok.bsz f3)) (gG _)
 ·obtain _|f1|f2|_:=(hf b hb).1;rcases ay.mp (I.stkSub b hz) with e | e
  ·exact f1 e
  ·exact f2 e
def MW (k:Nat) (cap:List Nat) (σ:St):St:=Mg k none++cap.map λj=>(σ[j]?).join
def yH (X:Cx) (capN:List Str) (cap:List Nat):Prop:=cap.map (λj=>X.N[j]?)=capN.map some
theorem yH.get (h:yH X capN cap) {i:Nat} (e:capN[i]?=some x):∃j,cap[i]?=some j/\X.N[j]?=some x:=by
 have q:=congrArg (λl=>l[i]?) h;simp only[aw,e,Option.map_some] at q;cases hc:cap[i]? with
 | none=>rw[hc] at q;cases q
 | some j=>rw[hc] at q;exact #[j,rfl,by simpa using q]
theorem HQ (I:Inv X pins σ Z.H Z.s) (B:Bk X.env scope own capN) (hcap:yH X capN cap)
  (kc:∀x c,X.env.cells.lookup x=some c->∀v,Z.s.heap.IsCell c v->h'.IsCell c v) {i:Nat} (e1:(own++capN)[i]?=some x) (e2:(MW own.9 cap σ)[i]?=some (some v)) :
  ∃u,RelV v u/\Look (yi X.env scope Z.C) h' m x u:=by
 have hi:own.9<=i:=by
  by_cases hi:own.9<=i
  ·exact hi
  ·exfalso
   unfold MW at e2;rw[bM (by simpa using hi),eX] at e2
   split at e2 <;> cases e2
 rw[bE hi] at e1;unfold MW at e2;rw[bE (by simpa using hi),cE,aw] at e2;obtain j|hj|hN:=hcap.get e1;rw[hj] at e2;have e3:(σ[j]?).join=some v:=by simpa using e2
 have e4:σ[j]?=some (some v):=by
  cases q:σ[j]? with
  | none=>rw[q] at e3;cases e3
  | some o=>rw[q] at e3;simp at e3;rw[e3]
 have hx:x∈capN:=ai e1;have hk:=B.caps x hx;obtain m0|_|hl:=I.loc;obtain u|r|l:=hl j x v hN e4 (.inr hk);refine #[u,r,.inr #[F7 (B.capf x hx),?_]];rcases l with ⟨hk2,_⟩ | ⟨_,c,hc,z⟩
 ·rcases hk with hk | hk
  ·rw[hk] at hk2;cases hk2
  ·rw[hk] at hk2;cases hk2
 ·exact #[c,Si B I hx hc,kc x c hc _ z]
theorem WZ (I:Inv X pins σ Z.H Z.s) (h:b∈wH X.stack):@LT.lt Nat instLTNat b Z.s.6:=by
 obtain _|o|ho|_:=I.stack.mem h;exact Yr ho
theorem Sg {D:Addr} (I:Inv X pins σ Z.H Z.s) (hc:X.calm=true) (B:Bk X.env scope own capN) (hcap:yH X capN cap) (hC:Z.s.6<=Z.C)
  (hcl:CellsOk h1 (Z.C+1) (Y4 (Z.C+1) scope.names [])) (hf:∀b∈Z.fp,lQ X pins Z.H b/\@LT.lt Nat instLTNat b Z.s.6)
  (hk:∀b o,Z.s.heap.get? b=some o->h1.get? b=some o) (hn:h1.Ns Z.C λ_=>none) (hD:Z.s.6<=D) (hDC:D≠Z.C) (hoD:h1.get? D=some oD) (hdD:∀v,oD.data≠.cell v) :
  Inv (yW X own capN scope Z) [(D,oD)] (MW own.9 cap σ) Z.H { Z.s with heap:=h1,toks:=t1 }:=by
 refine #[Vz I hc B hC hcl hf,rfl,I.bare,Un.kept hk,#[_,hn,λi x v e1 e2 _=>HQ I B hcap (λx c _ v z=>z.keeps hk) e1 e2],λx c h=>?_,I.hok.fresh hC,λx c h=>?_,λp hp=>?_,I.hok.kept hk,?_]
 ·rcases kB B I h with ⟨_,m⟩ | ⟨_,_,m⟩
  ·exact #[none,(hcl.empty _ _ m).1]
  ·obtain v|q:=I.cell x c m;exact #[v,q.keeps hk]
 ·rcases kB B I h with ⟨_,m⟩ | ⟨_,_,m⟩
  ·exact I.hok.fresh (by have:=(hcl.empty _ _ m).2;lia)
  ·exact I.freeC x c m
 ·have e:p=(D,oD):=by simpa [yW] using hp
  subst e;exact #[hoD,I.hok.fresh hD,hDC,λz=>gG _ (bD (WZ I z) hD),hdD]
 ·show (MW own.9 cap σ).9=(own++capN).9
  have:=congrArg Zs hcap;simp only[af] at this;unfold MW;simp [this]
theorem PB {σ':St} (I:Inv X pins σ Z.H Z.s) (B:Bk X.env scope own capN) (hcap:yH X capN cap) (hf:∀b∈Z.fp,lQ X pins Z.H b/\@LT.lt Nat instLTNat b Z.s.6)
  (J:Inv (yW X own capN scope Z) pins' σ' H' s'):Inv (yW X own capN scope Z) pins' (MW own.9 cap σ) H' s':=by
 refine #[J.ok,J.os,J.bare,J.base,?_,J.cell,J.free,J.freeC,J.pin,J.hok,?_]
 ·obtain m|hn|_:=J.loc;refine #[m,hn,λi x v e1 e2 _=>HQ I B hcap (λx c hx v z=>?_) e1 e2];obtain o|ho|hd:=z;obtain sl|e:=J.base.any ho (I.freeC x c hx) λz=>(hf c z).1.2.2.2.2.1 x c hx rfl
  exact #[_,e,hd]
 ·show (MW own.9 cap σ).9=(own++capN).9
  have:=congrArg Zs hcap;simp only[af] at this;unfold MW;simp [this]
theorem Sh {σ':St} {D:Addr} (I:Inv X pins σ Z.H Z.s) (hf:∀b∈Z.fp,lQ X pins Z.H b/\@LT.lt Nat instLTNat b Z.s.6) (hD:Z.s.6<=D)
  (J:Inv (yW X own capN scope Z) [(D,{ cls:=.type "list",data:=.seq its.toArray n })] σ' H' s') (r:cX ys its) (hz:ys.9<=YB) :
  Inv X pins σ (upd H' D (.lst ys)) s':=by
 have pD:=J.pin (D,{ cls:=.type "list",data:=.seq its.toArray n }) (by simp);have ne:∀{b:Addr} {o:Obj},Z.s.heap.get? b=some o->b≠D:=λe z=>by subst z;exact gG _ (bD (Yr e) hD)
 have nt:∀{b:Addr} {u:HO},H' b=some u->b≠D:=λe z=>by rw[z,pD.2.1] at e;cases e
 refine I.call' (ch:=Z.fp) J.os #[J.base.keep,J.base.slot,λb o e h hx=>?_,J.base.there,λb xs e=>?_,λb o u e=>?_,λb ps e=>?_] (λb u e=>?_) J.bare λb hb=>?_
 ·rw[aY (ne e)];exact J.base.free b o e h hx
 ·have q:=J.base.tups b xs e;rw[aY (nt q)];exact q
 ·have q:=J.base.frzs b o u e;rw[aY (nt q)];exact q
 ·obtain more|q:=J.base.tbls b ps e;exact #[more,by rw[aY (nt q)];exact q]
 ·by_cases hb:b=D
  ·subst hb;rw[aD] at e;cases e;exact #[hz,its,n,r,pD.1]
  ·rw[aY hb] at e;exact (J.hok b u e).stay (λc v _ q=>q) (λc q=>by rw[aY (nt q)];exact q) λc xs q=>by rw[aY (nt q)];exact q
 ·obtain _|f1|_|f3|f4|f5:=(hf b hb).1;exact #[f3,f1,f4,f5]
end
theorem Ua {t:Sem α} {Q Q':α->Yo->Prop} (h:Yy M A t Q (λ_ _=>False) s) (hQ:∀a s,Q a s->Q' a s):Yy M A t Q' E s :=
 YX h hQ λ_ _ z=>YL z
theorem EZ (I:Nat->Yo->Prop)
  (turn:∀(E:Value->Yo->Prop) n s,I n s->Yy (model prog w) A (pyNext it) (λr s₁=>match r with
   | none=>R (.ok .next) s₁
   | some v=>Yy (model prog w) A (letOwnedTupleGo target it v) (λ_ s₂=>Yy (model prog w) A (assign target env v) (λ_ s₃ =>
     Yy (model prog w) A (forIn ifs true λc r=>if r=true then do let ok <- isTrue c env (eval c env);pure (ForInStep.yield ok) else pure (ForInStep.yield r)) (λok s₄ =>
      if ok=true then Yy (model prog w) A (eval elt env) (λx s₅=>Yy (model prog w) A (call (.builtin "list.append") [acc,x]) (λ_ s₆=>∃m,m < n/\I m s₆) E s₅) E s₄
      else ∃m,m < n/\I m s₄) E s₃) E s₂) E s₁) E s)
  (n:Nat) (h:I n s):Zy (model prog w) A (.compLoop (.ListComp elt [#[target,iter,ifs,0]] scope pos) 0 it acc env) R s:=by
 refine codeAny_loop rfl I (λn s hI=>?_) n h;show Yy _ A ((compTurn (.ListComp elt [#[target,iter,ifs,0]] scope pos) 0 it acc env).onRaise (λx=>do noteFrame x env;theTreesLotGoes x)) _ _ s
 refine wpAny_noted ?_;rw[compTurn_list];refine K0 (ZH (K0 (YX (turn _ n s hI) (λr s₁ h₁=>?_) λ_ _ h'=>h')));cases r with
 | none=>exact Yp h₁
 | some v =>
  refine K0 (YX h₁ (λ_ s₂ h₂=>K0 (YX h₂ (λ_ s₃ h₃=>K0 (YX h₃ (λok s₄ h₄=>?_) λ_ _ h'=>h')) λ_ _ h'=>h')) λ_ _ h'=>h');cases ok with
  | false=>exact Yp #[rfl,h₄]
  | true =>
   exact K0 (K0 (YX h₄ (λx s₅ h₅=>K0 (YX h₅ (λ_ s₆ h₆=>Yp (Yp #[rfl,h₆])) λ_ _ h'=>h')) λ_ _ h'=>h'))
def PF (X:Cx) (ifs:List Expr) (t:TT):Prop :=
 ∀(pins:List (Addr×Obj)) (s:Yo) (σ:St) (H:Hp) (Q:Bool->Hp->Prop),Inv X pins σ H s->t σ H Q →
  Yy (model X.prog X.w) X.A (forIn ifs true λc r=>if r=true then do let ok <- isTrue c X.env (eval c X.env);pure (ForInStep.yield ok) else pure (ForInStep.yield r)) (TP X pins σ Q) X.xe s
def VY:TT:=λ_ H Q=>Q true H
theorem cv:PF X [] VY:=λ_ _ _ H _ I h=>wpAny_tests_nil #[H,I,h]
theorem Jc (h:PT X c t):PF X [c] t:=λpins s σ H Q I hw=>wpAny_tests_one (h pins s σ H Q I hw)
def qN (σ₀:St) (g:TG) (tf:TT) (te:TE) (x:V) (H:Hp) (NY:V->Hp->Prop) (NN:Hp->Prop):Prop :=
 g x σ₀ H λσ2 H2=>tf σ2 H2 λb H3=>if b=true then te σ2 H3 NY else NN H3
def qX (J:It) (σ₀:St) (g:TG) (tf:TT) (te:TE) (Q:VK) (H1:Hp):Prop :=
 ∃W:Nat->Nat->List V->Hp->Prop,(∃m,W 0 m [] H1)/\∀i m ys H,W i m ys H →
  (J.stop i H/\ys.9<=YB/\∀p,H p=none->Q (.ref p) (upd H p (.lst ys))) \/
  (J.go i H/\ys.9 < YB/\∃(NY:V->Hp->Prop) (NN:Hp->Prop),(∀y H',NY y H'->∃m',m' < m/\W (i+1) m' (ys++[y]) H')/\(∀H',NN H'->∃m',m' < m/\W (i+1) m' ys H') /\
   ∀x H',J.yld i H x H'->qN σ₀ g tf te x H' NY NN)
def FH (wi:TI) (k:Nat) (cap:List Nat) (g:TG) (tf:TT) (te:TE):TE:=λσ H Q=>wi σ H λJ H1=>qX J (MW k cap σ) g tf te Q H1
abbrev lobj (its:List Value) (n:Nat):Obj:={ cls:=.type "list",data:=.seq its.toArray n }
section
variable {X:Cx} {own capN:List Str} {cap:List Nat} {scope:Scope} {elt tg iter:Expr} {ifs:List Expr} {pos:Pos} {wi:TI} {g:TG} {tf:TT} {te:TE}
theorem C5 (hc:X.calm=true) (B:Bk X.env scope own capN) (hcap:yH X capN cap)
  (hi:PI X tg iter wi) (hg:∀Z,PG (yW X own capN scope Z) tg g) (hf:∀Z,PF (yW X own capN scope Z) ifs tf) (he:∀Z,PE (yW X own capN scope Z) elt te)
  (hs:∀x,foldedSetIterable iter X.env x=pure x) {σ:St} (I:Inv X pins σ H s) (h:FH wi own.9 cap g tf te σ H Q)
  (fin:∀(D C:Addr) (s':Yo) (H':Hp),Inv X pins σ H' s'->lQ X pins H' C->(∃m,s'.heap.Ns C m)->Q (.ref D) H'->compPost (model X.prog X.w) X.A X.xe use Qe (.ref D) C (.ok .next) s') :
  Yy (model X.prog X.w) X.A (comprehension (.ListComp elt [#[tg,iter,ifs,0]] scope pos) scope X.env fpos (newList []) false (eval iter X.env) use) Qe X.xe s:=by
 refine wpAny_comprehension_free (use:=use) rfl hs (A0 λy hy hk=>I.ok.has y.1 (B.caps _ (B.frees y hy hk).1)) B.kind B.locs ?_;refine ib (hi pins s σ H _ I h) λv s1 h1=>ib h1 λitv s2 h2=>?_
 obtain it|fp|tn|J|H2|e|I2|T|st2|f2|W|⟨m0,w0⟩|turn:=h2;subst e;have hfp:∀b∈fp,lQ X pins H2 b/\@LT.lt Nat instLTNat b s2.6:=λb hb=>#[f2 b hb,let ⟨_,e,_⟩:=T.obj _ _ st2 b hb;Yr e]
 refine wpAny_newObj_type (Gz ?_) (a8 _);have es:(s2.heap.push { cls:=.type "list",data:=.seq ([]:List Value).5 }).objs.size=s2.6+1:=YT ..
 show Zy _ _ (.compStart _ 0 (.ref it) (.ref s2.6) { newEnv scope (s2.heap.push { cls:=.type "list",data:=.seq ([]:List Value).5 }).objs.size X.env.globals (Y4 ((s2.heap.push { cls:=.type "list",data:=.seq ([]:List Value).5 }).objs.size+1) scope.names (fk X.env scope.names [])) X.env.qual none .none (some X.env) builtinsNs with scope:=relabel scope X.env })
  (compPost (model X.prog X.w) X.A X.xe use Qe (.ref s2.6) (s2.heap.push { cls:=.type "list",data:=.seq ([]:List Value).5 }).objs.size)
  { s2 with heap:=pushCells ((s2.heap.push { cls:=.type "list",data:=.seq ([]:List Value).5 }).push { cls:=.type "dict",data:=.dict [].toArray }) scope.names }
 have hk1:∀b o,(s2.heap.push { cls:=.type "list",data:=.seq ([]:List Value).5 }).get? b=some o->(pushCells ((s2.heap.push { cls:=.type "list",data:=.seq ([]:List Value).5 }).push { cls:=.type "dict",data:=.dict [].toArray }) scope.names).get? b=some o :=
  λb o e=>pushCells_keeps _ _ _ _ (Ym _ e)
 have hk:∀b o,s2.heap.get? b=some o->(pushCells ((s2.heap.push { cls:=.type "list",data:=.seq ([]:List Value).5 }).push { cls:=.type "dict",data:=.dict [].toArray }) scope.names).get? b=some o:=λb o e=>hk1 b o (Ym _ e)
 have hoD:=hk1 s2.heap.objs.size _ (Yw s2.heap (o:={ cls:=.type "list",data:=.seq ([]:List Value).5 }) rfl);have hn:=(Heap.Ns.new (s2.heap.push { cls:=.type "list",data:=.seq ([]:List Value).5 }) (.type "dict")).keeps (pushCells_keeps scope.names _);have hcl:=LQ ((s2.heap.push { cls:=.type "list",data:=.seq ([]:List Value).5 }).push { cls:=.type "dict",data:=.dict [].toArray }) (s2.6+1) (by rw[YT,es]) scope.names;rw[es] at hn ⊢;generalize pushCells ((s2.heap.push { cls:=.type "list",data:=.seq ([]:List Value).5 }).push { cls:=.type "dict",data:=.dict [].toArray }) scope.names=h3 at hk hoD hn hcl ⊢;have Z:Bz:=#[s2,H2,fp,s2.6+1]
 have I3:Inv (yW X own capN scope #[s2,H2,fp,s2.6+1]) [(s2.6,lobj [] 0)] (MW own.9 cap σ) H2 { s2 with heap:=h3 } :=
  Sg (Z:=#[s2,H2,fp,s2.6+1]) (t1:=s2.toks) I2 hc B hcap (Dn _) hcl hfp hk hn (ah _) (bR (iD _)) hoD (λv z=>nomatch z)
 have st3:tn 0 h3:=T.keep _ _ _ st2 λb _ o e=>hk b o e
 have loop:Zy (model X.prog X.w) X.A (.compLoop (.ListComp elt [#[tg,iter,ifs,0]] scope pos) 0 (.ref it) (.ref s2.6) (yi X.env scope (s2.6+1))) (compPost (model X.prog X.w) X.A X.xe use Qe (.ref s2.6) (s2.6+1)) { s2 with heap:=h3 }:=by
  refine EZ (λm s'=>∃i ys σ' H' its n,Inv (yW X own capN scope #[s2,H2,fp,s2.6+1]) [(s2.6,lobj its n)] σ' H' s'/\tn i s'.8/\(∀b∈fp,H' b=none)/\cX ys its/\W i m ys H') ?_ m0
   #[0,[],_,H2,[],0,I3,st3,λb hb=>(f2 b hb).1,.nil,w0]
  rintro E n s4 ⟨i,ys,σ4,H4,its,k,I4,st4,fr4,rv,w4⟩
  have fpo:∀{pp:List (Addr×Obj)} {H':Hp},(∀p∈pp,p.1=s2.6)->(∀b∈fp,H' b=none)->∀b∈fp,lQ (yW X own capN scope #[s2,H2,fp,s2.6+1]) pp H' b:=λ{pp H'} hpp hn b hb=>by
   obtain e1|e2:=I4.ok.exf b hb;refine #[hn b hb,e1,I4.ok.exfs b hb,.inl hb,e2,λp hp=>?_];have hp':p∈pp:=by simpa [yW] using hp
   have l:=(hfp b hb).2;rw[hpp p hp'];exact λz=>gG _ (by rw[<- z] at l;exact l)
  have pinD:∀{its:List Value} {n:Nat},∀p∈[(s2.6,lobj its n)],p.1=s2.6:=λp hp=>by simp at hp;rw[hp]
  rcases turn i n ys H4 w4 with ⟨stop,hz,q⟩ | ⟨go,hlt,NY,NN,hNY,hNN,step⟩
  ·refine ib (T.done (yW X own capN scope #[s2,H2,fp,s2.6+1]) rfl rfl rfl rfl i _ s4 σ4 H4 E I4 (fpo pinD fr4) st4 stop) λr s5 #[hr,I5]=>?_
   subst hr;have pD:=I5.pin (s2.6,lobj its k) (by simp);have I6:=Sh (Z:=#[s2,H2,fp,s2.6+1]) I2 hfp (ah _) I5 rv hz
   have hC:upd H4 s2.heap.objs.size (.lst ys) (s2.6+1)=none:=by
    rw[aY (pW (iD _))];exact I5.free
   obtain m|hm|_:=I5.loc;exact fin _ _ s5 _ I6 (I2.fpOk (Dn _) hC) #[m,hm] (q _ pD.2.1)
  ·refine ib (T.item (yW X own capN scope #[s2,H2,fp,s2.6+1]) rfl rfl rfl rfl i _ s4 σ4 H4 E I4 (fpo pinD fr4) st4 go) λr s5 #[u,hr,h5]=>?_
   subst hr;refine ib h5 λ_ s6 #[x,H6,I6,r6,y6,st6,fr6]=>?_
   have I6':=(PB (Z:=#[s2,H2,fp,s2.6+1]) I2 B hcap hfp I6).pinned (fpo pinD fr6) (T.obj _ _ st6)
   have back:∀{σ7:St} {H7:Hp} {s7:Yo},Inv (yW X own capN scope #[s2,H2,fp,s2.6+1]) ([(s2.6,lobj its k)]++Ag fp s6.8) σ7 H7 s7 →
     Inv (yW X own capN scope #[s2,H2,fp,s2.6+1]) [(s2.6,lobj its k)] σ7 H7 s7/\tn (i+1) s7.8/\∀b∈fp,H7 b=none:=λ{σ7 H7 s7} I7=>by
    refine #[I7.unpinned,T.keep _ _ _ st6 λb hb o e=>(I7.pin (b,o) (b6 _ (b6 _ (sF hb e)))).1,λb hb=>?_];obtain o|e|d:=T.obj _ _ st6 b hb;exact (I7.pin (b,o) (b6 _ (b6 _ (sF hb e)))).2.1
   refine Ua (hg _ _ s6 _ H6 x u _ I6' r6 (step x H6 y6)) λ_ s7 #[σ7,H7,I7,q7]=>?_
   refine Ua (hf _ _ s7 σ7 H7 _ I7 q7) λok s8 #[H8,I8,q8]=>?_
   cases ok with
   | false =>
    rw[if_neg aV] at q8 ⊢;obtain m'|hm|w8:=hNN H8 q8;obtain J1|J2|J3:=back I8;exact #[m',hm,i+1,ys,σ7,H8,its,k,J1,J2,J3,rv,w8]
   | true =>
    rw[if_pos rfl] at q8 ⊢;refine Ua (he _ _ s8 σ7 H8 _ I8 q8) λz s9 #[y,H9,I9,r9,q9]=>?_
    obtain J1|J2|J3:=back I9;obtain m'|hm|w9:=hNY y H9 q9;have pD:=J1.pin (s2.6,lobj its k) (by simp);have hl:=rv.9;refine call_meets F.slot_list_append #[_,pD.1,rfl] F.entry_list_append (F.args_list_append_2 _ _) (PySem.list_append s2.heap.objs.size its.toArray k z (by rw[aM];lia)) #[pD.1,?_];have e9:=nk pD.1 (λa=>a.push z);have e9':(its.toArray.push z)=(its++[z]).5:=by simp
    rw[e9'] at e9;obtain ⟨n',e9⟩:∃n',(s9.heap.update s2.heap.objs.size (YQ λa=>a.push z)).get? s2.6=some (lobj (its++[z]) n'):=#[_,e9]
    have J4:Inv (yW X own capN scope #[s2,H2,fp,s2.6+1]) [] σ7 H9 { s9 with heap:=s9.heap.update s2.heap.objs.size (YQ λa=>a.push z),toks:=s9.toks } :=
     (J1.pins_of (pins':=[]) λp hp=>nomatch hp).turned (λb o hb e=>(YJ s9.heap _ (YI hb)).trans e) pD.2.1 pD.2.2.1 (.inr (ah _)) (λx c hx z=>by
      rcases kB (Z:=⟨s2,H2,fp,s2.6+1⟩) B I2 hx with ⟨_,m⟩ | ⟨_,_,m⟩
      ·have:=(hcl.empty _ _ m).2;have z':@Eq Nat c s2.6:=z
       lia
      ·have:=E3 (Z:=#[s2,H2,fp,s2.6+1]) I2 m;rw[z] at this;exact gG _ this) λp hp=>by simp [yW] at hp
    have nfp:∀b∈fp,b≠s2.6:=λb hb z=>by have:=(hfp b hb).2;rw[z] at this;exact gG _ this
    refine #[m',hm,i+1,ys++[y],σ7,H9,its++[z],n',J4.pins_of λp hp=>?_,T.keep _ _ _ J2 λb hb o e=>(YJ s9.heap _ (YI (nfp b hb))).trans e,J3,rv.append (.cons r9 .nil),w9];have ep:p=(s2.6,lobj (its++[z]) n'):=by simpa using hp
    rw[ep];exact #[e9,pD.2.1,pD.2.2.1,pD.2.2.2.1,λv z=>nomatch z]
 exact codeAny_compStart_list loop (T.self _ _ _ _ _ st3 loop)
theorem cu (own capN:List Str) (cap:List Nat) (hi:PI X tg iter wi) (hg:∀Z,PG (yW X own capN scope Z) tg g) (hf:∀Z,PF (yW X own capN scope Z) ifs tf) (he:∀Z,PE (yW X own capN scope Z) elt te)
  (h1:XO scope own capN=true:=by decide +kernel) (h2:C8 X.env capN=true:=by rfl) (hcap:yH X capN cap:=by rfl) (hc:X.calm=true:=by rfl) (hs:∀x,foldedSetIterable iter X.env x=pure x:=by intro _;rfl) :
  PE X (.ListComp elt [#[tg,iter,ifs,0]] scope pos) (FH wi own.9 cap g tf te):=by
 intro pins s σ H Q I h;rw[eval_ListComp];refine C5 (use:=none) hc (Bk.of h1 h2) hcap hi hg hf he hs I h λD C s' H' I' fC hm q=>?_
 obtain m|hm:=hm;refine #[m,hm,λh' hs'=>?_];obtain f0|f1|f2|f3|f4|f5:=fC;exact #[.ref D,H',I'.turned (t':=s'.toks) (λb o hb e=>(hs'.2 b hb).trans e) f0 f1 f3 f4 f5,rfl,q]
theorem jc (i:Nat) (own capN:List Str) (cap:List Nat) {x:Str} {pos' spos:Pos} (hN:X.N.Nodup) (hi':X.N[i]?=some x) (hx:X.env.scope.names.lookup x=some .local) (hi:PI X tg iter wi) (hg:∀Z,PG (yW X own capN scope Z) tg g) (hf:∀Z,PF (yW X own capN scope Z) ifs tf) (he:∀Z,PE (yW X own capN scope Z) elt te)
  (h1:XO scope own capN=true:=by decide +kernel) (h2:C8 X.env capN=true:=by rfl) (hcap:yH X capN cap:=by rfl) (hc:X.calm=true:=by rfl) (hs:∀x,foldedSetIterable iter X.env x=pure x:=by intro _;rfl)
  (hsw:swapsWith (.ListComp elt [#[tg,iter,ifs,0]] scope pos) (some (.Name x pos')) spos.line X.env=pure true:=by rfl) :
  PS X (.Assign [.Name x pos'] (.ListComp elt [#[tg,iter,ifs,0]] scope pos) spos) (NA (FH wi own.9 cap g tf te) (CZ i)):=by
 intro pins s σ H D I h;rw[exec_Assign_Name_used _ _ _ _ hsw];refine K0 (ZH (K0 ?_));rw[arm_evalThenUse_ListComp];refine K0 (C5 (Q:=λv H1=>D.nx (σ.set i (some v)) H1) (use:=some _) hc (Bk.of h1 h2) hcap hi hg hf he hs I h λL C s' H' I' fC hm q=>?_);obtain m|hm:=hm;obtain f0|f1|f2|f3|f4|f5:=fC;refine wpAny_assign_Name (Ct I' hN hi' (.inl hx) (v:=.ref L) rfl (λs'' I'' #[a,sb,ha]=>?_) (.inr hx))
 have hCa:C≠a:=by
  rcases ha with e | e
  ·rw[e];exact f1
  ·exact (f4 x a e).symm
 refine #[m,hm.at' λo e=>(sb.2 C hCa).trans e,λh' hs'=>?_];have I3:=I''.turned (h':=h') (t':=s''.toks) (λb o hb e=>(hs'.2 b hb).trans e) f0 f1 f3 f4 f5;exact Yp (Yp #[_,H',I3,q])
end
section
variable {K:FG9}
theorem eP (Pv:Nat->List V->Hp->Prop) (hz:xs.9<=YB) (h0:Pv 0 [] H) (hl:∀i ys H,i<=xs.9->Pv i ys H->br K H a xs)
  (hs:∀i x ys H,xs[i]?=some x->ys.9<=i->Pv i ys H->qN σ₀ g tf te x H (λy H'=>Pv (i+1) (ys++[y]) H') (λH'=>Pv (i+1) ys H'))
  (hd:∀ys H,ys.9<=xs.9->Pv xs.9 ys H->∀p,H p=none->Q (.ref p) (upd H p (.lst ys))):qX (SD K a) σ₀ g tf te Q H:=by
 refine #[λi m ys H=>m=xs.9 - i/\i<=xs.9/\ys.9<=i/\Pv i ys H,#[xs.9,by simp,a8 _,a8 _,h0],?_];rintro i m ys H ⟨rfl,hi,hy,p⟩;have q:=hl i ys H hi p;by_cases hlt:i < xs.9
 ·refine .inr #[#[xs,xs[i],q,by simp [hlt]],(),λy H'=>Pv (i+1) (ys++[y]) H',λH'=>Pv (i+1) ys H',λy H' p'=>#[xs.9 - (i+1),(),rfl,hlt,by rw[ao,aQ];lia,p'],λH' p'=>#[xs.9 - (i+1),(),rfl,hlt,(),p'],λx H' y=>?_];obtain e|y:=y;subst e;exact hs i x ys _ (y xs q) hy p
 ·have e:i=xs.9:=()
  subst e;exact .inl #[#[xs,q,ah _],(),hd ys H hy p]
theorem oY {lo:Int} (Pv:Nat->List V->Hp->Prop) (hz:n<=YB) (h0:Pv 0 [] H)
  (hs:∀i ys H,i < n->ys.9<=i->Pv i ys H->qN σ₀ g tf te (.int (lo+i)) H (λy H'=>Pv (i+1) (ys++[y]) H') (λH'=>Pv (i+1) ys H'))
  (hd:∀ys H,ys.9<=n->Pv n ys H->∀p,H p=none->Q (.ref p) (upd H p (.lst ys))):qX (Io lo n) σ₀ g tf te Q H:=by
 refine #[λi m ys H=>m=n - i/\i<=n/\ys.9<=i/\Pv i ys H,#[n,by simp,a8 _,a8 _,h0],?_];rintro i m ys H ⟨rfl,hi,hy,p⟩;by_cases hlt:i < n
 ·refine .inr #[hlt,(),λy H'=>Pv (i+1) (ys++[y]) H',λH'=>Pv (i+1) ys H',λy H' p'=>#[n - (i+1),(),rfl,hlt,by rw[ao,aQ];lia,p'],λH' p'=>#[n - (i+1),(),rfl,hlt,(),p'],λx H' y=>?_];obtain e|y:=y;subst e y;exact hs i ys _ hlt hy p
 ·have e:i=n:=()
  subst e;exact .inl #[ah _,(),hd ys H hy p]
end
open Nm
def fJ (i j:Int):Prop:=VN i j\/∃m n,Sz m i/\Sz n j/\m+n<=100000000
def sU (i j:Int):Prop:=j≠0/\Sz 8999000 j
theorem A3 (h:Sz k i):Y5.Int.intBits i<=k:=by
 unfold Y5.Int.intBits;by_cases e:i=0
 ·subst e;simp
 ·have e':(i == 0)=false:=by simpa using e
  rw[e'];have hn:i.natAbs≠0:=()
  have:=(Nat.log2_lt hn).mpr h;simp only[j6,if_false]
  lia
theorem fJ.ok (h:fJ i j):IntMulOk i j:=by
 rcases h with h | ⟨m,n,h1,h2,h3⟩
 ·exact h.ok
 ·exact .of_le (A3 h1) (A3 h2) (ag h3 ())
section
variable {X:Cx} {a b:Expr} {ta tb:TE} {pos:Pos}
theorem cN:yF X (binaryOp .Mult) (rI fJ λi j=>.int (i*j)):=X6 λ_ _ _ _ _ _ _ hc q=>mul_int q hc.ok
theorem kO (hs:X.stack=env :: l) (S:pU N ps sc) (he:env.scope=sc) (hb:env.builtins=builtinsNs) (hg:env.globals=YA) (ht:X.prog.given.tree=none) (hd:X.A.depth+Y5.pylongFrames < recursionLimit):yF X (binaryOp .FloorDiv) (rI sU λi j=>.int (i.fdiv j)):=by
 intro pins s σ H x y v u Q I rx ry h;obtain i|j|rfl|rfl|hc|q:=h;obtain t|rfl:=rx;obtain t'|rfl:=ry;refine floordiv_int hc.1 #[.int _,H,I.tok _,#[_,rfl],q] (.inr (PySem.PylongRoom.of I.nolimit hd (PySem.SeerAt.of (I.ok.mod.seer.keeps I.bk) ht (env:=env) (l:=l) (by rw[I.ok.frames,hs]) (by rw[he];exact S.gen) (by rw[he];exact S.co) hb hg)))
theorem wM (hr:kq k A):A.depth+Y5.pylongFrames < recursionLimit:=by have:=hr.dp;show A.depth+100 < _;lia
def V5 (t u:TS):TS:=λD σ H=>∃N:St->Hp->Prop,t { D with nx:=N } σ H/\∀σ' H',N σ' H'->u D σ' H'
theorem ku {st:Stmt} (h1:PS X st t) (h2:Dm X rest u):Dm X (st :: rest) (V5 t u):=by
 intro pins s σ H D I h;obtain N|h|k:=h;refine wpAny_execs_cons (ib (h1 pins s σ H { D with nx:=N } I h) λf s1 q=>?_);cases f with
 | next =>
  obtain σ'|H'|I'|q:=q;exact h2 pins s1 σ' H' D I' (k _ _ q)
 | ret v=>exact q
 | brk=>exact q
 | cont=>exact q
def S3 (K:FG9):V->V->Hp->VK->Prop:=λo i H Q=>∃p xs k v,o=.ref p/\i=.int k/\br K H p xs/\Iz xs k=some v/\Q v H
theorem OW:Xt X (S3 X.K):=by
 intro pins s σ H o i ov iv Q I ro ri h;obtain p|xs|k|z|rfl|rfl|hq|he|q:=h;cases ro;obtain t|rfl:=ri;obtain its|r|pl|hz:=I.list hq;obtain j|h1|h2|h3|h4|h5:=E4 he;obtain w|ew|rw':=r.get h2;have hl:=r.9;have hn:=AK;have fin:EP X pins σ Q w s:=#[z,H,I,rw',q];by_cases h0:0<=k
 ·have hj:k.toNat=j:=by
   rw[seqIndex_of h0 h5] at h1;exact bP h1
  exact wpAny_getItem_list pl.isList h0 () (by rw[hj];simpa using ew) fin
 ·have hj:(k+(its.5.7:Int)).toNat=j:=by
   rw[seqIndex_neg () h4] at h1;rw[aM,<- hl];exact bP h1
  exact wpAny_getItem_list_neg pl.isList () (by rw[aM] <;> lia) () (by rw[hj];simpa using ew) fin
def LK (K:FG9) (T:String):V->Hp->VK->Prop:=λx H Q=>∃t b,yo K H x t/\PySem.W.kitOne K t (.type T)=some b/\Q (.bl b) H
theorem xT {c:Str} {T:String} {p p2:Pos} (hg:Gl X "isinstance") (hm:X.mg "isinstance"=none) (hb:Zt c=some (.type T)) (hmc:X.mg c=none) (ha:PE X a ta) (hgc:Gl X c:=by rfl) (hn:c≠"__name__":=by decide)
  (hd:(c == ("__debug__":Str))=false:=by decide) (he:Yu [a,.Name c p2] X.env=[(false,eval a X.env),(false,eval (.Name c p2) X.env)]:=by rfl)
  (hpl:(ZK pos (Yu [.Name c p2] X.env)).any (·.1)=false:=by rfl) (he2:Yu [.Name c p2] X.env=[(false,eval (.Name c p2) X.env)]:=by rfl):PE X (.Call (.Name "isinstance" p) [a,.Name c p2] [] pos) (XJ (LK X.K T) ta):=by
 intro pins s σ H Q I h;refine YU (mJ I hg hm PyProof.Rows.boot_isinstance ?_);have hA:PA X [a,.Name c p2] (jQ ta (jQ (tC (.ty T)) Bn)):=gQ ha (gQ (Kw hgc hmc hb rfl hn hd) jx he2) (by rw[he,he2])
 have hq:jQ ta (jQ (tC (.ty T)) Bn) σ H (λvs H1=>∃x,vs=[x,.ty T]/\LK X.K T x H1 Q):=by
  show ta σ H λx H1=>∃x',[x,V.ty T]=[x',V.ty T]/\LK X.K T x' H1 Q
  have e:(λx H1=>∃x',[x,V.ty T]=[x',V.ty T]/\LK X.K T x' H1 Q)=λx H1=>LK X.K T x H1 Q:=by
   funext x H1;apply propext;constructor
   ·rintro ⟨x',e,q⟩;cases e;exact q
   ·intro q;exact #[x,rfl,q]
  rw[e];exact h
 refine Zq (ib (hA pos pins s σ H _ I hq) λus s1 #[vs,H1,I1,r1,x,e,q1]=>?_) (by rw[he,he2]) hpl;subst e;obtain u|w'|rfl|ru|rt:=vals2 r1;cases rt;obtain t|bb|ty|ek|q:=q1;exact CW I1 ru ty ek λtk=>#[.bl bb,H1,I1.tok tk,rfl,q]
end
structure Kind (α:Type) [DecidableEq α] where
 R:FG9->Hp->V->α->Prop
 d:Nat
 inj:∀{X:Cx} {pins:List (Addr×Obj)} {σ:St} {H:Hp} {s:Yo} {x:V} {a b:α},Inv X pins σ H s->R X.K H x a->R X.K H x b->a=b
 rc:∀{X:Cx} {pins:List (Addr×Obj)} {σ:St} {H:Hp} {s:Yo} {x y:V} {v u:Value} {a b:α} {A:Y3},Inv X pins σ H s->RelV x v->RelV y u->R X.K H x a->R X.K H y b->A.units+d < cLine->Zu A s v u (decide (a=b))
 ne:∀{X:Cx} {pins:List (Addr×Obj)} {σ:St} {H:Hp} {s:Yo} {x y:V} {v u:Value} {a b:α} {A:Y3},Inv X pins σ H s->RelV x v->RelV y u->R X.K H x a->R X.K H y b->A.units+d < cLine->Zv A s v u (!decide (a=b))
 eq:∀{X:Cx} {pins:List (Addr×Obj)} {σ:St} {H:Hp} {s:Yo} {x y:V} {v u:Value} {a b:α} {A:Y3},Inv X pins σ H s->RelV x v->RelV y u->R X.K H x a->R X.K H y b->A.units+d < cLine->YF A s v u (decide (a=b))
def X9:Kind Int where
 R:=λ_ _ x i=>x=.int i
 d:=0
 inj:=λ_ h1 h2=>by rw[h1] at h2;cases h2;rfl
 rc:=λ{X pins σ H s x y v u a b A} I rx ry h1 h2 _=>by
  subst h1 h2;obtain t|rfl:=rx;obtain t'|rfl:=ry;have q:=Zu.int_int (A:=A) (s:=s) a t b t';rwa [iM] at q
 ne:=λ{X pins σ H s x y v u a b A} I rx ry h1 h2 _=>by
  subst h1 h2;obtain t|rfl:=rx;obtain t'|rfl:=ry;have q:=Zv.int_int (A:=A) (s:=s) a t b t';rwa [iM] at q
 eq:=λ{X pins σ H s x y v u a b A} I rx ry h1 h2 _=>by
  subst h1 h2;obtain t|rfl:=rx;obtain t'|rfl:=ry;have q:=YF.int_int (A:=A) (s:=s) a t b t';rwa [iM] at q
theorem mG {α β:Type} {F:α->β->Prop}:∀{l1:List α} {l2:List β} {i:Nat} (_:Yt F l1 l2) (h1:i < l1.9) (h2:i < l2.9),F l1[i] l2[i]
 | _,_,_,.nil,h1,_=>absurd h1 (cP _)
 | _,_,0,.cons r _,_,_=>r
 | _,_,i+1,.cons _ t,h1,h2=>mG (i:=i) t (Nat.lt_of_succ_lt_succ h1) (Nat.lt_of_succ_lt_succ h2)
theorem oQ {α β:Type} {F:α->β->Prop} (hF:∀a b x,F a x->F b x->a=b):∀{l1 l2:List α} {l:List β},Yt F l1 l->Yt F l2 l->l1=l2
 | _,_,_,.nil,.nil=>rfl
 | _,_,_,.cons r t,.cons r' t'=>by rw[hF _ _ _ r r',oQ hF t t']
theorem wQ {α:Type} [DecidableEq α] (as bs:List α) (h:as.9=bs.9):(Yq as.9).all (λj=>decide (as[j]?=bs[j]?))=decide (as=bs):=by
 rw[oy,rh,decide_eq_true_iff];constructor
 ·intro q;apply pZ;intro i;by_cases hi:i < as.9
  ·exact of_decide_eq_true (q i (dh.mpr hi))
  ·rw[aG (),aG ()]
 ·rintro rfl i _;simp
section
variable {α:Type} [DecidableEq α] (k:Kind α)
theorem Kind.items {X:Cx} {pins:List (Addr×Obj)} {σ:St} {H:Hp} {s:Yo} {A:Y3} (I:Inv X pins σ H s) (hA:A.units+k.d < cLine) {xs ys:List V} {us ws:List Value} {as bs:List α}
  (rx:cX xs us) (ry:cX ys ws) (ha:Yt (λa x=>k.R X.K H x a) as xs) (hb:Yt (λa x=>k.R X.K H x a) bs ys) :
  ∀j (h1:j < us.5.7) (h2:j < ws.5.7),YF A s us.5[j] ws.5[j] (decide (as[j]?=bs[j]?)):=λj h1 h2=>by
 have l1:j < us.9:=by simpa using h1
 have l2:j < ws.9:=by simpa using h2
 have e1:=rx.9;have e2:=ry.9;have e3:=ha.9;have e4:=hb.9;obtain u|hu|ru:=rx.get (i:=j) (x:=xs[j]'()) (by simp);obtain w|hw|rw':=ry.get (i:=j) (x:=ys[j]'()) (by simp);have q:=k.eq (A:=A) I ru rw' (mG ha () ()) (mG hb () ()) hA
 have eu:us.5[j]=u:=by
  have:=hu;rw[ae l1] at this;simpa using this
 have ew:ws.5[j]=w:=by
  have:=hw;rw[ae l2] at this;simpa using this
 rw[eu,ew,ae (show j < as.9 by lia),ae (show j < bs.9 by lia)];have e5:decide (some as[j]=some bs[j])=decide (as[j]=bs[j]):=by simp
 rw[e5];exact q
theorem Dy {α:Type} [DecidableEq α] (as bs:List α) {n m:Nat} (h1:as.9=n) (h2:bs.9=m):((Yq (min n m)).all (λj=>decide (as[j]?=bs[j]?)) && n == m)=decide (as=bs):=by
 subst h1 h2;by_cases e:as.9=bs.9
 ·rw[show min as.9 bs.9=as.9 by lia,wQ as bs e];simp [e]
 ·have h1:(as.9 == bs.9)=false:=by simpa using e
  rw[h1,Bool.and_false];exact (decide_eq_false λz=>e (by rw[z])).symm
def X8:Kind (List α) where
 R:=λK H x as=>∃p xs,x=.ref p/\pA K H p xs/\Yt (λa x=>k.R K H x a) as xs
 d:=k.d+1
 inj:=λ{X pins σ H s x a b} I h1 h2=>by
  obtain p|xs|rfl|hp|pa:=h1;obtain q|ys|e|hq|pb:=h2;cases e;have e:=I.tuple_inj hp hq;subst e;exact oQ (F:=λa x=>k.R X.K H x a) (λa b x=>k.inj I) pa pb
 rc:=λ{X pins σ H s x y v u a b A} I rx ry h1 h2 hA=>by
  obtain p|xs|rfl|hp|pa:=h1;obtain q|ys|rfl|hq|pb:=h2;cases rx;cases ry;obtain us|r1|t1|_:=I.tuple hp;obtain ws|r2|t2|_:=I.tuple hq;have z:=Zu.tuples (A:=A) (e:=λj=>decide (a[j]?=b[j]?)) (show s.heap.IsTuple p us.toArray from t1) (show s.heap.IsTuple q ws.toArray from t2) () (k.items (A:=A.in1) I (by show A.units+1+k.d < cLine;lia) r1 r2 pa pb);rwa [Dy a b (by rw[pa.9,r1.9];simp) (by rw[pb.9,r2.9];simp)] at z
 ne:=λ{X pins σ H s x y v u a b A} I rx ry h1 h2 hA=>by
  obtain p|xs|rfl|hp|pa:=h1;obtain q|ys|rfl|hq|pb:=h2;cases rx;cases ry;obtain us|r1|t1|_:=I.tuple hp;obtain ws|r2|t2|_:=I.tuple hq;have z:=Zv.tuples (A:=A) (e:=λj=>decide (a[j]?=b[j]?)) (show s.heap.IsTuple p us.toArray from t1) (show s.heap.IsTuple q ws.toArray from t2) () (k.items (A:=A.in1) I (by show A.units+1+k.d < cLine;lia) r1 r2 pa pb);rwa [Dy a b (by rw[pa.9,r1.9];simp) (by rw[pb.9,r2.9];simp)] at z
 eq:=λ{X pins σ H s x y v u a b A} I rx ry h1 h2 hA=>by
  obtain p|xs|rfl|hp|pa:=h1;obtain q|ys|rfl|hq|pb:=h2;cases rx;cases ry;by_cases e:p=q
  ·subst e;have e:=I.tuple_inj hp hq;subst e;rw[oQ (F:=λa x=>k.R X.K H x a) (λa b x=>k.inj I) pa pb,decide_eq_true rfl];exact YF.same _
  ·obtain us|r1|t1|_:=I.tuple hp;obtain ws|r2|t2|_:=I.tuple hq;have z:=Zu.tuples (A:=A) (e:=λj=>decide (a[j]?=b[j]?)) (show s.heap.IsTuple p us.toArray from t1) (show s.heap.IsTuple q ws.toArray from t2) () (k.items (A:=A.in1) I (by show A.units+1+k.d < cLine;lia) r1 r2 pa pb);rw[Dy a b (by rw[pa.9,r1.9];simp) (by rw[pb.9,r2.9];simp)] at z;exact .of_refs e z
theorem Jo {X:Cx} {pins:List (Addr×Obj)} {σ:St} {H:Hp} {s:Yo} {p q:Addr} {xs ys:List V} {a b:List α} {A:Y3} (I:Inv X pins σ H s) (hp:br X.K H p xs) (hq:br X.K H q ys)
  (pa:Yt (λa x=>k.R X.K H x a) a xs) (pb:Yt (λa x=>k.R X.K H x a) b ys) (hA:A.units+(k.d+1) < cLine) :
  Zu A s (.ref p) (.ref q) (decide (a=b))/\Zv A s (.ref p) (.ref q) (!decide (a=b)):=by
 obtain us|r1|t1|_:=I.list hp;obtain ws|r2|t2|_:=I.list hq;have l1:=r1.9;have l2:=r2.9;have l3:=pa.9;have l4:=pb.9;by_cases e:us.9=ws.9
 ·have it:=k.items (A:=A.in1) I (by show A.units+1+k.d < cLine;lia) r1 r2 pa pb;have z:=Zu.lists (A:=A) (e:=λj=>decide (a[j]?=b[j]?)) t1.isList t2.isList (by simpa using e) () it;have z2:=Zv.lists (A:=A) (e:=λj=>decide (a[j]?=b[j]?)) t1.isList t2.isList (by simpa using e) () it;have e1:us.5.7=a.9:=by rw[aM];lia
  rw[e1,wQ a b ()] at z z2;exact #[z,z2]
 ·have hne:¬a=b:=λz=>e (by have:=congrArg Zs z;lia)
  rw[decide_eq_false hne];exact #[Zu.lists_lengths t1.isList t2.isList (by simpa using e) (),Zv.lists_lengths t1.isList t2.isList (by simpa using e) ()]
def WM:Kind (List α) where
 R:=λK H x as=>∃p xs,x=.ref p/\br K H p xs/\Yt (λa x=>k.R K H x a) as xs
 d:=k.d+1
 inj:=λ{X pins σ H s x a b} I h1 h2=>by
  obtain p|xs|rfl|hp|pa:=h1;obtain q|ys|e|hq|pb:=h2;cases e;have e:=I.list_inj hp hq;subst e;exact oQ (F:=λa x=>k.R X.K H x a) (λa b x=>k.inj I) pa pb
 rc:=λ{X pins σ H s x y v u a b A} I rx ry h1 h2 hA=>by
  obtain p|xs|rfl|hp|pa:=h1;obtain q|ys|rfl|hq|pb:=h2;cases rx;cases ry;exact (Jo k I hp hq pa pb hA).1
 ne:=λ{X pins σ H s x y v u a b A} I rx ry h1 h2 hA=>by
  obtain p|xs|rfl|hp|pa:=h1;obtain q|ys|rfl|hq|pb:=h2;cases rx;cases ry;exact (Jo k I hp hq pa pb hA).2
 eq:=λ{X pins σ H s x y v u a b A} I rx ry h1 h2 hA=>by
  obtain p|xs|rfl|hp|pa:=h1;obtain q|ys|rfl|hq|pb:=h2;cases rx;cases ry;by_cases e:p=q
  ·subst e;have e:=I.list_inj hp hq;subst e;rw[oQ (F:=λa x=>k.R X.K H x a) (λa b x=>k.inj I) pa pb,decide_eq_true rfl];exact YF.same _
  ·exact .of_refs e (Jo k I hp hq pa pb hA).1
def Kind.via {β:Type} [DecidableEq β] (f:β->α) (fi:∀a b,f a=f b->a=b) (R':FG9->Hp->V->β->Prop) (im:∀{K H x b},R' K H x b->k.R K H x (f b)):Kind β where
 R:=R'
 d:=k.d
 inj:=λI h1 h2=>fi _ _ (k.inj I (im h1) (im h2))
 rc:=λ{X pins σ H s x y v u a b A} I rx ry h1 h2 hA=>by
  have z:=k.rc (A:=A) I rx ry (im h1) (im h2) hA;rwa [decide_eq_decide.mpr (show f a=f b↔a=b from #[fi a b,λe=>by rw[e]])] at z
 ne:=λ{X pins σ H s x y v u a b A} I rx ry h1 h2 hA=>by
  have z:=k.ne (A:=A) I rx ry (im h1) (im h2) hA;rwa [decide_eq_decide.mpr (show f a=f b↔a=b from #[fi a b,λe=>by rw[e]])] at z
 eq:=λ{X pins σ H s x y v u a b A} I rx ry h1 h2 hA=>by
  have z:=k.eq (A:=A) I rx ry (im h1) (im h2) hA;rwa [decide_eq_decide.mpr (show f a=f b↔a=b from #[fi a b,λe=>by rw[e]])] at z
end
def Il (K:FG9) (H:Hp) (x:V) (n:Int×Int):Prop:=∃p,x=.ref p/\pA K H p [.int n.1,.int n.2]
def WL:Kind (Int×Int):=(X8 X9).via (λn=>[n.1,n.2]) (λa b e=>by cases a;cases b;simp at e;rw[e.1,e.2]) Il λ#[p,e,h]=>#[p,_,e,h,.cons rfl (.cons rfl .nil)]
def X3 (K:FG9):R2:=λx y H Q=>∃(α:Type) (_:DecidableEq α) (k:Kind α) (a b:α),k.d<=50/\k.R K H x a/\k.R K H y b/\Q (.bl (decide (a=b))) H
def Ww (K:FG9):R2:=λx y H Q=>∃(α:Type) (_:DecidableEq α) (k:Kind α) (a b:α),k.d<=50/\k.R K H x a/\k.R K H y b/\Q (.bl (!decide (a=b))) H
theorem xU (hu:X.A.units+50 < cLine):yF X (Zh .Eq) (X3 X.K):=by
 intro pins s σ H x y v u Q I rx ry h;obtain α|_|k|a|b|hd|ha|hb|q:=h;exact k.rc (A:=X.A) I rx ry ha hb () _ _ _ _ #[.bl (decide (a=b)),H,I,rfl,q]
theorem Ed (hu:X.A.units+50 < cLine):yF X (Zh .NotEq) (Ww X.K):=by
 intro pins s σ H x y v u Q I rx ry h;obtain α|_|k|a|b|hd|ha|hb|q:=h;exact k.ne (A:=X.A) I rx ry ha hb () _ _ _ _ #[.bl (!decide (a=b)),H,I,rfl,q]
theorem BK (hr:kq k A):A.units+50 < cLine:=by have:=hr.units;lia
def Inner (H:Hp) (p q:Addr):Prop:=∃a b c:Int,H p=some (.lst [.int a,.int b,.int c,.ref q])
def dD (p:Addr) (H H':Hp):Prop:=(∀b o,H b=some o->b≠p->H' b=some o)/\∀q,Inner H p q->Inner H' p q
theorem dD.refl (H:Hp):dD p H H:=#[λ_ _ h _=>h,λ_ h=>h]
theorem dD.trans (a:dD p H H1) (b:dD p H1 H2):dD p H H2:=#[λc o h n=>b.1 c o (a.1 c o h n) n,λq h=>b.2 q (a.2 q h)]
theorem Inner.inj (h:Inner H p q) (h':Inner H p q'):q=q':=by
 obtain a|b|c|e:=h;obtain a'|b'|c'|e':=h';rw[e] at e';have:=HO.lst.inj (bP e');simp at this;exact this.2.2.2
theorem dD.set (h:H p=some (.lst [.int a,.int b,.int c,.ref q])):dD p H (upd H p (.lst [.int a',.int b',.int c',.ref q])) :=
 #[λb u h n=>by rw[aY n];exact h,λq' h'=>by
  rw[(Inner.inj #[a,b,c,h] h').symm];exact #[a',b',c',aD]]
theorem aE.upto (h:aE H H'):dD p H H':=#[λb o e _=>h b o e,λq #[a,b,c,e]=>#[a,b,c,h _ _ e]]
theorem aE.new (h:H p=Zg):aE H (upd H p o):=λb u e=>by rw[aY (hZ e h)];exact e
theorem aE.sqt {K:FG9} (e:aE H H') (h:pA K H a xs):pA K H' a xs:=by
 rcases h with (h | ⟨o,h⟩) | h
 ·exact .inl (.inl (e _ _ h))
 ·exact .inl (.inr #[o,e _ _ h])
 ·exact .inr h
theorem aE.num {K:FG9} (e:aE H H') (h:Il K H x n):Il K H' x n:=by obtain p|q|r:=h;exact #[p,q,e.sqt r]
section
variable {σ:St} {H:Hp} {D:Ends}
theorem nD {t:TS} (e:σ0=σ) (h:t D σ H):t D σ0 H:=by rw[e];exact h
theorem Qy (h:D.nx σ H):SM D σ H:=h
theorem UK {g:TG} (h:te σ H λx H1=>g x σ H1 D.nx):NA te g D σ H:=h
theorem N8 (h:Q (σ.set i (some v)) H):CZ i v σ H Q:=h
theorem Uu (h:te σ H D.rt):V7 te D σ H:=h
theorem UD (h:c σ H λb H1=>if b=true then t D σ H1 else u D σ H1):Wd c t u D σ H:=h
theorem QK (h:te σ H λ_ H1=>D.nx σ H1):SQ te D σ H:=h
theorem Uv (h:ta σ H λvs H1=>∃v w,vs=[v,w]/\D.nx ((σ.set i (some v)).set j (some w)) H1):V8 i j ta D σ H:=h
theorem QP 
  (h:to σ H λo H1=>ti σ H1 λi H2=>tget o i H2 λx H3=>te σ H3 λy H4=>tip x y H4 λz H5=>tset o i z H5 λH6=>D.nx σ H6):SS to ti te tget tip tset D σ H:=h
theorem UC (h:Q (.int (f i j)) H):ipI f (.int i) (.int j) H Q:=#[i,j,rfl,rfl,h]
theorem UG {g:TG} (h:wi σ H λJ H1=>∃W:Nat->Nat->St->Hp->Prop,(∃m,W 0 m σ H1)/\∀i m σ H,W i m σ H →
  (J.stop i H/\D.nx σ H)\/(J.go i H/\∃N:St->Hp->Prop,(∀σ' H',N σ' H'->∃m',m' < m/\W (i+1) m' σ' H')/\∀x H',J.yld i H x H'->g x σ H' λσ2 H2=>tb { D with nx:=N,ct:=N,bk:=D.nx } σ2 H2)):We wi g tb D σ H:=h
variable {Q:VK} {QA:List V->Hp->Prop} {QB:Bool->Hp->Prop}
theorem Ur (e:σ[i]?=some (some v)) (h:Q v H):Ub i σ H Q:=#[v,e,h]
theorem XX (h:Q v H):tC v σ H Q:=h
theorem Wp (h:ta σ H λx H1=>tb σ H1 λy H2=>r x y H2 Q):V9 r ta tb σ H Q:=h
theorem Wl (h:ta σ H λx H1=>r x H1 Q):XJ r ta σ H Q:=h
theorem Ws {g:Int->Int->V} (h:Q (g i j) H):QT g (.int i) (.int j) H Q:=#[i,j,rfl,rfl,h]
theorem fW {g:Int->Int->V} (hc:C i j) (h:Q (g i j) H):rI C g (.int i) (.int j) H Q:=#[i,j,rfl,rfl,hc,h]
theorem XY {g:Int->V} (h:Q (g i) H):rU g (.int i) H Q:=#[i,rfl,h]
theorem UJ (h:Q (.bl (decide (i=j))) H):X4 (.int i) (.int j) H Q:=#[rfl,by
 have e:decide (V.int i=V.int j)=decide (i=j):=by simp
 rw[e];exact h]
theorem Uy (h:Q (.bl (!decide (i=j))) H):XZ (.int i) (.int j) H Q:=#[rfl,by
 have e:decide (V.int i=V.int j)=decide (i=j):=by simp
 rw[e];exact h]
theorem UI (h:Q (.bl (decide (i=j))) H):X4 (.str i) (.str j) H Q:=#[rfl,by
 have e:decide (V.str i=V.str j)=decide (i=j):=by simp
 rw[e];exact h]
theorem Qt (h:t σ H λx H'=>∃k,x=.bl k/\QB k H'):SI t σ H QB:=h
theorem Wm (h:t σ H λx H'=>∃k,x=.bl k/\QB k H'):tB t σ H QB:=h
theorem UL (h:t σ H λc H1=>if c=true then u σ H1 QB else QB false H1):Wf t u σ H QB:=h
theorem Wo (h:t σ H λc H1=>if c=true then QB true H1 else u σ H1 QB):tOr t u σ H QB:=h
theorem Uw (h:t σ H λc H1=>QB (!c) H1):Wa t σ H QB:=h
theorem QQ (h:t σ H λx H1=>∃c,x=.bl c/\if c=true then u σ H1 Q else Q (.bl false) H1):SU t u σ H Q:=h
theorem Qx (h:t σ H λx H1=>∃c,x=.bl c/\Q (.bl (!c)) H1):SK t σ H Q:=h
theorem UE (h:c σ H λb H1=>if b=true then ta σ H1 Q else tb σ H1 Q):tIf c ta tb σ H Q:=h
theorem Uq (h:QB true H):VY σ H QB:=h
theorem Ux (h:QA [] H):Bn σ H QA:=h
theorem QL (h:ta σ H λx H1=>tr σ H1 λxs H2=>QA (x :: xs) H2):jQ ta tr σ H QA:=h
theorem QN (h:t σ H λvs H1=>sp vs H1 Q E):Nz sp [] E t σ H Q:=by
 have e:(λvs H1=>sp (vs++[]) H1 Q E)=λvs H1=>sp vs H1 Q E:=by funext vs H1;rw[fK]
 show t σ H λvs H1=>sp (vs++[]) H1 Q E
 rw[e];exact h
theorem Wq (h:t σ H λvs H1=>r vs H1 Q):XW r t σ H Q:=h
theorem UB {K:FG9} (hx:pA K H p xs) (e:Iz xs i=some v) (h:Q v H):UN K (.ref p) (.int i) H Q:=#[p,xs,i,v,rfl,rfl,hx,e,h]
theorem b7 {K:FG9} (hx:br K H p xs) (e:Iz xs i=some v) (h:Q v H):UO K (.ref p) (.int i) H Q:=#[p,xs,i,v,rfl,rfl,hx,e,h]
theorem QJ {K:FG9} (hx:br K H p xs) (e:Iz xs i=some v) (h:Q v H):S3 K (.ref p) (.int i) H Q:=#[p,xs,i,v,rfl,rfl,hx,e,h]
theorem fg (hx:H p=some (.lst xs)) (e:M4 xs.9 i=some j) (ey:xs.set j v=ys) (h:QH (upd H p (.lst ys))):S0 (.ref p) (.int i) v H QH:=#[p,xs,i,j,rfl,rfl,hx,e,by rw[ey];exact h]
theorem QG (h:to σ H λo H1=>ti σ H1 λi H2=>t o i v H2 λH3=>QS σ H3):WX to ti t v σ H QS:=h
theorem Oa (h:t v σ H λσ' H'=>u r σ' H' QS):Tg t u (v :: r) σ H QS:=#[v,r,rfl,h]
theorem QI (h:QS σ H):WY [] σ H QS:=#[rfl,h]
theorem QF {K:FG9} (hx:pA K H a xs) (hl:xs.9=n) (h:t xs σ H QS):Vl K n t (.ref a) σ H QS:=#[a,xs,rfl,hx,hl,h]
theorem Wn (h:te σ H λx H1=>tl σ H1 λl H2=>th σ H2 λu H3=>r x l u H3 Q):tSl r te tl th σ H Q:=h
theorem LJ (h:QO none H):Kj σ H QO:=h
theorem Qw (h:t σ H λx H1=>∃i,x=.int i/\QO (some i) H1):SJ t σ H QO:=h
variable {R:It->Hp->Prop} {K:FG9}
theorem N6 (h:tl σ H λx H1=>∃a,x=.ref a/\(∃xs,br K H1 a xs)/\R (SD K a) H1):OR K tl σ H R:=h
theorem QE (h:tl σ H λx H1=>∃a,x=.ref a/\(∃xs,pA K H1 a xs)/\R (VR K a) H1):WR K tl σ H R:=h
theorem N5 (h:ta σ H λvs H1=>∃j:Int,vs=[.int j]/\-(2^62)<=j/\j < 2^62/\R (Io 0 j.toNat) H1):Td ta σ H R:=h
theorem N3 (h:ta σ H λvs H1=>∃i j:Int,vs=[.int i,.int j]/\(-(2^62)<=i/\i < 2^62/\-(2^62)<=j/\j < 2^62)/\R (Io i (j - i).toNat) H1):Tc ta σ H R:=h
theorem QM {g:TG} (e:MW k cap σ=σ₀) (h:wi σ H λJ H1=>qX J σ₀ g tf te Q H1):FH wi k cap g tf te σ H Q:=by
 unfold FH;rw[e];exact h
theorem Qs {g:TG} {NY:V->Hp->Prop} (h:g x σ H λσ2 H2=>tf σ2 H2 λb H3=>if b=true then te σ2 H3 NY else NN H3):qN σ g tf te x H NY NN:=h
theorem Wr (h:to σ H λx H1=>XT K T x H1/\t σ H1 λxs H2=>r x xs H2 Q):tBM K T r to t σ H Q:=h
def Xu (Q:VK) (xs:List V) (H:Hp):Prop:=xs.9<=YB/\∀p,H p=none->Q (.ref p) (upd H p (.tup xs))
def Xv (Q:VK) (xs:List V) (H:Hp):Prop:=xs.9<=YB/\∀p,H p=none->Q (.ref p) (upd H p (.lst xs))
theorem Us (h:t σ H (Xu Q)):VZ t σ H Q:=h
theorem UA (h:t σ H (Xv Q)):Wc t σ H Q:=h
theorem jR (h:Nat.ble n 1000=true):n<=YB:=dH (dk (Nat.le_of_ble_eq_true h))
theorem cw {xs:List V} (h:∀p H',aE H H'->H' p=some (.tup xs)->Q (.ref p) H') (hl:Nat.ble xs.9 1000=true:=by rfl):Xu Q xs H :=
 #[jR hl,λp hp=>h p _ (aE.new hp) aD]
theorem dU {xs:List V} (h:∀p H',aE H H'->H p=none->H' p=some (.lst xs)->Q (.ref p) H') (hl:Nat.ble xs.9 1000=true:=by rfl):Xv Q xs H :=
 #[jR hl,λp hp=>h p _ (aE.new hp) hp aD]
theorem WO {A B:Prop} (h:B):if (!true)=true then A else B:=RD h
theorem WQ {A B:Prop} (h:A):if (!false)=true then A else B:=WN h
def WB (tb:TS) (D:Ends) (Pv:St->Hp->Prop) (μ:St->Hp->Nat) (n:Nat) (σ:St) (H:Hp):Prop:=∃N:St->Hp->Prop,(∀σ' H',N σ' H'->∃m',m' < n/\(m'=μ σ' H'/\Pv σ' H'))/\tb { D with nx:=N,ct:=N,bk:=D.nx } σ H
theorem SY (h:tb { D with nx:=λσ' H'=>Pv σ' H'/\μ σ' H' < n,ct:=λσ' H'=>Pv σ' H'/\μ σ' H' < n,bk:=D.nx } σ H):WB tb D Pv μ n σ H :=
 #[_,λσ' H' #[p,l]=>#[_,l,rfl,p],h]
theorem za (Pv:St->Hp->Prop) (μ:St->Hp->Nat) (h0:Pv σ H) (hs:∀σ H,Pv σ H->c σ H λb H1=>if b=true then WB tb D Pv μ (μ σ H) σ H1 else D.nx σ H1):Nv c tb D σ H:=by
 refine #[λm σ H=>m=μ σ H/\Pv σ H,#[_,rfl,h0],?_];rintro m σ H ⟨rfl,p⟩;exact hs σ H p
end
def kH (H:Hp) (p:Addr):Prop:=∃(q:Addr) (a b c:Int) (cs:List Int),H p=some (.lst [.int a,.int b,.int c,.ref q])/\H q=some (.lst (cs.map V.int))/\0<=a/\0<=c/\c<=(cs.9:Int)/\∀x∈cs,(0:Int)<=x
theorem MI {H:Hp} {cs:List Int} (hp:H p=some (.lst [.int a,.int b,.int c,.ref q])) (hq:H q=some (.lst (cs.map V.int))):q≠p:=λe=>by
 rw[e,hp] at hq;have h:=HO.lst.inj (bP hq);cases cs with
 | nil=>cases h
 | cons x1 cs=>cases cs with
  | nil=>cases h
  | cons x2 cs=>cases cs with
   | nil=>cases h
   | cons x3 cs=>cases cs with
    | nil=>cases h
    | cons x4 cs=>simp at h
theorem kH.same (h:kH H p) (e:aE H H'):kH H' p:=by obtain q|a|b|c|cs|h1|h2|r:=h;exact #[q,a,b,c,cs,e _ _ h1,e _ _ h2,r]
theorem dD.tup {H H':Hp} {p r:Addr} {xs:List V} (u:dD p H H') (B:kH H p) (h:H r=some (.tup xs)):H' r=some (.tup xs):=by
 obtain q|a|b|c|cs|h1|_:=B;exact u.1 r _ h λe=>by rw[e,h1] at h;cases h
theorem dD.other (u:dD p H H') (n:r≠p) (h:H r=some o):H' r=some o:=u.1 r _ h n
theorem kH.inner (h:kH H p):∃q,Inner H p q/\∃xs,H q=some (.lst xs):=by obtain q|a|b|c|cs|h1|h2|_:=h;exact #[q,#[a,b,c,h1],_,h2]
theorem kH.upd (h:kH H p) (hi:Inner H p q) (n1:r≠p) (n2:r≠q):kH (L2.upd H r o) p:=by
 obtain q'|a|b|c|cs|h1|h2|z:=h;have e:q'=q:=Inner.inj #[a,b,c,h1] hi;subst e;exact #[q',a,b,c,cs,by rw[aY n1.symm];exact h1,by rw[aY n2.symm];exact h2,z]
theorem Inner.upd (hi:Inner H p q) (n1:r≠p):Inner (L2.upd H r o) p q:=by obtain a|b|c|h:=hi;exact #[a,b,c,by rw[aY n1.symm];exact h]
def Qm:Sp:=λvs H Q _=>∃p n,vs=[.ref p,.int n]/\kH H p/\0 < n/\n < 2^64/\∀v H',0<=v->v < n->kH H' p->dD p H H'->Q (.int v) H'
inductive NK (K:FG9) (vs:List V) (H:Hp) (Q:VK) (E9:XK):Prop
 | mk (a:Addr) (ns:List Int):vs=[.ref a]->br K H a (ns.map V.int)->ns.9<=63->(∀p H',H p=none->kH H' p->aE H H'->Q (.ref p) H')->NK K vs H Q E9
inductive zS (K:FG9) (vs:List V) (H:Hp) (Q:VK) (E9:XK):Prop
 | mk (a:Addr) (ns:List Int):vs=[.ref a]->br K H a (ns.map V.int)->ns.9<=63->(∀H',Q (.bl true) H')->zS K vs H Q E9
def Um:Sp:=λvs H Q _=>∃t b,vs=[.int t,.int b]/\0 < b/\Sz 8999000 b/\∀r H',aE H H'->H' r=some (.tup [.int (lo t b),.int (hi t b)])->Q (.ref r) H'
def Wh:Sp:=λvs H Q _=>∃a b,vs=[.int a,.int b]/\Q (.int (g a b)) H
def Lz:Sp:=λvs H Q _=>∃t b,vs=[.int t,.int b]/\b≠0/\Sz 8999000 b/\∀r H',aE H H'->H' r=some (.tup [.int (lo (if b < 0 then -t else t) (if b < 0 then -b else b)),.int (hi (if b < 0 then -t else t) (if b < 0 then -b else b))])->Q (.ref r) H'
def Tj (a b c d:Int):Int:=a*d+c*b
def O5 (a b c d:Int):Int:=a*d - c*b
def O4 (a _b c _d:Int):Int:=a*c
def Kr (K:FG9) (f:Int->Int->Int->Int->Int):Sp:=λvs H Q _=>∃p q a b c d,vs=[.ref p,.ref q]/\pA K H p [.int a,.int b]/\pA K H q [.int c,.int d]/\0 < b/\0 < d/\Sz 4000000 a/\Sz 4000000 b/\Sz 4000000 c/\Sz 4000000 d /\
 ∀r H',aE H H'->H' r=some (.tup [.int (lo (f a b c d) (b*d)),.int (hi (f a b c d) (b*d))])->Q (.ref r) H'
def Qn (K:FG9):Sp:=λvs H Q _=>∃p q a b c d,vs=[.ref p,.ref q]/\pA K H p [.int a,.int b]/\pA K H q [.int c,.int d]/\0 < b/\0 < d/\c≠0/\Sz 4000000 a/\Sz 4000000 b/\Sz 4000000 c/\Sz 4000000 d /\
 ∀r H',aE H H'->H' r=some (.tup [.int (lo (if c < 0 then 0 - a*d else a*d) (if c < 0 then 0 - b*c else b*c)),.int (hi (if c < 0 then 0 - a*d else a*d) (if c < 0 then 0 - b*c else b*c))])->Q (.ref r) H'
theorem bT {α β:Type} {F:α->β->Prop}:∀{l1 l1':List α} {l2 l2':List β},Yt F l1 l2->Yt F l1' l2'->Yt F (l1++l1') (l2++l2')
 | _,_,_,_,.nil,h=>h
 | _,_,_,_,.cons r t,h=>.cons r (bT t h)
theorem dE {h:Heap} (ha:h.get? a=some o) (hb:h.get? b=some u) (hc:o.cls≠u.cls):a≠b:=λe=>by
 subst e;rw[ha] at hb;cases hb;exact hc rfl
theorem nR (h:a≠b):Y6 a≠Y6 b:=λe=>h (by injection e)
theorem Co {z TI TO i1 i2 l1 l2:Addr} (hz:IsZip h z TI TO f0) (hTI:ZN h TI (.ref i1) (.ref i2)) (hTO:ZN h TO a b)
  (h1:h.IsListIter i1 l1 k1) (h2:h.IsListIter i2 l2 k2) (hl1:h.IsList l1 xs) (hl2:h.IsList l2 ys) (hT:TI≠TO) (hi:i1≠i2):ZipApart z TI TO i1 i2 l1 l2:=by
 obtain o1|g1|c1|_:=h1;obtain o2|g2|c2|_:=h2;obtain p1|q1|d1|_:=hl1;obtain p2|q2|d2|_:=hl2;refine #[dE hTI hz ?_,dE hTO hz ?_,dE g1 hz ?_,dE g2 hz ?_,hT,dE hTI g1 ?_,dE hTI g2 ?_,dE hTO g1 ?_,dE hTO g2 ?_,hi,dE q1 hz ?_,dE q1 hTO ?_,dE q1 g1 ?_,dE q1 g2 ?_,dE q2 hz ?_,dE q2 hTO ?_,dE q2 g1 ?_,dE q2 g2 ?_]
 all_goals first
  | (rw[d1];first | (rw[c1];exact nR ()) | (rw[c2];exact nR ()) | exact nR ())
  | (rw[d2];first | (rw[c1];exact nR ()) | (rw[c2];exact nR ()) | exact nR ())
  | (rw[c1];exact nR ())
  | (rw[c2];exact nR ())
  | exact nR ()
def VI (K : FG9) (l1 l2 : Addr) : It :=
  #[λi H => ∃ xs ys x y, br K H l1 xs /\ br K H l2 ys /\ xs[i]? = some x /\ ys[i]? = some y,
   λi H v H' => ∃ p x y, v = .ref p /\ H p = none /\ H' = upd H p (.tup [x, y]) /\ (∀ xs, br K H l1 xs → xs[i]? = some x) /\ ∀ ys, br K H l2 ys → ys[i]? = some y,
   λi H => ∃ xs ys, br K H l1 xs /\ br K H l2 ys /\ (xs.9 ≤ i \/ ys.9 ≤ i)]
def tnZ (z TI TO i1 i2 l1 l2:Addr) (i:Nat) (h:Heap):Prop:=IsZip h z TI TO .none/\ZN h TI (.ref i1) (.ref i2)/\(∃a b,ZN h TO a b)/\h.IsListIter i1 l1 i/\h.IsListIter i2 l2 i
theorem Nl {P:YS} {w:Y9} {K:FG9} {elts:List Expr} {kk:Nat} {tpos:Pos} (z TI TO i1 i2 l1 l2:Addr) (hT:TI≠TO) (hi:i1≠i2):Turn P w K (.Tuple elts kk tpos) (VI K l1 l2) [z,TI,TO,i1,i2] z (tnZ z TI TO i1 i2 l1 l2) where
 mem:=by simp
 obj:=λi h st b hb=>by
  obtain hz|hTI|⟨a,c,hTO⟩|⟨o1,g1,c1,d1⟩|⟨o2,g2,c2,d2⟩:=st;simp only[ay,aH,or_false] at hb;rcases hb with rfl | rfl | rfl | rfl | rfl
  ·exact #[_,hz,λv q=>nomatch q]
  ·exact #[_,hTI,λv q=>nomatch q]
  ·exact #[_,hTO,λv q=>nomatch q]
  ·exact #[o1,g1,λv q=>by rw[d1] at q;cases q]
  ·exact #[o2,g2,λv q=>by rw[d2] at q;cases q]
 keep:=λi h h' st k=>by
  obtain hz|hTI|⟨a,c,hTO⟩|h1|h2:=st;exact #[k z (by simp) _ hz,k TI (by simp) _ hTI,#[a,c,k TO (by simp) _ hTO],h1.at λo e=>k i1 (by simp) o e,h2.at λo e=>k i2 (by simp) o e]
 item:=by
  intro X hP hw hK hc i pins s σ H E I hf st hg;subst hP hw hK;obtain hz|hTI|⟨a,c,hTO⟩|h1|h2:=st;obtain xs|ys|x|y|qx|qy|ex|ey:=hg;obtain us|rx|px|_:=I.list qx;obtain ws|ry|py|_:=I.list qy;obtain u|eu|ru:=rx.get ex;obtain v|ev|rv:=ry.get ey;have D:=Co hz hTI hTO h1 h2 px.isList py.isList hT hi;refine wpAny_pyNext_zip_item D hz hTI hTO h1 h2 px.isList py.isList (x:=u) (y:=v) (by simpa using eu) (by simpa using ev) λh' a1 a2 a3 a4 a5 a6 hk=>?_
  refine #[_,rfl,wpAny_letOwnedTupleGo_zip a1 λh'' hz'' hs=>?_];have hT0:H s.6=none:=I.hok.fresh (ah _);have zne:s.6≠z:=pW (Yr hz)
  have up:∀b o,b∉[z,TO,i1,i2]->s.heap.get? b=some o->h''.get? b=some o:=λb o hb e=>by
   simp only[ay,aH,or_false,not_or] at hb;exact (hs.2 b hb.1).trans (hk b o hb.1 hb.2.1 hb.2.2.1 hb.2.2.2 e)
  have fx:∀b∈[z,TO,i1,i2],lQ X pins H b:=λb hb=>hf b (by
   simp only[ay,aH,or_false] at hb ⊢;rcases hb with rfl | rfl | rfl | rfl <;> simp)
  have nx:∀b o,H b=some o->b∉[z,TO,i1,i2]:=λb o e hb=>by
   have:=(fx b hb).1;rw[this] at e;cases e
  have nT:∀{b:Addr} {o:HO},H b=some o->b≠s.6:=λe q=>by rw[q,hT0] at e;cases e
  have tup:h''.get? s.6=some { cls:=.type "tuple",data:=.seq [u,v].toArray }:=(hs.2 _ zne).trans a5
  have I2:Inv X pins σ (upd H s.heap.objs.size (.tup [x,y])) { s with heap:=h'' }:=by
   refine I.step (g':=s.gens) (d':=s.drawn) (t':=s.toks) (ch:=[z,TO,i1,i2]) (λb hb=>?_) (λb o _ _ hb e _=>up b o hb e) (λb o _ _ hb e _=>#[o.slots,up b o hb e]) (λb o hb e n=>?_)
    (λb o hb e=>#[o,up b o hb e]) (λb q e=>by rw[aY (nT e)];exact e) (λb o q e=>by rw[aY (nT e)];exact e) (λb q e=>#[[].toArray,by rw[aY (nT e),e];simp]) (λm hm=>?_) (λb o e=>?_) I.bare
   ·obtain _|f1|_|f3|f4|f5:=fx b hb;exact #[f3,f1,f4,f5]
   ·rw[aY (bR (Yr e))];exact n
   ·obtain o|es|ep|ho|r:=hm;exact #[o,es,ep,up _ o (λz=>(fx _ z).2.1 rfl) ho,r]
   ·by_cases hb:b=s.6
    ·subst hb;rw[aD] at e;cases e;exact #[jR rfl,[u,v],.cons ru (.cons rv .nil),#[_,tup,rfl,_,rfl]]
    ·rw[aY hb] at e;refine (I.hok b o e).stay (λc v' hc q=>up c v' ?_ q) (λc q=>by rw[aY (nT q)];exact q) λc xs q=>by rw[aY (nT q)];exact q
     rcases hc with rfl | hc
     ·exact nx _ _ e
     ·exact nx _ _ hc
  refine #[.ref s.6,_,I2,rfl,#[_,x,y,rfl,hT0,rfl,λxs' q=>by rw[I.list_inj q qx];exact ex,λys' q=>by rw[I.list_inj q qy];exact ey],?_,λb hb=>?_]
  ·refine #[hz'',(hs.2 _ D.TIz).trans (hk _ _ D.TIz D.TITO D.TIi1 D.TIi2 hTI),#[_,_,(hs.2 _ D.TOz).trans a2],a3.at λo e=>(hs.2 _ D.i1z).trans e,a4.at λo e=>(hs.2 _ D.i2z).trans e]
  ·obtain ⟨o,e,_⟩:∃o,s.heap.get? b=some o/\True:=by
    obtain o1|g1|_:=h1;obtain o2|g2|_:=h2;simp only[ay,aH,or_false] at hb;rcases hb with rfl | rfl | rfl | rfl | rfl
    ·exact #[_,hz,trivial]
    ·exact #[_,hTI,trivial]
    ·exact #[_,hTO,trivial]
    ·exact #[_,g1,trivial]
    ·exact #[_,g2,trivial]
   rw[aY (bR (Yr e))];exact (hf b hb).1
 done:=by
  intro X hP hw hK hc i pins s σ H E I hf st hg;subst hP hw hK;obtain hz|hTI|⟨a,c,hTO⟩|h1|h2:=st;obtain xs|ys|qx|qy|hend:=hg;obtain us|rx|px|_:=I.list qx;obtain ws|ry|py|_:=I.list qy;have lx:=rx.9;have ly:=ry.9;have D:=Co hz hTI hTO h1 h2 px.isList py.isList hT hi
  refine wpAny_pyNext_zip_end (I.ok.hd hc) D hz hTI hTO h1 h2 px.isList py.isList (by
   rcases hend with q | q
   ·exact .inl (by simp;lia)
   ·exact .inr (by simp;lia)) λh' hk=>#[rfl,?_]
  have up:∀b o,b∉[z,TO,i1,i2]->s.heap.get? b=some o->h'.get? b=some o:=λb o hb e=>by
   simp only[ay,aH,or_false,not_or] at hb;exact hk b o hb.1 hb.2.1 hb.2.2.1 hb.2.2.2 e
  have fx:∀b∈[z,TO,i1,i2],lQ X pins H b:=λb hb=>hf b (by
   simp only[ay,aH,or_false] at hb ⊢;rcases hb with rfl | rfl | rfl | rfl <;> simp)
  have nx:∀b o,H b=some o->b∉[z,TO,i1,i2]:=λb o e hb=>by
   have:=(fx b hb).1;rw[this] at e;cases e
  refine I.step (g':=s.gens) (d':=s.drawn) (t':=s.toks) (ch:=[z,TO,i1,i2]) (λb hb=>?_) (λb o _ _ hb e _=>up b o hb e) (λb o _ _ hb e _=>#[o.slots,up b o hb e]) (λb o hb e n=>n)
   (λb o hb e=>#[o,up b o hb e]) (λb q e=>e) (λb o q e=>e) (λb q e=>#[[].toArray,by rw[e];simp]) (λm hm=>?_) (λb o e=>?_) I.bare
  ·obtain _|f1|_|f3|f4|f5:=fx b hb;exact #[f3,f1,f4,f5]
  ·obtain o|es|ep|ho|r:=hm;exact #[o,es,ep,up _ o (λz=>(fx _ z).2.1 rfl) ho,r]
  ·refine (I.hok b o e).stay (λc v' hc q=>up c v' ?_ q) (λc q=>q) λc xs q=>q
   rcases hc with rfl | hc
   ·exact nx _ _ e
   ·exact nx _ _ hc
 self:=λ_ _ _ _ _ st h=>ZE st.1 h
section
variable {X:Cx}
def Vf (K:FG9) (ta:TA):TI:=λσ H R=>ta σ H λvs H1=>∃l1 l2,vs=[.ref l1,.ref l2]/\(∃xs,br K H1 l1 xs)/\(∃ys,br K H1 l2 ys)/\R (VI K l1 l2) H1
theorem pN {a b:Expr} {ta:TA} {p pos tpos:Pos} {elts:List Expr} {kk:Nat} (hg:Gl X "zip") (hm:X.mg "zip"=none) (ha:PA X [a,b] ta) (hs:Yu [a,b] X.env=[(false,eval a X.env),(false,eval b X.env)]:=by rfl) (hs2:Yu [b] X.env=[(false,eval b X.env)]:=by rfl) :
  PI X (.Tuple elts kk tpos) (.Call (.Name "zip" p) [a,b] [] pos) (Vf X.K ta):=by
 intro pins s σ H R I h;refine Call_ (mJ I hg hm boot_zip (YE (ib (ha pos pins s σ H _ I h) λus s1 #[vs,H1,I1,r1,q1]=>?_) (by rw[hs,hs2]) (by rw[hs2];rfl)));obtain l1|l2|e|⟨xs,qx⟩|⟨ys,qy⟩|q:=q1;subst e;obtain u|v|rfl|ru|rv:=vals2 r1;cases ru;cases rv;obtain us|rx|px|_:=I1.list qx;obtain ws|ry|py|_:=I1.list qy;refine call_zip_2 px.isList py.isList λh' a1 a2 a3 a4 a5 a6 hk=>ZE a1 ?_
 have I2:Inv X pins σ H1 { s1 with heap:=h' }:=I1.kept (t':=s1.toks) hk;refine #[_,[s1.6+4,s1.6+2,s1.6+3,s1.6,s1.6+1],_,_,H1,rfl,I2,Nl (s1.6+4) (s1.6+2) (s1.6+3) s1.heap.objs.size (s1.6+1) l1 l2 (bR (iD _)) (bR (iD _)),#[a1,a2,#[_,_,a3],a4,a5],λb hb=>?_,q]
 have hb':s1.6<=b:=by
  simp only[ay,aH,or_false] at hb;rcases hb with rfl | rfl | rfl | rfl | rfl <;> first | exact rg _ _ | exact ah _
 exact I1.fpOk hb' (I1.hok.fresh hb')
theorem A1 (hc:X.calm=true):sT X (.builtin "all") (λxs H Q=>∃(p:Addr) (bs:List Bool),xs=[.ref p]/\br X.K H p (bs.map V.bl)/\Q (.bl (bs.all id)) H):=by
 intro pins s σ H xs us Q I r h;obtain p|bs|rfl|hp|q:=h;obtain u|rfl|ru:=vals1 r;cases ru;obtain vs|rv|pl|hz:=I.list hp
 have hb:PyProof.Rows.LSm.BoolsAre vs bs:=by
  clear q hp pl hz
  induction bs generalizing vs with
  | nil=>cases rv;exact .nil
  | cons b bs ih =>
   rw[iB] at rv;cases rv with
   | cons r1 r2=>cases r1;exact .cons b (ih _ r2)
 have hlt:p < s.6:=by obtain _|e|_:=pl.isList;exact Yr e
 refine call_all_walk (Zx pl.isList ?_)
 refine #[s.6,[s.6,p],[s.6],vs.5.7,_,_,λi=>(bs[i]?).getD true,rfl,Walks.list (A:=X.A.in1) (I.ok.hd hc) _ p (bR hlt) vs.5,
  #[#[_,Yw _ rfl,rfl,rfl],pl.isList.push _],λi v s' Q' E' hP hQ=>?_,λh' tk hk=>?_]
 ·obtain b|e|rfl:=hb.get i v (by simpa using hP);simp only[e,jM] at hQ;exact Zw hQ
 ·have e:((Yq vs.5.7).all λi=>(bs[i]?).getD true)=bs.all id:=by
   rw[aM,hb.9];exact PyProof.Rows.LSm.range_all bs
  rw[e];exact #[.bl _,H,I.kept (t':=tk) (PyProof.Rows.LSm.kept_iter hk),rfl,q]
theorem HR (hc:X.calm=true):sT X (.builtin "sum") (λxs H Q=>∃(p:Addr) (ns:List Int),xs=[.ref p]/\br X.K H p (ns.map V.int)/\Q (.int ns.sum) H):=by
 intro pins s σ H xs us Q I r h;obtain p|ns|rfl|hp|q:=h;obtain u|rfl|ru:=vals1 r;cases ru;obtain vs|rv|pl|_:=I.list hp;have hi:IntsAre vs ns:=intsAre_of rv;obtain xs|hx:=hi.allInts.items;have hl':s.heap.IsList p (intItems xs):=hx ▸ pl.isList;refine sum_intListG (I.ok.hd hc) hl' λh' tk t' hk=>?_
 have e1:ns=xs.toList.map (·.1):=by
  rw[<- nums_intItems,<- hx];exact (show numsOf vs.toArray.toList=ns from hi.numsOf).symm
 have e2:preSum (numAt xs) xs.7=ns.sum:=by
  rw[preSum_eq,aF (by simp),e1]
 rw[e2];exact #[.int _,H,I.kept (t':=tk) hk,#[_,rfl],q]
end
section
variable {K:FG9} {g:TG}
theorem oW (Pv:Nat->List V->Hp->Prop) (hz:xs.9<=YB) (hw:ws.9=xs.9) (h0:Pv 0 [] H) (hl:∀i ys H,i<=xs.9->Pv i ys H->br K H l1 xs/\br K H l2 ws)
  (hs:∀i x y ys H p,xs[i]?=some x->ws[i]?=some y->ys.9<=i->Pv i ys H->H p=none->qN σ₀ g tf te (.ref p) (upd H p (.tup [x,y])) (λy H'=>Pv (i+1) (ys++[y]) H') (λH'=>Pv (i+1) ys H'))
  (hd:∀ys H,ys.9<=xs.9->Pv xs.9 ys H->∀p,H p=none->Q (.ref p) (upd H p (.lst ys))):qX (VI K l1 l2) σ₀ g tf te Q H:=by
 refine #[λi m ys H=>m=xs.9 - i/\i<=xs.9/\ys.9<=i/\Pv i ys H,#[xs.9,by simp,a8 _,a8 _,h0],?_];rintro i m ys H ⟨rfl,hi,hy,p⟩;obtain q1|q2:=hl i ys H hi p;by_cases hlt:i < xs.9
 ·refine .inr #[#[xs,ws,xs[i],ws[i]'(),q1,q2,by simp [hlt],by simp],(),λy H'=>Pv (i+1) (ys++[y]) H',λH'=>Pv (i+1) ys H',λy H' p'=>#[xs.9 - (i+1),(),rfl,hlt,by rw[ao,aQ];lia,p'],λH' p'=>#[xs.9 - (i+1),(),rfl,hlt,(),p'],λx H' y=>?_];obtain r|x'|y'|rfl|hr|rfl|e1|e2:=y;exact hs i x' y' ys _ r (e1 xs q1) (e2 ws q2) hy p hr
 ·have e:i=xs.9:=()
  subst e;exact .inl #[#[xs,ws,q1,q2,.inl (ah _)],(),hd ys H hy p]
theorem RG {tb:TS} {D:Ends} (Pv:Nat->St->Hp->Prop) (hw:ws.9=xs.9) (h0:Pv 0 σ H) (hl:∀i σ H,i<=xs.9->Pv i σ H->br K H l1 xs/\br K H l2 ws)
  (hs:∀i x y σ H p,xs[i]?=some x->ws[i]?=some y->Pv i σ H->H p=none->g (.ref p) σ (upd H p (.tup [x,y])) λσ2 H2=>tb { D with nx:=Pv (i+1),ct:=Pv (i+1),bk:=D.nx } σ2 H2) (hd:∀σ H,Pv xs.9 σ H->D.nx σ H) :
  ∃W:Nat->Nat->St->Hp->Prop,(∃m,W 0 m σ H)/\∀i m σ H,W i m σ H →
   ((VI K l1 l2).stop i H/\D.nx σ H)\/((VI K l1 l2).go i H/\∃N:St->Hp->Prop,(∀σ' H',N σ' H'->∃m',m' < m/\W (i+1) m' σ' H')/\∀x H',(VI K l1 l2).yld i H x H'->g x σ H' λσ2 H2=>tb { D with nx:=N,ct:=N,bk:=D.nx } σ2 H2):=by
 refine #[λi m σ H=>m=xs.9 - i/\i<=xs.9/\Pv i σ H,#[xs.9,by simp,a8 _,h0],?_];rintro i m σ H ⟨rfl,hi,p⟩;obtain q1|q2:=hl i σ H hi p;by_cases hlt:i < xs.9
 ·refine .inr #[#[xs,ws,xs[i],ws[i]'(),q1,q2,by simp [hlt],by simp],Pv (i+1),λσ' H' p'=>#[xs.9 - (i+1),(),rfl,hlt,p'],λx H' y=>?_];obtain r|x'|y'|rfl|hr|rfl|e1|e2:=y;exact hs i x' y' σ _ r (e1 xs q1) (e2 ws q2) p hr
 ·have e:i=xs.9:=()
  subst e;exact .inl #[#[xs,ws,q1,q2,.inl (ah _)],hd σ H p]
end
section
variable {X:Cx}
theorem kN (K:FG9) (n:Nat) {es:List Expr} {k:Nat} {pos:Pos} {t:PZ} (h:Xs X es t) (hK:X.K=K:=by rfl) (hc:X.calm=true:=by rfl)
  (hn:(ZL es X.env).9=n:=by rfl) (hst:(ZL es X.env).findIdx? (·.1)=none:=by rfl):PG X (.Tuple es k pos) (Vl K n t):=by subst hK;exact vq hc h hn hst
theorem uH (K:FG9) (hK:X.K=K):Xw X (UN K):=by subst hK;exact bH
theorem nH (K:FG9) (hK:X.K=K):Xw X (UO K):=by subst hK;exact bA
theorem Q6 (K:FG9) (hK:X.K=K) (hu:X.A.units+50 < cLine):yF X (Zh .NotEq) (Ww K):=by subst hK;exact Ed hu
theorem Ah (K:FG9) {tg l:Expr} {tl:TE} (hl:PE X l tl) (hK:X.K=K:=by rfl):PI X tg l (OR K tl):=by subst hK;exact cM hl
theorem NL (K:FG9) (hK:X.K=K):Yh X (UM K):=by subst hK;exact rC
end
theorem fH {X:Cx} {e e':Expr} {es:List Expr} {te:TE} {t:TA} (h:e=e') (ha:PE X e' te) (hr:PA X es t) (hs:∀l,Yu (e' :: l) X.env=(false,eval e' X.env) :: Yu l X.env:=by intro _;rfl):PA X (e :: es) (jQ te t):=by subst h;exact gQ ha hr (hs _)
theorem iT (hl:H l=some (.lst xs)) (hz:xs.9 < YB) (h:Q .non (upd H l (.lst (xs++[y])))):Ku (.ref l) [y] H Q:=#[l,xs,y,rfl,rfl,hl,hz,h]
theorem Uz (h:Q (.bl (!decide (i=j))) H):XZ (.bl i) (.bl j) H Q:=#[rfl,by
 have e:decide (V.bl i=V.bl j)=decide (i=j):=by simp
 rw[e];exact h]
theorem QD {K:FG9} (h:ta σ H λvs H1=>∃l1 l2,vs=[.ref l1,.ref l2]/\(∃xs,br K H1 l1 xs)/\(∃ys,br K H1 l2 ys)/\R (VI K l1 l2) H1):Vf K ta σ H R:=h
theorem qF (h1:H l=some (.lst xs)) (h2:H b=some (.lst zs)) (hz:xs.9+zs.9<=YB) (h:∀p H',aE H H'->H p=none->H' p=some (.lst (xs++zs))->Q (.ref p) H'):Wy (.ref l) (.ref b) H Q :=
 #[l,b,xs,zs,rfl,rfl,h1,h2,hz,λp hp=>h p _ (aE.new hp) hp aD]
theorem xN {K:FG9} {lo hi:Option Int} (h1:br K H a xs) (h:∀p H',aE H H'->H p=none->H' p=some (.lst (qU xs lo hi))->Q (.ref p) H'):UM K (.ref a) lo hi H Q :=
 #[a,xs,rfl,h1,λp hp=>h p _ (aE.new hp) hp aD]
theorem uw {xs:List α} {i:Int} (h0:0<=i) (h1:i < xs.9):∃v,Iz xs i=some v/\v∈xs/\xs[i.toNat]?=some v:=by
 have hj:i.toNat < xs.9:=()
 refine #[xs[i.toNat],?_,az hj,by simp [hj]];have:=dC (xs:=xs) (j:=i.toNat) (v:=xs[i.toNat]) (by simp [hj]);rwa [Int.toNat_of_nonneg h0] at this
theorem eO {α β:Type} {F:α->β->Prop}:∀{l1:List α} {l2:List β} {y:β},Yt F l1 l2->y∈l2->∃x∈l1,F x y
 | _,_,_,.nil,h=>nomatch h
 | _,_,_,.cons r t,h=>by
  rcases ay.mp h with rfl | h
  ·exact #[_,cU,r]
  ·obtain x|hx|q:=eO t h;exact #[x,bS _ hx,q]
theorem bO {F:α->β->Prop} {l1:List α} {l2:List β} {i:Nat} {y:β} (h:Yt F l1 l2) (e:l2[i]?=some y):∃x,l1[i]?=some x/\F x y:=by
 have hl:=h.9;have hi:i < l2.9:=(aI.mp e).1;refine #[l1[i]'(),by simp,?_];have:=mG h (i:=i) () hi;have e2:l2[i]=y:=(aI.mp e).2;rwa [e2] at this
def yG (n:Int×Int):Prop:=0 < n.2/\Y8 n.1 n.2=1/\Sz 8000000 n.1/\Sz 8000000 n.2
theorem take_snoc {α:Type} {l:List α} {v:α} (h:l[i]?=some v):l.take (i+1)=l.take i++[v]:=by rw[List.take_add_one,h];rfl
theorem aE.after (s:aE H H') (h:H r=Zg):aE H (upd H' r o):=λb u e=>by rw[aY (hZ e h)];exact s b u e
theorem dD.after (s:dD b H H') (h:H r=Zg):dD b H (upd H' r o):=#[λc u e n=>by rw[aY (hZ e h)];exact s.1 c u e n,λq hi=>(s.2 q hi).upd λz=>by obtain _|_|_|e:=hi;rw[<- z,h] at e;cases e]
theorem dD.same (s:dD b H H') (e:aE H' H''):dD b H H'':=s.trans e.upto
theorem Ld {α:Type} {Pr:α->Prop} {l:List α} {a:α} (h:∀n∈l,Pr n) (ha:Pr a):∀n∈l++[a],Pr n:=λn hn=>by
 rcases aB.mp hn with hn | hn
 ·exact h n hn
 ·have e:n=a:=by simpa using hn
  rw[e];exact ha
abbrev Be (h:Heap) (z TI TO:Addr) (f0 f1:Value):Prop:=h.get? z=some { cls:=.type "zip",dict:=none,data:=.fields [f0,f1,.bool false,.ref TI,.ref TO].toArray,slots:=[].toArray }
theorem JS (e:s.heap.get? a=some o) (h:Q (some o) s):Yy (model prog w) A (loadIfAlive a) Q E s:=by
 intro Γ p hp;show Sem.wp _ _ (.loadIfAlive a .pure) _ _ _ _
 simp only[Sem.wp_loadIfAlive,e];exact Yp h Γ p hp
theorem Am {z TI TO T:Addr} (zr:Be s.heap z TI TO (ZG T) (.bool b1)) (al:s.heap.get? T=some o)
  (h:∀h',Be h' z TI TO (ZG T) (.bool true)->Heap.SameBut z s.heap h'->Q false { s with heap:=h' }):Yy (model prog w) A (YC (.ref z)) Q E s:=by
 unfold YC;refine K0 (YZ zr rfl (x:=ZG T) rfl ?_);refine K0 (JS (a:=T) al ?_);refine K0 (YZ zr rfl (x:=.bool b1) rfl ?_);cases b1 with
 | true=>exact Yp (h _ zr (.refl ..))
 | false=>exact K0 (Zi zr (by simp) λh' zr' sb=>Yp (h h' zr' sb))
theorem L7 {z TI TO T i1 i2 l1 l2:Addr} {Q:Value->Yo->Prop} (D:ZipApart z TI TO i1 i2 l1 l2) (zr:Be s.heap z TI TO (ZG T) (.bool b1)) (al:s.heap.get? T=some o)
  (pt:ZN s.heap TI (.ref i1) (.ref i2)) (j1:s.heap.IsListIter i1 l1 k1) (j2:s.heap.IsListIter i2 l2 k2) (m1:s.heap.IsList l1 us) (m2:s.heap.IsList l2 ws) (eu:us[k1]?=some u) (ev:ws[k2]?=some v)
  (hQ:∀h',Be h' z TI TO (ZG T) (.bool true)->h'.IsListIter i1 l1 (k1+1)->h'.IsListIter i2 l2 (k2+1)->ZN h' s.heap.objs.size u v->(∀c o,c≠z->c≠i1->c≠i2->s.heap.get? c=some o->h'.get? c=some o)->Q (.ref s.6) { s with heap:=h' }) :
  Yy (model prog w) A (Y5.«zip.__next__» #[[.ref z],[]]) (λfin s'=>∃v,fin=.done (.ret v)/\Q v s') E s:=by
 change Yy _ _ (field (Yx z) 2 >>= _) _ _ s
 refine K0 (YZ zr rfl (x:=.bool false) rfl ?_)
 change Yy _ _ (field (Yx z) 3 >>= _) _ _ s
 refine K0 (YZ zr rfl (x:=.ref TI) rfl (K0 (Zd pt rfl ?_)))
 change Yy _ _ (YC (Yx z) >>= _) _ _ s
 refine K0 (Am zr al λg1 zr1 sb1=>?_);simp only[j6,if_false];refine K0 ?_;rw[<- Array.forIn_toList];simp only[sY,pY];have j1':=j1.extBut sb1.extBut D.i1z;have m1':=m1.extBut sb1.extBut D.l1z;refine K0 (K0 (Zc ?_))
 change Yy _ _ (YN (Yx i1) >>= _) _ _ _
 refine K0 (Zf j1' m1' eu λg2 j1a sb2=>Yp ?_);refine Yp ?_;have j2':=(j2.extBut sb1.extBut D.i2z).extBut sb2.extBut D.i12.symm;have m2':=(m2.extBut sb1.extBut D.l2z).extBut sb2.extBut D.l2i1;refine K0 (K0 (Zc ?_))
 change Yy _ _ (YN (Yx i2) >>= _) _ _ _
 refine K0 (Zf j2' m2' ev λg3 j2a sb3=>Yp ?_);refine Yp (Yp ?_);refine K0 (wpAny_newTuple (hsz:=jR rfl) ?_);have sz:g3.objs.7=s.6:=by rw[sb3.1,sb2.1,sb1.1]
 have up:∀c o,c≠z->c≠i1->c≠i2->s.heap.get? c=some o->g3.get? c=some o:=λc o c1 c2 c3 e=>sb3.extBut _ _ c3 (sb2.extBut _ _ c2 (sb1.extBut _ _ c1 e))
 have zr3:Be g3 z TI TO (ZG T) (.bool true):=sb3.extBut _ _ D.i2z.symm (sb2.extBut _ _ D.i1z.symm zr1);refine Yp #[_,rfl,?_]
 change Q (.ref g3.objs.7) { s with heap:=g3.push { cls:=.type "tuple",data:=.seq [u,v].toArray } }
 have last:=hQ (g3.push { cls:=.type "tuple",data:=.seq [u,v].toArray }) (Ym _ zr3) ((j1a.extBut sb3.extBut D.i12).at λo e=>Ym _ e) (j2a.at λo e=>Ym _ e)
  (by rw[<- sz];exact Yw _ rfl) λc o c1 c2 c3 e=>Ym _ (up c o c1 c2 c3 e)
 rw[sz];exact last
theorem OA {z TI TO T i1 i2 l1 l2:Addr} (hh:A.handled=none) (D:ZipApart z TI TO i1 i2 l1 l2) (zr:Be s.heap z TI TO (ZG T) (.bool b1)) (al:s.heap.get? T=some o)
  (pt:ZN s.heap TI (.ref i1) (.ref i2)) (j1:s.heap.IsListIter i1 l1 k1) (m1:s.heap.IsList l1 us) (eu:us[k1]?=none)
  (hE:∀h' e,(∀c o,c≠z->c≠i1->c≠i2->s.heap.get? c=some o->h'.get? c=some o)->(∃o,h'.get? e=some o/\o.cls=.type "StopIteration")->E (.ref e) { s with heap:=h' }) :
  Yy (model prog w) A (Y5.«zip.__next__» #[[.ref z],[]]) Q E s:=by
 change Yy _ _ (field (Yx z) 2 >>= _) _ _ s
 refine K0 (YZ zr rfl (x:=.bool false) rfl ?_)
 change Yy _ _ (field (Yx z) 3 >>= _) _ _ s
 refine K0 (YZ zr rfl (x:=.ref TI) rfl (K0 (Zd pt rfl ?_)))
 change Yy _ _ (YC (Yx z) >>= _) _ _ s
 refine K0 (Am zr al λg1 zr1 sb1=>?_);simp only[j6,if_false];refine K0 ?_;rw[<- Array.forIn_toList];simp only[sY,pY];refine K0 (K0 (Zc ?_))
 change Yy _ _ (YN (Yx i1) >>= _) _ _ _
 exact K0 (wpAny_nextOf_list_end hh (j1.extBut sb1.extBut D.i1z) (m1.extBut sb1.extBut D.l1z) eu λg2 e xb he=>hE g2 e (λc o c1 c2 _ q=>xb _ _ c2 (sb1.extBut _ _ c1 q)) he)
theorem LZ {z TI TO T i1 i2 l1 l2:Addr} (D:ZipApart z TI TO i1 i2 l1 l2) (zr:Be s.heap z TI TO (ZG T) (.bool b1)) (al:s.heap.get? T=some o)
  (pt:ZN s.heap TI (.ref i1) (.ref i2)) (j1:s.heap.IsListIter i1 l1 k1) (j2:s.heap.IsListIter i2 l2 k2) (m1:s.heap.IsList l1 us) (m2:s.heap.IsList l2 ws) (eu:us[k1]?=some u) (ev:ws[k2]?=some v)
  (hQ:∀h',Be h' z TI TO (ZG T) (.bool true)->h'.IsListIter i1 l1 (k1+1)->h'.IsListIter i2 l2 (k2+1)->ZN h' s.heap.objs.size u v->(∀c o,c≠z->c≠i1->c≠i2->s.heap.get? c=some o->h'.get? c=some o)->Q (some (.ref s.6)) { s with heap:=h' }) :
  Yy (model prog w) A (pyNext (.ref z)) Q E s:=by
 have ty:s.TypeIs (.ref z) "zip":=#[_,zr,rfl];unfold pyNext;refine K0 (wpAny_attempt (Zr (name:=YV "__next__") ty qY (wpAny_call_entry qY ty PySem.F.entry_zip_next ?_ (XB _))));exact L7 D zr al pt j1 j2 m1 m2 eu ev λh' a1 a2 a3 a4 a5=>Yp (hQ h' a1 a2 a3 a4 a5)
theorem LY {z TI TO T i1 i2 l1 l2:Addr} (hh:A.handled=none) (D:ZipApart z TI TO i1 i2 l1 l2) (zr:Be s.heap z TI TO (ZG T) (.bool b1)) (al:s.heap.get? T=some o)
  (pt:ZN s.heap TI (.ref i1) (.ref i2)) (j1:s.heap.IsListIter i1 l1 k1) (m1:s.heap.IsList l1 us) (eu:us[k1]?=none)
  (hQ:∀h',(∀c o,c≠z->c≠i1->c≠i2->s.heap.get? c=some o->h'.get? c=some o)->Q none { s with heap:=h' }):Yy (model prog w) A (pyNext (.ref z)) Q E s:=by
 have ty:s.TypeIs (.ref z) "zip":=#[_,zr,rfl];unfold pyNext;refine K0 (wpAny_attempt (Zr (name:=YV "__next__") ty qY (wpAny_call_entry qY ty PySem.F.entry_zip_next ?_ (XB _))));refine OA hh D zr al pt j1 m1 eu λh' e kk #[oe,he,hc]=>?_
 exact K0 (wpAny_isInstance (T:="StopIteration") (b:=true) #[oe,he,hc] isSubtype_stop (Yp (hQ _ kk)))
section
variable {σ:St}
theorem Inv.moved {ch:List Addr} (I:Inv X pins σ H s) (fx:∀b∈ch,lQ X pins H b) (up:∀b o,b∉ch->s.heap.get? b=some o->h'.get? b=some o) (hg:AllBare g') :
  Inv X pins σ H { s with heap:=h',gens:=g',drawn:=d',toks:=t' }:=by
 have nx:∀b o,H b=some o->b∉ch:=λb o e hb=>by have:=(fx b hb).1;rw[this] at e;cases e
 refine I.step (ch:=ch) (λb hb=>?_) (λb o _ _ hb e _=>up b o hb e) (λb o _ _ hb e _=>#[o.slots,up b o hb e]) (λb o hb e n=>n) (λb o hb e=>#[o,up b o hb e]) (λb q e=>e) (λb o q e=>e) (λb q e=>#[[].toArray,by rw[e];simp]) (λm hm=>?_) (λb o e=>?_) hg
 ·obtain _|f1|_|f3|f4|f5:=fx b hb;exact #[f3,f1,f4,f5]
 ·obtain o|es|ep|ho|r:=hm;exact #[o,es,ep,up _ o (λz=>(fx _ z).2.1 rfl) ho,r]
 ·refine (I.hok b o e).stay (λc v' hc q=>up c v' ?_ q) (λc q=>q) λc xs q=>q
  rcases hc with rfl | hc
  ·exact nx _ _ e
  ·exact nx _ _ hc
theorem Inv.track (I:Inv X pins σ H s) (fp:lQ X pins H p) (new:iG X.prog X.w (upd H p o) s.heap p o):Inv X pins σ (upd H p o) s:=by
 have nt:∀{b:Addr} {u:HO},H b=some u->b≠p:=λe z=>by rw[z,fp.1] at e;cases e
 refine I.step (h':=s.8) (g':=s.gens) (d':=s.drawn) (t':=s.toks) (ch:=[p]) (λb hb=>?_) (λb o _ _ _ e _=>e) (λb o _ _ _ e _=>#[o.slots,e]) (λb o hb e n=>?_) (λb o _ e=>#[o,e]) (λb q e=>by rw[aY (nt e)];exact e) (λb o q e=>by rw[aY (nt e)];exact e)
  (λb q e=>#[[].toArray,by rw[aY (nt e),e];simp]) (λm hm=>hm) (λb u e=>?_) I.bare
 ·have e:b=p:=by simpa using hb
  subst e;obtain _|f1|_|f3|f4|f5:=fp;exact #[f3,f1,f4,f5]
 ·rw[aY λz=>hb (by simp [z])];exact n
 ·by_cases hb:b=p
  ·subst hb;rw[aD] at e;cases e;exact new
  ·rw[aY hb] at e;exact (I.hok b u e).stay (λc v _ q=>q) (λc q=>by rw[aY (nt q)];exact q) λc xs q=>by rw[aY (nt q)];exact q
end
def TM (H:Hp) (p:V×V) (x:V):Prop:=∃T,x=.ref T/\H T=some (.tup [p.1,p.2])
theorem TM.same (h:TM H p x) (e:aE H H'):TM H' p x:=by obtain T|q|g:=h;exact #[T,q,e _ _ g]
def Zst (h:Heap) (z TI TO:Addr) (base:Nat):Prop:=(∃a b,ZN h TO a b)/\(IsZip h z TI TO .none\/∃(T:Addr) (b1:Bool) (o:Obj),Be h z TI TO (ZG T) (.bool b1)/\h.get? T=some o/\@LE.le Nat instLENat base T)
theorem Dv {z TI TO i1 i2 l1 l2:Addr} (hz:Be h z TI TO f0 f1) (hTI:ZN h TI (.ref i1) (.ref i2)) (hTO:ZN h TO a b) (h1:h.IsListIter i1 l1 k1) (h2:h.IsListIter i2 l2 k2) (hl1:h.IsList l1 xs) (hl2:h.IsList l2 ys) (hT:TI≠TO) (hi:i1≠i2):ZipApart z TI TO i1 i2 l1 l2:=by
 obtain o1|g1|c1|_:=h1;obtain o2|g2|c2|_:=h2;obtain p1|q1|d1|_:=hl1;obtain p2|q2|d2|_:=hl2;have zt:Y6 "zip"≠.type "tuple":=nR ();have it:Y6 "list_iterator"≠.type "tuple":=nR ();have iz:Y6 "list_iterator"≠.type "zip":=nR ();have lz:Y6 "list"≠.type "zip":=nR ();have lt:Y6 "list"≠.type "tuple":=nR ();have li:Y6 "list"≠.type "list_iterator":=nR ()
 exact #[dE hTI hz zt.symm,dE hTO hz zt.symm,dE g1 hz (by rw[c1];exact iz),dE g2 hz (by rw[c2];exact iz),hT,dE hTI g1 (by rw[c1];exact it.symm),dE hTI g2 (by rw[c2];exact it.symm),dE hTO g1 (by rw[c1];exact it.symm),dE hTO g2 (by rw[c2];exact it.symm),hi,
  dE q1 hz (by rw[d1];exact lz),dE q1 hTO (by rw[d1];exact lt),dE q1 g1 (by rw[d1,c1];exact li),dE q1 g2 (by rw[d1,c2];exact li),dE q2 hz (by rw[d2];exact lz),dE q2 hTO (by rw[d2];exact lt),dE q2 g1 (by rw[d2,c1];exact li),dE q2 g2 (by rw[d2,c2];exact li)]
section
variable {X:Cx} {pins:List (Addr×Obj)} {σ:St}
theorem lQ.heap (f:lQ X pins H b) (e:H' b=none):lQ X pins H' b:=#[e,f.2]
structure Fn where
 z:Addr
 TI:Addr
 TO:Addr
 i1:Addr
 i2:Addr
 S:Addr
 base:Nat
def Fn.all (a:Fn):List Addr:=[a.z,a.TI,a.TO,a.i1,a.i2,a.S]
structure Fn.Ok (a:Fn):Prop where
 tt:a.TI≠a.TO
 ii:a.i1≠a.i2
 Sz:a.S≠a.z
 STI:a.S≠a.TI
 STO:a.S≠a.TO
 Si1:a.S≠a.i1
 Si2:a.S≠a.i2
 lt:∀b∈a.all,@LT.lt Nat instLTNat b a.base
structure Sy (X:Cx) (pins:List (Addr×Obj)) (σ:St) (H1:Hp) (a:Fn) (l1 l2:Addr) (i:Nat) (H:Hp) (s:Yo):Prop where
 inv:Inv X pins σ H s
 same:aE H1 H
 fps:∀b∈a.all,lQ X pins H b
 sz:a.base<=s.heap.objs.size
 zst:Zst s.heap a.z a.TI a.TO a.base
 pt:ZN s.heap a.TI (.ref a.i1) (.ref a.i2)
 j1:s.heap.IsListIter a.i1 l1 i
 j2:s.heap.IsListIter a.i2 l2 i
variable {a:Fn} {l1 l2:Addr} {H1 H:Hp} {s:Yo} {i:Nat} {xs ys:List V}
theorem Sy.push (L:Sy X pins σ H1 a l1 l2 i H s) (O:a.Ok) (k:∀b o,b≠a.S->s.heap.get? b=some o->h'.get? b=some o) (hz:h'.objs.7=s.6):Sy X pins σ H1 a l1 l2 i H { s with heap:=h' }:=by
 refine #[L.inv.moved (g':=s.gens) (d':=s.drawn) (t':=s.toks) (ch:=[a.S]) (λb hb=>?_) (λb o hb e=>k b o (λz=>hb (by simp [z])) e) L.inv.bare,L.same,L.fps,by show a.base<=h'.objs.7;rw[hz];exact L.sz,?_,k _ _ O.STI.symm L.pt,L.j1.at λo e=>k _ o O.Si1.symm e,L.j2.at λo e=>k _ o O.Si2.symm e]
 ·have e:b=a.S:=by simpa using hb
  rw[e];exact L.fps _ (by simp [Fn.all])
 ·obtain ⟨c,d,z0⟩|z4:=L.zst;refine #[#[c,d,k _ _ O.STO.symm z0],?_];rcases z4 with z1 | ⟨T,b1,o,z1,z2,z3⟩
  ·exact .inl (k _ _ O.Sz.symm z1)
  ·refine .inr #[T,b1,o,k _ _ O.Sz.symm z1,k _ _ (λe=>?_) z2,z3];have:=O.lt a.S (by simp [Fn.all]);rw[<- e] at this;exact absurd this (Nat.not_lt.mpr z3)
theorem Nc (O:a.Ok) (q1:br X.K H1 l1 xs) (q2:br X.K H1 l2 ys) (ex:xs[i]?=some x) (ey:ys[i]?=some y) (L:Sy X pins σ H1 a l1 l2 i H s)
  (hQ:∀s',Sy X pins σ H1 a l1 l2 (i+1) (upd H s.heap.objs.size (.tup [x,y])) s'->(∀c o,c∉[a.z,a.TO,a.i1,a.i2]->s.heap.get? c=some o->s'.heap.get? c=some o)->H s.6=none->Q (some (.ref s.6)) s'):Yy (model X.prog X.w) A' (pyNext (.ref a.z)) Q E s:=by
 obtain I|sm|fps|sz|zst|pt|j1|j2:=id L;obtain us|ru|pu|_:=I.list (sm.seq q1);obtain ws|rw'|pw|_:=I.list (sm.seq q2);obtain u|eu|r1:=ru.get ex;obtain v|ev|r2:=rw'.get ey;have fx:∀b∈[a.z,a.TO,a.i1,a.i2],lQ X pins H b:=λb hb=>fps b (by simp only[Fn.all,ay,aH,or_false] at hb ⊢;rcases hb with e | e | e | e <;> simp [e])
 have hT0:H s.6=none:=I.hok.fresh (ah _);have fT:lQ X pins H s.6:=I.fpOk (ah _) hT0;have lt:∀b∈a.all,b≠s.6:=λb hb e=>by have:=O.lt b hb;rw[e] at this;exact absurd this (Nat.not_lt.mpr sz)
 have fin:∀h',(∀c o,c∉[a.z,a.TO,a.i1,a.i2]->s.heap.get? c=some o->h'.get? c=some o)->ZN h' s.heap.objs.size u v->ZN h' a.TI (.ref a.i1) (.ref a.i2)->h'.IsListIter a.i1 l1 (i+1)->h'.IsListIter a.i2 l2 (i+1)->Zst h' a.z a.TI a.TO a.base →
   Q (some (.ref s.6)) { s with heap:=h' }:=λh' up pr pt' j1' j2' zst'=>by
  have I2:Inv X pins σ H { s with heap:=h' }:=I.moved (g':=s.gens) (d':=s.drawn) (t':=s.toks) fx up I.bare;have I3:Inv X pins σ (upd H s.heap.objs.size (.tup [x,y])) { s with heap:=h' }:=I2.track fT ⟨jR rfl,[u,v],.cons r1 (.cons r2 .nil),⟨_,pr,rfl,_,rfl⟩⟩;refine hQ _ #[I3,sm.trans (aE.new hT0),λb hb=>(fps b hb).heap (by rw[aY (lt b hb)];exact (fps b hb).1),?_,zst',pt',j1',j2'] up hT0;exact ag sz (dH (Yr pr))
 obtain ⟨c,d,z0⟩|z4:=zst;rcases z4 with z1 | ⟨T,b1,o,z1,z2,z3⟩
 ·have D:=Dv z1 pt z0 j1 j2 pu.isList pw.isList O.tt O.ii;refine wpAny_pyNext_zip_item D z1 pt z0 j1 j2 pu.isList pw.isList (x:=u) (y:=v) (by simpa using eu) (by simpa using ev) λh' a1 a2 a3 a4 a5 a6 hk=>?_
  have up:∀c o,c∉[a.z,a.TO,a.i1,a.i2]->s.heap.get? c=some o->h'.get? c=some o:=λc o hc e=>by
   simp only[ay,aH,or_false,not_or] at hc;exact hk c o hc.1 hc.2.1 hc.2.2.1 hc.2.2.2 e
  exact fin h' up a5 (hk _ _ D.TIz D.TITO D.TIi1 D.TIi2 pt) a3 a4 #[#[_,_,a2],.inr #[s.6,false,_,a1,a5,sz]]
 ·have D:=Dv z1 pt z0 j1 j2 pu.isList pw.isList O.tt O.ii;refine LZ D z1 z2 pt j1 j2 pu.isList pw.isList (u:=u) (v:=v) (by simpa using eu) (by simpa using ev) λh' a1 a3 a4 a5 hk=>?_
  have up:∀c o,c∉[a.z,a.TO,a.i1,a.i2]->s.heap.get? c=some o->h'.get? c=some o:=λc o hc e=>by
   simp only[ay,aH,or_false,not_or] at hc;exact hk c o hc.1 hc.2.2.1 hc.2.2.2 e
  have Tn:∀b∈a.all,T≠b:=λb hb e=>by have:=O.lt b hb;rw[<- e] at this;exact absurd this (Nat.not_lt.mpr z3)
  exact fin h' up a5 (hk _ _ D.TIz D.TIi1 D.TIi2 pt) a3 a4 #[#[_,_,hk _ _ D.TOz D.TOi1 D.TOi2 z0],.inr #[T,true,o,a1,hk _ _ (Tn _ (by simp [Fn.all])) (Tn _ (by simp [Fn.all])) (Tn _ (by simp [Fn.all])) z2,z3]]
theorem M9 (hh:A'.handled=none) (O:a.Ok) (q1:br X.K H1 l1 xs) (q2:br X.K H1 l2 ys) (hi:xs.9<=i) (L:Sy X pins σ H1 a l1 l2 i H s)
  (hQ:∀s',Inv X pins σ H s'->(∀c o,c∉[a.z,a.TO,a.i1,a.i2]->s.heap.get? c=some o->s'.heap.get? c=some o)->Q none s'):Yy (model X.prog X.w) A' (pyNext (.ref a.z)) Q E s:=by
 obtain I|sm|fps|sz|zst|pt|j1|j2:=id L;obtain us|ru|pu|_:=I.list (sm.seq q1);obtain ws|rw'|pw|_:=I.list (sm.seq q2);have lx:=ru.9;have none1:us.5[i]?=none:=by simp;lia
 have fx:∀b∈[a.z,a.TO,a.i1,a.i2],lQ X pins H b:=λb hb=>fps b (by simp only[Fn.all,ay,aH,or_false] at hb ⊢;rcases hb with e | e | e | e <;> simp [e])
 have fin:∀h',(∀c o,c∉[a.z,a.TO,a.i1,a.i2]->s.heap.get? c=some o->h'.get? c=some o)->Q none { s with heap:=h' }:=λh' up=>hQ _ (I.moved (g':=s.gens) (d':=s.drawn) (t':=s.toks) fx up I.bare) up
 obtain ⟨c,d,z0⟩|z4:=zst;rcases z4 with z1 | ⟨T,b1,o,z1,z2,z3⟩
 ·have D:=Dv z1 pt z0 j1 j2 pu.isList pw.isList O.tt O.ii;refine wpAny_pyNext_zip_end hh D z1 pt z0 j1 j2 pu.isList pw.isList (.inl none1) λh' hk=>fin h' λc o hc e=>?_
  simp only[ay,aH,or_false,not_or] at hc;exact hk c o hc.1 hc.2.1 hc.2.2.1 hc.2.2.2 e
 ·have D:=Dv z1 pt z0 j1 j2 pu.isList pw.isList O.tt O.ii;refine LY hh D z1 z2 pt j1 pu.isList none1 λh' hk=>fin h' λc o hc e=>?_
  simp only[ay,aH,or_false,not_or] at hc;exact hk c o hc.1 hc.2.2.1 hc.2.2.2 e
theorem Ng (hh:A'.handled=none) (O:a.Ok) (hz:xs.9<=YB) (hl:ys.9=xs.9) (q1:br X.K H1 l1 xs) (q2:br X.K H1 l2 ys)
  (fin:∀s' H' ts acc c,Inv X pins σ H' s'->aE H1 H'->lQ X pins H' a.S->s'.heap.get? a.S=some (lobj acc c)->cX ts acc->Yt (TM H') (xs.zip ys) ts->R (.ok (.ret .none)) s') :
  ∀(k i:Nat) (s:Yo) (H:Hp) (ts:List V) (acc:List Value) (c:Nat),xs.9 - i=k->i<=xs.9->Sy X pins σ H1 a l1 l2 i H s->s.heap.get? a.S=some (lobj acc c)->cX ts acc->Yt (TM H) ((xs.zip ys).take i) ts →
   Zy (model X.prog X.w) A' (.builtin "list.extend.loop" #[[.ref a.S,.ref a.z,.none],[]]) R s:=by
 have Sn:a.S∉[a.z,a.TO,a.i1,a.i2]:=λh=>by
  simp only[ay,aH,or_false] at h;rcases h with e | e | e | e
  ·exact O.Sz e
  ·exact O.STO e
  ·exact O.Si1 e
  ·exact O.Si2 e
 intro k
 induction k with
 | zero =>
  intro i s H ts acc c hk hi L gS rv prs;have e:i=xs.9:=()
  refine codeAny_builtin VO ?_;rw[Y3.under_plainId nJ _]
  change Yy _ A'.in1 (pyNext (Yx a.z) >>= _) _ _ s
  refine K0 (M9 hh O q1 q2 () L λs' I' up=>Yp (fin s' H ts acc c I' L.same (L.fps _ (by simp [Fn.all])) (up _ _ Sn gS) rv ?_));rwa [aF (by rw[sX];lia)] at prs
 | succ k ih =>
  intro i s H ts acc c hk hi L gS rv prs;have hlt:i < xs.9:=()
  have lt:=prs.9;have la:=rv.9;refine codeAny_builtin VO ?_;rw[Y3.under_plainId nJ _]
  change Yy _ A'.in1 (pyNext (Yx a.z) >>= _) _ _ s
  refine K0 (Nc O q1 q2 (x:=xs[i]) (y:=ys[i]'()) (by simp [hlt]) (by simp) L λs' L' up hT=>?_);have gS':=up _ _ Sn gS
  change Yy _ A'.in1 (updateSeq a.S (·.push (Yx s.6)) >>= _) _ _ s'
  have small:acc.9<=YB:=by
   rw[bf,sX] at lt
   lia
  refine K0 (ZJ gS' rfl (Yp #[plainId_quiet nJ _,?_]) (by rw[aM];exact small) (by
   show (acc.toArray.push (Yx s.6)).7<=YB+1
   rw[Array.size_push,aM]
   lia))
  have gS2:=nk gS' (λb=>b.push (Yx s.6));have e2:(acc.toArray.push (Yx s.6))=(acc++[Yx s.6]).5:=by simp
  rw[e2] at gS2;refine ih (i+1) _ (upd H s.heap.objs.size (.tup [xs[i],ys[i]'()])) (ts++[.ref s.6]) (acc++[.ref s.6]) _ () hlt (L'.push O (λb o hb e=>(YJ _ _ (YI hb)).trans e) (Heap.size_update ..)) gS2 (rv.append (show cX [V.ref s.6] [Yx s.6] from .cons rfl .nil)) ?_;have zp:(xs.zip ys)[i]?=some (xs[i],ys[i]'()):=by simp [VP,hlt]
  rw[take_snoc zp];exact (ce (λ_ _ z=>z.same (aE.new hT)) prs).snoc #[_,rfl,aD]
theorem IL:typeLookup (.type "zip") "__len__"=pure Zg:=by rw[typeLookup_type,builtinLookup_eq_fast];kernel_rfl
theorem Fy:typeLookup (.type "zip") "__length_hint__"=pure Zg:=by rw[typeLookup_type,builtinLookup_eq_fast];kernel_rfl
theorem Nd (hh:A'.handled=none) (O:a.Ok) (hz:xs.9<=YB) (hl:ys.9=xs.9) (q1:br X.K H1 l1 xs) (q2:br X.K H1 l2 ys) (L:Sy X pins σ H1 a l1 l2 0 H s) (gS:s.heap.get? a.S=some (lobj [] 0)) (z0:IsZip s.heap a.z a.TI a.TO .none)
  (fin:∀s' H' ts acc c,Inv X pins σ H' s'->aE H1 H'->lQ X pins H' a.S->s'.heap.get? a.S=some (lobj acc c)->cX ts acc->Yt (TM H') (xs.zip ys) ts->R (.ok (.ret .none)) s') :
  Yy (model X.prog X.w) A'.in1 (Y5.«list.__init__» #[[.ref a.S,.ref a.z],[]]) (λfl s'=>match fl with | .done f=>R (.ok f) s' | .again c'=>c'.quiet=true/\Zy (model X.prog X.w) A' c' R s') (λe s'=>R (.error e) s') s:=by
 change Yy _ A'.in1 (do let old <- Y5.List.listItems (Yx a.S);Y5.List.listUpdate (Yx a.S) (λ_=>[].toArray);letGo old.toList.reverse;Zz (Yx a.S) (Yx a.z) Zb) _ _ s
 refine K0 ?_;unfold Y5.List.listItems;refine K0 (Zd gS rfl (Yp ?_))
 change Yy _ A'.in1 (updateSeq a.S (λ_=>[].toArray) >>= λ_=>letGo ([].toArray:Array Value).toList.reverse >>= λ_=>Zz (Yx a.S) (Yx a.z) Zb) _ _ s
 refine K0 (ZJ gS rfl ?_);have g1:=nk gS (λ_=>([].toArray:Array Value));obtain ⟨n1,g1⟩:∃n1,(s.heap.update a.S (YQ λ_=>([].toArray:Array Value))).get? a.S=some (lobj [] n1):=#[_,g1];have L1:=L.push (h':=s.heap.update a.S (YQ λ_=>([].toArray:Array Value))) O (λb o hb e=>(YJ _ _ (YI hb)).trans e) (Heap.size_update ..);have z1:IsZip (s.heap.update a.S (YQ λ_=>([].toArray:Array Value))) a.z a.TI a.TO .none:=(YJ _ _ O.Sz).trans z0;refine K0 (wpAny_letGo ?_);unfold Zz;have ty:Yo.TypeIs { s with heap:=s.heap.update a.S (YQ λ_=>([].toArray:Array Value)) } (.ref a.z) "zip":=#[_,z1,rfl];refine K0 (wpAny_typeOf ty ?_);have h1:Y5.List.listSameRef (.ref a.S) (.ref a.z)=false:=by simp [Y5.List.listSameRef,O.Sz]
 have h2:(Y6 "zip" == Y6 "list")=false:=()
 have h3:(Y6 "zip" == Y6 "tuple")=false:=()
 simp only[h1,h2,h3,Bool.or_false,j6,if_false];refine K0 (ZE z1 (K0 (Zc ?_)));unfold Y5.List.listLengthHint;refine K0 (wpAny_specialOf ty IL ?_)
 change Yy _ A'.in1 (specialOf (Yx a.z) (YV "__length_hint__") >>= _) _ _ _
 refine K0 (wpAny_specialOf ty Fy (Yp ?_))
 change Yy _ A'.in1 (rule "list.extend.makes-room" >>= λ_=>Y5.List.listTouch (Yx a.S) >>= λ_=>again (.builtin "list.extend.loop" #[[Yx a.S,Yx a.z,Zb],[]])) _ _ _
 refine K0 (wpAny_rule (K0 ?_))
 change Yy _ A'.in1 (updateSeq a.S (·.push Zb) >>= λ_=>updateSeq a.S (·.pop)) _ _ _
 refine K0 (ZJ g1 rfl ?_);have g2:=nk g1 (λb=>b.push Zb);obtain ⟨n2,g2⟩:∃n2,((s.heap.update a.S (YQ λ_=>([].toArray:Array Value))).update a.S (YQ λb=>b.push Zb)).get? a.S=some (lobj [Zb] n2):=#[_,g2];have L2:=L1.push (h':=(s.heap.update a.S (YQ λ_=>([].toArray:Array Value))).update a.S (YQ λb=>b.push Zb)) O (λb o hb e=>(YJ _ _ (YI hb)).trans e) (Heap.size_update ..);refine ZJ g2 rfl ?_ (jR rfl);have g3:=nk g2 (λb=>b.pop);have L3:=L2.push (h':=((s.heap.update a.S (YQ λ_=>([].toArray:Array Value))).update a.S (YQ λb=>b.push Zb)).update a.S (YQ λb=>b.pop)) O (λb o hb e=>(YJ _ _ (YI hb)).trans e) (Heap.size_update ..);exact Yp #[plainId_quiet nJ _,Ng hh O hz hl q1 q2 fin _ 0 _ H [] [] _ rfl (a8 _) L3 g3 .nil .nil]
end
section
variable {X:Cx}
theorem TX (n:Nat):Fn.Ok #[n+4,n+2,n+3,n,n+1,n+5,n+5+1]:=by
 have ne:∀p q:Nat,p≠q->@Ne Addr p q:=λ_ _ h=>h
 refine #[ne (n+2) (n+3) (),ne n (n+1) (),ne (n+5) (n+4) (),ne (n+5) (n+2) (),ne (n+5) (n+3) (),ne (n+5) n (),ne (n+5) (n+1) (),λb hb=>?_];have hb':b∈[n+4,n+2,n+3,n,n+1,n+5]:=hb;show @LT.lt Nat instLTNat b (n+5+1)
 simp only[ay,aH,or_false] at hb';rcases hb' with e | e | e | e | e | e <;> (rw[e];exact bD (iD _) ())
def FG (K:FG9) (ta:TA):TE:=λσ H Q=>ta σ H λvs H1=>∃(l1 l2:Addr) (xs ys:List V),vs=[.ref l1,.ref l2]/\br K H1 l1 xs/\br K H1 l2 ys/\ys.9=xs.9 /\
 ∀L ts H',aE H1 H'->H1 L=none->H' L=some (.lst ts)->Yt (TM H') (xs.zip ys) ts->Q (.ref L) H'
theorem Aj {e1 e2:Expr} {ta:TA} {p p2 pos pos2:Pos} (hg:Gl X "list") (hm:X.mg "list"=none) (hg2:Gl X "zip") (hm2:X.mg "zip"=none) (ha:PA X [e1,e2] ta) (hc:X.calm=true:=by rfl)
  (hs:Yu [e1,e2] X.env=[(false,eval e1 X.env),(false,eval e2 X.env)]:=by rfl) (hs2:Yu [e2] X.env=[(false,eval e2 X.env)]:=by rfl)
  (hs3:Yu [ZP (.Name "zip" p2) [e1,e2] [] pos2] X.env=[(false,eval (.Call (.Name "zip" p2) [e1,e2] [] pos2) X.env)]:=by rfl) :
  PE X (.Call (.Name "list" p) [.Call (.Name "zip" p2) [e1,e2] [] pos2] [] pos) (FG X.K ta):=by
 intro pins s σ H Q I h;refine YU (mJ I hg hm boot_list ?_);refine YE ?_ (by rw[hs3];rfl) rfl;rw[hs3];show Yy _ _ (spliced ((false,eval (.Call (.Name "zip" p2) [e1,e2] [] pos2) X.env) :: [])) _ _ s
 refine Calls.spliced_cons ?_;refine Call_ (mJ I hg2 hm2 boot_zip (YE (ib (ha pos2 pins s σ H _ I h) λus s1 #[vs,H1,I1,r1,q1]=>?_) (by rw[hs,hs2]) (by rw[hs2];rfl)));obtain l1|l2|xs|ys|e|qx|qy|hl|q:=q1;subst e;obtain u|v|rfl|ru|rv:=vals2 r1;cases ru;cases rv;obtain us|rx|px|hz:=I1.list qx;obtain ws|ry|py|_:=I1.list qy;refine call_zip_2 px.isList py.isList λh' a1 a2 a3 a4 a5 a6 hk=>?_
 refine Calls.spliced_nil ?_;have I2:Inv X pins σ H1 { s1 with heap:=h' }:=I1.kept (t':=s1.toks) hk;have up:∀b o,h'.get? b=some o->(h'.push { cls:=.type "list",data:=.seq [].toArray }).get? b=some o:=λb o e=>Ym _ e
 have O:Fn.Ok #[s1.6+4,s1.6+2,s1.6+3,s1.6,s1.6+1,h'.objs.7,h'.objs.7+1]:=by
  rw[a6];exact TX s1.heap.objs.size
 have old:∀b∈(Fn.mk (s1.6+4) (s1.6+2) (s1.6+3) s1.heap.objs.size (s1.6+1) h'.objs.size (h'.objs.7+1)).all,s1.6<=b:=λb hb=>by
  rw[a6] at hb;simp only[Fn.all,ay,aH,or_false] at hb;rcases hb with rfl | rfl | rfl | rfl | rfl | rfl <;> first | exact rg _ _ | exact ah _
 have gS:(h'.push { cls:=.type "list",data:=.seq [].toArray }).get? h'.objs.7=some (lobj [] 0):=Yw _ rfl;refine callType_codes (Q₁:=λob t=>ob=.ref h'.objs.7/\t={ s1 with heap:=h'.push { cls:=.type "list",data:=.seq [].toArray } }) PySem.F.called_list (PySem.F.typeCall_list_1 _) PySem.F.entry_list_init (code_list_new _ ⟨rfl,rfl⟩) λob t ht=>?_
 obtain rfl|rfl:=ht;refine #[#[_,gS,rfl],PySem.F.args_list_init_2 _ _,?_]
 have L:Sy X pins σ H1 #[s1.6+4,s1.6+2,s1.6+3,s1.6,s1.6+1,h'.objs.7,h'.objs.7+1] l1 l2 0 H1 { s1 with heap:=h'.push { cls:=.type "list",data:=.seq [].toArray } } :=
  #[I2.kept (t':=s1.toks) up,aE.refl _,λb hb=>I1.fpOk (old b hb) (I1.hok.fresh (old b hb)),by rw[YT];exact ah _,#[#[_,_,up _ _ a3],.inl (up _ _ a1)],up _ _ a2,a4.at λo e=>up _ o e,a5.at λo e=>up _ o e]
 refine Nd (A':=X.A.in1) (I.ok.hd hc) O hz hl qx qy L gS (up _ _ a1) λs' H' ts acc c I' sm fS gS' vs' prs=>#[rfl,?_]
 have nS:H1 h'.objs.7=none:=I1.hok.fresh (old _ (by simp [Fn.all]));have lt:=prs.9;rw[sX] at lt;exact #[.ref h'.objs.7,_,I'.track (o:=.lst ts) fS #[(),acc,c,vs',gS'],rfl,q _ ts _ (sm.trans (aE.new fS.1)) nS aD (ce (λ_ _ z=>z.same (aE.new fS.1)) prs)]
end
end L2
namespace Nm
def xY:List Int->Int->Int
 | [],m=>m
 | b :: r,m=>xY r (m*(b / g m b))
theorem wC (hm:0 < m) (hb:0 < b):0 < m*(b / g m b):=eY hm (Ex (t:=m) hb)
theorem Es:b∣m*(b / g m b):=by
 have h1:=AJ m b;refine #[lo m b,?_];have h2:b / g m b*g m b=b:=ya m b
 calc m*(b / g m b)=lo m b*g m b*(b / g m b):=by rw[h1]
  _=lo m b*(b / g m b*g m b):=by rw[eE,ik (g m b)]
  _=b*lo m b:=by rw[h2,ik]
theorem AL:∀{bs:List Int} {m:Int},0 < m->(∀b∈bs,0 < b)->0 < xY bs m
 | [],_,hm,_=>hm
 | b :: r,m,hm,h=>AL (bs:=r) (wC hm (h b cU)) λc hc=>h c (bS _ hc)
theorem GH:∀{bs:List Int} {m:Int},m∣xY bs m
 | [],_=>zF _
 | b :: r,m=>Int.dvd_trans (Int.dvd_mul_right m _) (GH (bs:=r))
theorem GG:∀{bs:List Int} {m b:Int},b∈bs->b∣xY bs m
 | c :: r,m,b,h=>by
  rcases ay.mp h with rfl | h
  ·exact Int.dvd_trans Es (GH (bs:=r))
  ·exact GG (bs:=r) h
end Nm
namespace L2
open PySem PySem.Spec PyProof.Rows Nm
def Fo (K:FG9) (H:Hp) (p:Addr) (ns:List (Int×Int)):Prop:=∃xs,H p=some (.lst xs)/\Yt (λn x=>Il K H x n) ns xs
theorem Fo.same {K:FG9} (h:Fo K H p ns) (e:aE H H'):Fo K H' p ns:=by obtain xs|g|q:=h;exact #[xs,e _ _ g,ce (λ_ _ z=>e.num z) q]
def Gh (K:FG9) (T:String):V->Hp->VK->Prop:=λx H Q=>LK K T x H Q\/∃a xs b,x=.ref a/\pA K H a xs/\PySem.W.kitOne K (.type "tuple") (.type T)=some b/\Q (.bl b) H
theorem CU:∀{bs:List Int} {m b:Int},xY (bs++[b]) m=xY bs m*(b / g (xY bs m) b)
 | [],_,_=>rfl
 | c :: r,m,b=>CU (bs:=r)
def dJ (ns:List (Int×Int)) (B:Int):List Int:=ns.map λn=>n.1*(B / n.2)
def fD (ns:List (Int×Int)):Int:=xY (ns.map (·.2)) 1
def JB (ns ms:List (Int×Int)):Int:=(W0 (λx y=>x*y) (dJ ns (fD ns)) (dJ ms (fD ms))).sum
theorem oZ (h:n∈ns):n.2∣fD ns:=GG (au.mpr #[n,h,rfl])
theorem Ja {K:FG9} (h:ta σ H λvs H1=>∃(l1 l2:Addr) (xs ys:List V),vs=[.ref l1,.ref l2]/\br K H1 l1 xs/\br K H1 l2 ys/\ys.9=xs.9 /\
 ∀L ts H',aE H1 H'->H1 L=none->H' L=some (.lst ts)->Yt (TM H') (xs.zip ys) ts->Q (.ref L) H'):FG K ta σ H Q:=h
theorem Ya (hb:0 < b) (h:Sz k b):Sz k (g m b):=h.le (by
 have h1:(g m b).natAbs=Y8 m b:=by unfold g;simp
 rw[h1];exact kG () (by have:=gW (a:=m) (b:=b);exact fU.mpr this |> λz=>by simpa using z))
theorem Kd {ts us:List Int} {i:Nat} (h:((ts.map V.int).zip (us.map V.int))[i]?=some pq):∃t u,ts[i]?=some t/\us[i]?=some u/\pq=(.int t,.int u):=by
 rw[VP,aw,aw] at h;obtain h1|h2:=h;cases e1:ts[i]? with
 | none=>rw[e1] at h1;cases h1
 | some t =>
  cases e2:us[i]? with
  | none=>rw[e2] at h2;cases h2
  | some u =>
   rw[e1] at h1;rw[e2] at h2;refine #[t,u,rfl,rfl,?_];cases pq;simp at h1 h2;rw[h1,h2]
def LB (K:FG9):Sp:=λvs H Q _=>∃x n,vs=[x]/\Il K H x n/\yG n/\∀H',aE H H'->Q (.bl true) H'
inductive xv (K:FG9) (vs:List V) (H:Hp) (Q:VK) (E9:XK):Prop
 | mk (p:Addr) (ns:List (Int×Int)):vs=[.ref p,.int ns.9]->Fo K H p ns->ns.9<=1000->(∀n∈ns,yG n)->(∀H',aE H H'->Q (.bl true) H')->xv K vs H Q E9
theorem zi {X:Cx} {a:Expr} {ta:TE} {pos:Pos} {c:Str} {T:String} {p p2:Pos} (hg:Gl X "isinstance") (hm:X.mg "isinstance"=none) (hb:Zt c=some (.type T)) (hmc:X.mg c=none) (ha:PE X a ta) (hgc:Gl X c:=by rfl) (hn:c≠"__name__":=by decide)
  (hd:(c == ("__debug__":Str))=false:=by decide) (he:Yu [a,.Name c p2] X.env=[(false,eval a X.env),(false,eval (.Name c p2) X.env)]:=by rfl)
  (hpl:(ZK pos (Yu [.Name c p2] X.env)).any (·.1)=false:=by rfl) (he2:Yu [.Name c p2] X.env=[(false,eval (.Name c p2) X.env)]:=by rfl):PE X (.Call (.Name "isinstance" p) [a,.Name c p2] [] pos) (XJ (Gh X.K T) ta):=by
 intro pins s σ H Q I h;refine YU (mJ I hg hm PyProof.Rows.boot_isinstance ?_);have hA:PA X [a,.Name c p2] (jQ ta (jQ (tC (.ty T)) Bn)):=gQ ha (gQ (Kw hgc hmc hb rfl hn hd) jx he2) (by rw[he,he2])
 have hq:jQ ta (jQ (tC (.ty T)) Bn) σ H (λvs H1=>∃x,vs=[x,.ty T]/\Gh X.K T x H1 Q):=by
  show ta σ H λx H1=>∃x',[x,V.ty T]=[x',V.ty T]/\Gh X.K T x' H1 Q
  have e:(λx H1=>∃x',[x,V.ty T]=[x',V.ty T]/\Gh X.K T x' H1 Q)=λx H1=>Gh X.K T x H1 Q:=by
   funext x H1;apply propext;constructor
   ·rintro ⟨x',e,q⟩;cases e;exact q
   ·intro q;exact #[x,rfl,q]
  rw[e];exact h
 refine Zq (ib (hA pos pins s σ H _ I hq) λus s1 #[vs,H1,I1,r1,x,e,q1]=>?_) (by rw[he,he2]) hpl;subst e;obtain u|w'|rfl|ru|rt:=vals2 r1;cases rt;rcases q1 with ⟨t,bb,ty,ek,q⟩ | ⟨ad,xs,bb,rfl,hs,ek,q⟩
 ·exact CW I1 ru ty ek λtk=>#[.bl bb,H1,I1.tok tk,rfl,q]
 ·cases ru;obtain its|_|⟨o,g1,g2,_⟩|_:=I1.tuple hs;exact dP PySem.W.kitx_tuple I1.kIn #[o,g1,g2] ek (λz=>nomatch z) λtk=>#[.bl bb,H1,I1.tok tk,rfl,q]
theorem NZ (h:H l=some (.lst [x])) (hk:k<=1000) (q:∀p H',aE H H'->H p=none->H' p=some (.lst (Mg k x))->Q (.ref p) H'):Wu (.ref l) (.int k) H Q :=
 #[l,k,[x],rfl,rfl,h,(),(),dH (dk (by simp;lia)),λp hp=>q p _ (aE.new hp) hp (by rw[aD];simp)]
theorem Vy {k:Nat} (h:k<=xs.9):qU xs none (some (k:Int))=xs.take k:=by
 unfold qU;rw[HT.tY,HT.DZ,Nat.min_eq_left h];simp
theorem HK {k:Nat}:qU xs (some (k:Int)) none=xs.drop k:=by
 unfold qU;rw[HT.tY,HT.DZ];by_cases h:k<=xs.9
 ·rw[Nat.min_eq_left h,aF (by simp)]
 ·rw[Nat.min_eq_right (),zE (),zE ()];simp
theorem vv {α β:Type} {F:α->β->Prop} {x:α} {y:β} (h:F x y):∀m:Nat,Yt F (Mg m x) (Mg m y)
 | 0=>.nil
 | m+1=>.cons h (vv h m)
theorem fu (h:a < n):M4 n (a:Int)=some a:=by
 unfold M4;rw[if_pos (),if_pos (),Int.toNat_natCast]
theorem HJ {k:Nat}:qU xs none (some (k:Int))=xs.take k:=by
 by_cases h:k<=xs.9
 ·exact Vy h
 ·unfold qU;rw[HT.tY,HT.DZ,Nat.min_eq_right (),aF (by simp),aF ()];rfl
theorem pO {α β:Type} {F:α->β->Prop}:∀{l1:List α} {l2:List β} (_:Yt F l1 l2) (k:Nat),Yt F (l1.take k) (l2.take k)
 | _,_,.nil,k=>by simp;exact .nil
 | _,_,.cons h r,0=>.nil
 | _,_,.cons h r,k+1=>.cons h (pO r k)
def QR (K:FG9):List V->Hp->VK->Prop:=λxs H Q=>∃p ys,xs=[.ref p]/\(br K H p ys\/pA K H p ys)/\∀l,H l=none->Q (.ref l) (upd H l (.lst ys))
theorem iY (K:FG9) (hK:X.K=K):sT X (.type "list") (QR K):=by subst hK;exact oj
theorem aE.none (s:aE H H') (h:H' l=Zg):H l=Zg:=by
 cases e:H l with
 | none=>rfl
 | some o=>have:=s _ _ e;rw[h] at this;cases this
def TQ (K:FG9) (H:Hp) (p:Addr) (rows:List (List (Int×Int))):Prop:=∃xs,H p=some (.lst xs)/\Yt (λns x=>∃q,x=V.ref q/\Fo K H q ns) rows xs
theorem NB (h:b.natAbs<=1000000):Sz 20 b:=aZ h ()
theorem dD.none (u:dD b H H') (B:kH H' b) (h:H' l=Zg):H l=Zg:=by
 cases e:H l with
 | none=>rfl
 | some o =>
  by_cases z:l=b
  ·obtain _|_|_|_|_|e2|_:=B;rw[<- z,h] at e2;cases e2
  ·have:=u.1 l o e z;rw[h] at this;cases this
inductive zU (K:FG9) (vs:List V) (H:Hp) (Q:VK) (E9:XK):Prop
 | mk (p:Addr) (rows:List (List (Int×Int))) (m:Nat):vs=[.ref p,.int rows.9,.int m]->TQ K H p rows->rows.9<=1000->m<=1000->((∀ns∈rows,ns.9=m/\∀n∈ns,yG n))->(∀H',aE H H'->Q (.bl true) H')->zU K vs H Q E9
end L2
namespace Nm
def nm (q:Rat):Int×Int:=(q.num,(q.den:Int))
theorem gZ (q:Rat):0 < (nm q).2:=by have:=q.den_pos;show 0 < (q.den:Int);lia
theorem En (q:Rat):Y8 (nm q).1 (nm q).2=1:=q.reduced
theorem UY (h:nm p=nm q):p=q:=by
 have h1:p.num=q.num:=congrArg Prod.fst h;have h2:(p.den:Int)=q.den:=congrArg Prod.snd h;exact Rat.ext h1 ()
theorem mS (q:Rat):(q.num:Rat)=q*(q.den:Rat):=by
 have h:=Rat.num_divInt_den q;rw[Rat.divInt_eq_div] at h
 have hd:((q.den:Int):Rat)≠0:=by
  intro z;have z:=eQ.mp z;have:=q.den_pos
  lia
 have e:((q.den:Int):Rat)=(q.den:Rat):=aJ _
 calc (q.num:Rat)=(q.num:Rat) / ((q.den:Int):Rat)*((q.den:Int):Rat):=(ID hd).symm
  _=q*(q.den:Rat):=by rw[h,e]
theorem WH (hb:0 < b) (hg:Y8 a b=1) (e:q*(b:Rat)=(a:Rat)):(a,b)=nm q:=by
 have h1:a*(q.den:Int)=q.num*b:=by
  apply dO.mp;rw[aL,aL,<- e,mS,aJ];grind
 obtain e1|e2:=uniq hb (gZ q) hg (En q) h1;exact Prod.ext e1 e2
theorem oi {t b:Int} (hb:0 < b) (e:q*(b:Rat)=(t:Rat)):(lo t b,hi t b)=nm q:=by
 refine WH (Ex hb) (AH ()) ?_;have h:=AI t b;have hb':(b:Rat)≠0:=λz=>by have:=eQ.mp z;lia
 have h2:((lo t b:Int):Rat)*(b:Rat)=(t:Rat)*((hi t b:Int):Rat):=by rw[<- aL,h,aL]
 rw[<- e] at h2;have h3:(q*((hi t b:Int):Rat) - ((lo t b:Int):Rat))*(b:Rat)=0:=by grind
 rcases Rat.mul_eq_zero.mp h3 with h4 | h4
 ·grind
 ·exact absurd h4 hb'
def Fr (M V:Nat) (q:Rat):Prop:=∃z:Int,q*(M:Rat)=(z:Rat)/\z.natAbs<=V*M
theorem Fr.mono (h:Fr M V q) (l:V<=V'):Fr M V' q:=by obtain z|e|b:=h;exact #[z,e,ag b (ax _ l)]
theorem Fr.scale (h:Fr M V q) (k:Nat):Fr (M*k) V q:=by
 obtain z|e|b:=h;refine #[z*k,?_,?_]
 ·rw[sW,aL,<- e,aJ,xj]
 ·rw[eC,b9,<- cD];exact ax _ b
theorem Fr.scaleL (h:Fr M V q) (k:Nat):Fr (k*M) V q:=by rw[bu];exact h.scale k
theorem Fr.dvd (h:Fr M V q) (d:M∣N):Fr N V q:=by obtain k|rfl:=d;exact h.scale k
theorem Fr.add (h:Fr M V p) (h':Fr M W q):Fr M (V+W) (p+q):=by
 obtain z|e|b:=h;obtain z'|e'|b':=h';refine #[z+z',by rw[kE,<- e,<- e',Rat.add_mul],?_];rw[PU];have:=Int.natAbs_add_le z z'
 lia
theorem Fr.neg (h:Fr M V q):Fr M V (-q):=by
 obtain z|e|b:=h;exact #[-z,by rw[cO,<- e,Rat.neg_mul],by rw[mi];exact b]
theorem Fr.sub (h:Fr M V p) (h':Fr M W q):Fr M (V+W) (p - q):=by rw[IA];exact h.add h'.neg
theorem Fr.mul (h:Fr M V p) (h':Fr N W q):Fr (M*N) (V*W) (p*q):=by
 obtain z|e|b:=h;obtain z'|e'|b':=h';refine #[z*z',?_,?_]
 ·rw[sW,aL,<- e,<- e'];grind
 ·rw[eC]
  calc z.natAbs*z'.natAbs<=(V*M)*(W*N):=aP b b'
   _=V*W*(M*N):=by rw[cD,Nat.mul_left_comm M,<- cD]
theorem Fr.zero:Fr M V 0:=#[0,by simp,by simp]
theorem Fr.int {i:Int} (h:i.natAbs<=V):Fr M V (i:Rat):=#[i*M,by rw[aL,aJ],by rw[eC,b9];exact ax _ h]
theorem Fr.one (h:1<=V):Fr M V 1:=Fr.int (i:=1) h
theorem Fr.den (h:Fr M V q):(q.den:Int)∣(M:Int):=by
 obtain z|e|b:=h
 have h1:q.num*(M:Int)=z*(q.den:Int):=by
  apply dO.mp;rw[aL,aL,<- e,mS,aJ,aJ];grind
 have h2:(q.den:Int)∣q.num*(M:Int):=#[z,by rw[h1,ik]];exact sG (by rw[nC];exact En q) h2
theorem Fr.den_le (h:Fr M V q) (hM:0 < M):q.den<=M:=kG hM (o9.mp h.den)
theorem Fr.num_le (h:Fr M V q) (hM:0 < M):q.num.natAbs<=V*M:=by
 have hd:=h.den;obtain z|e|b:=h;obtain k|hk:=o9.mp hd;have hk0:k≠0:=λz=>by rw[z,Nat.mul_zero] at hk;lia
 have h1:z=q.num*(k:Int):=by
  apply dO.mp;rw[aL,<- e,mS,aJ,hk,sW];grind
 rw[h1] at b;exact ag (qK ()) b
theorem Fr.own (q:Rat) (h:q.num.natAbs<=V):Fr q.den V q:=#[q.num,(mS q).symm,ag h (eU _ q.den_pos)]
theorem Fr.sz (h:Fr M V q) (hM:0 < M) (h1:M<=2^k) (h2:V<=2^j):Sz (j+k+1) (nm q).1/\Sz (k+1) (nm q).2:=by
 constructor
 ·show q.num.natAbs < 2^(j+k+1)
  have h3:=h.num_le hM;have h4:V*M<=2^j*2^k:=aP h2 h1;rw[c7,bG];have:=Nat.two_pow_pos (j+k);rw[bG] at this
  lia
 ·show (q.den:Int).natAbs < 2^(k+1)
  have h3:=h.den_le hM;rw[b9,c7];have:=Nat.two_pow_pos k
  lia
theorem Fr.sum {M V:Nat}:∀{l:List Rat},(∀x∈l,Fr M V x)->Fr M (l.9*V) l.sum
 | [],_=>by simp;exact Fr.zero
 | x :: r,h=>by
  rw[gH,bL,dG,ij];exact (h x (.head _)).add (Fr.sum λy hy=>h y (.tail _ hy))
def fX (xs ys:List Rat):Rat:=(W0 (λx y=>x*y) xs ys).sum
theorem Fr.dot (h:∀x∈xs,Fr M V x) (h':∀y∈ys,Fr N W y):Fr (M*N) (xs.9*(V*W)) (fX xs ys):=by
 have q:=Fr.sum (M:=M*N) (V:=V*W) (l:=W0 (λx y=>x*y) xs ys) λz hz=>by
  obtain i|hi|e:=bN hz;rw[dn] at e;rw[<- e];exact (h _ (az _)).mul (h' _ (az _))
 exact q.mono (ax _ (by rw[aT];lia))
theorem zo:∀{bs:List Int} {m M:Int},0 < m->m∣M->(∀b∈bs,0 < b/\b∣M)->xY bs m∣M
 | [],_,_,_,h,_=>h
 | b :: r,m,M,hm,h,hb=>by
  have b1:=hb b cU;refine zo (bs:=r) (wC hm b1.1) ?_ λc hc=>hb c (bS _ hc)
  have gp:0 < g m b:=AQ ();have e1:=AJ m b;have e2:=ya m b;obtain u|hu:=h;obtain v|hv:=b1.2
  have h3:lo m b*u=hi m b*v:=by
   apply uX (show g m b≠0 by lia)
   calc lo m b*u*g m b=lo m b*g m b*u:=by rw[eE,ik u,<- eE]
    _=m*u:=by rw[e1]
    _=M:=hu.symm
    _=b*v:=hv
    _=hi m b*g m b*v:=by rw[e2]
    _=hi m b*v*g m b:=by rw[eE,ik (g m b),<- eE]
  have h4:hi m b∣lo m b*u:=#[v,h3];have h5:hi m b∣u:=sG (by rw[nC];exact AH ()) h4;obtain w|hw:=h5;refine #[w,?_];show M=m*hi m b*w
  rw[hu,hw,eE]
theorem ED (hb:0 < b) (d:a∣b) (h:Sz k b):Sz k a:=h.le (kG () (fU.mpr d))
end Nm
namespace Nm
def Dr (W:Nat) (x:Rat):Prop:=x.num.natAbs<=W/\x.den<=W
def vZ:List Nat->Nat
 | []=>1
 | a :: r=>a*vZ r
theorem xQ:∀{l:List Nat},(∀a∈l,0 < a)->0 < vZ l
 | [],_=>Nat.one_pos
 | a :: r,h=>b8 (h a (.head _)) (xQ λb hb=>h b (.tail _ hb))
theorem xR:∀{l:List Nat} {a:Nat},a∈l->a∣vZ l
 | b :: r,a,h=>by
  rcases ay.mp h with rfl | h
  ·exact lU ..
  ·exact Iu (xR h) (iE ..)
theorem Af {k:Nat}:∀{l:List Nat},(∀a∈l,a<=2^k)->vZ l<=2^(k*l.9)
 | [],_=>by simp [vZ]
 | a :: r,h=>by
  rw[bL,Nat.mul_succ,bG,bu (2^(k*r.9))];exact aP (h a (.head _)) (Af λb hb=>h b (.tail _ hb))
def GF (M V:Nat) (rows:LR9):Prop:=∀xs∈rows,∀x∈xs,Fr M V x
def VL (c n i:Nat) (rows:LR9):Prop:=∃M,0 < M/\M<=2^(i*(c*n+2))/\GF M (2^(20+2*i)) rows
theorem Vh:VL c n 0 []:=#[1,(),by simp,λ_ h=>nomatch h]
theorem Vi (c n i:Nat):(i+1)*(c*n+2)=i*(c*n+2)+(c*n+2):=dG ..
theorem RE (h:VL c n i rows) (hl:xs.9=n) (hd:∀x∈xs,Dr (2^c) x) (hc:c<=20):VL c n (i+1) (rows++[xs]):=by
 obtain M|h0|h1|h2:=h
 have dp:0 < vZ (xs.map (·.den)):=xQ λa ha=>by
  obtain x|_|rfl:=au.mp ha;exact x.den_pos
 have dl:vZ (xs.map (·.den))<=2^(c*n):=by
  have:=Af (k:=c) (l:=xs.map (·.den)) λa ha=>by
   obtain x|hx|rfl:=au.mp ha;exact (hd x hx).2
  rwa [af,hl] at this
 refine #[M*vZ (xs.map (·.den)),b8 h0 dp,?_,λys hy x hx=>?_]
 ·rw[Vi,bG];exact aP h1 (ag dl (ar () ()))
 ·rcases aB.mp hy with hy | hy
  ·exact ((h2 ys hy x hx).scale _).mono (ar () ())
  ·have e:ys=xs:=by simpa using hy
   subst e;have f:Fr x.den (2^c) x:=Fr.own x (hd x hx).1;have g:=(f.dvd (xR (au.mpr #[x,hx,rfl]))).scaleL M;exact g.mono (ar () ())
def cx (rows:LR9) (w:Nat):LR9:=(Yq w).map λj=>rows.map λxs=>xs.getD j 0
def ju (one other:LR9) (w:Nat):LR9:=one.map λxs=>(cx other w).map λys=>fX ys xs
theorem eK:(cx rows w).9=w:=by simp [cx]
theorem mB:∀ys∈cx rows w,ys.9=rows.9:=λys hy=>by
 obtain j|_|rfl:=au.mp hy;exact af ..
theorem getD_map {α:Type} {l:List α} {f:α->Rat} (h:i < l.9):(l.map f).getD i 0=f l[i]:=by
 rw[aa,aw,ae h];rfl
end Nm
namespace L2
open PySem PySem.Spec PyProof.Rows Nm
theorem dD.sqt {K:FG9} (u:dD b H H') (B:kH H b) (h:pA K H a xs):pA K H' a xs:=by
 rcases h with (h | ⟨o,h⟩) | h
 ·exact .inl (.inl (u.tup B h))
 ·exact .inl (.inr #[o,u.other (λz=>by obtain _|_|_|_|_|e|_:=B;rw[z,e] at h;cases h) h])
 ·exact .inr h
theorem NF {K:FG9} (h:pA K H a xs) (hl:H l=some (.lst ys)):pA K (upd H l o) a xs:=by
 rcases h with (h | ⟨o,h⟩) | h
 ·exact .inl (.inl (by rw[aY λz=>by rw[z,hl] at h;cases h];exact h))
 ·exact .inl (.inr #[o,by rw[aY λz=>by rw[z,hl] at h;cases h];exact h])
 ·exact .inr h
def bY (K:FG9) (H:Hp) (q:Rat) (x:V):Prop:=Il K H x (nm q)
section
variable {K:FG9} {H H':Hp} {q:Rat} {x:V} {b l p:Addr} {qs:List Rat}
theorem bY.same (h:bY K H q x) (e:aE H H'):bY K H' q x:=e.num h
theorem bY.upto (h:bY K H q x) (u:dD b H H') (B:kH H b):bY K H' q x:=by obtain p|e|s:=h;exact #[p,e,u.sqt B s]
theorem bY.updL (h:bY K H q x) (hl:H l=some (.lst ys)):bY K (upd H l o) q x:=by obtain p|e|s:=h;exact #[p,e,NF s hl]
theorem bY.mk (h:H r=some (.tup [.int a,.int c])) (e:(a,c)=nm q):bY K H q (.ref r):=#[r,rfl,by rw[<- e];exact pA.of h]
def df (K:FG9) (H:Hp) (p:Addr) (qs:List Rat):Prop:=∃xs,H p=some (.lst xs)/\Yt (bY K H) qs xs
theorem df.same (h:df K H p qs) (e:aE H H'):df K H' p qs:=by obtain xs|g|r:=h;exact #[xs,e _ _ g,ce (λ_ _ z=>z.same e) r]
theorem df.upto (h:df K H p qs) (u:dD b H H') (B:kH H b) (n:p≠b):df K H' p qs:=by obtain xs|g|r:=h;exact #[xs,u.other n g,ce (λ_ _ z=>z.upto u B) r]
theorem df.updL (h:df K H p qs) (hl:H l=some (.lst ys)) (n:p≠l):df K (upd H l o) p qs:=by obtain xs|g|r:=h;exact #[xs,by rw[aY n];exact g,ce (λ_ _ z=>z.updL hl) r]
theorem ue {α β γ:Type} {F:α->β->Prop} {f:γ->α}:∀{l:List γ} {l2:List β},Yt (λc x=>F (f c) x) l l2->Yt F (l.map f) l2
 | _,_,.nil=>.nil
 | _,_,.cons r t=>.cons r (ue t)
theorem df.rowK (h:df K H p qs):Fo K H p (qs.map nm):=by obtain xs|g|r:=h;exact #[xs,g,ue (F:=λn x=>Il K H x n) r]
def cC (K:FG9) (H0 H:Hp) (qs:List Rat) (x:V):Prop:=∃q,x=V.ref q/\H0 q=none/\df K H q qs
def bg (K:FG9) (H0 H:Hp) (p:Addr) (rows:LR9):Prop:=∃xs,H p=some (.lst xs)/\Yt (cC K H0 H) rows xs/\V.ref p∉xs
theorem je {rows:LR9} (h:∃H2,H2 p=none/\Yt (cC K H0 H2) rows ys):V.ref p∉ys:=λhm=>by
 obtain H2|e|pr:=h;obtain qs|_|q|z|_|xs|g|_:=eO pr hm;cases z;rw[e] at g;cases g
variable {H0:Hp} {rows:LR9}
theorem cC.same (h:cC K H0 H qs x) (e:aE H H'):cC K H0 H' qs x:=by obtain q|a|b|c:=h;exact #[q,a,b,c.same e]
theorem cC.upto (h:cC K H0 H qs x) (u:dD b H H') (B:kH H b) (nb:H0 b≠none):cC K H0 H' qs x:=by obtain q|a|c|d:=h;exact #[q,a,c,d.upto u B λz=>nb (by rw[<- z];exact c)]
theorem cC.weak (h:cC K H0 H qs x) (e:aE H1 H0):cC K H1 H qs x:=by obtain q|a|b|c:=h;exact #[q,a,e.none b,c]
theorem bg.same (h:bg K H0 H p rows) (e:aE H H'):bg K H0 H' p rows:=by obtain xs|g|r|n:=h;exact #[xs,e _ _ g,ce (λ_ _ z=>z.same e) r,n]
theorem bg.upto (h:bg K H0 H p rows) (u:dD b H H') (B:kH H b) (n:p≠b) (nb:H0 b≠none):bg K H0 H' p rows:=by obtain xs|g|r|nn:=h;exact #[xs,u.other n g,ce (λ_ _ z=>z.upto u B nb) r,nn]
theorem bg.weak (h:bg K H0 H p rows) (e:aE H1 H0):bg K H1 H p rows:=by obtain xs|g|r|n:=h;exact #[xs,g,ce (λ_ _ z=>z.weak e) r,n]
theorem bg.gridK (h:bg K H0 H p rows):TQ K H p (rows.map (YO nm)):=by obtain xs|g|r|_:=h;exact #[xs,g,ue (F:=λns x=>∃q,x=V.ref q/\Fo K H q ns) (ce (λ_ _ #[q,a,_,c]=>#[q,a,c.rowK]) r)]
end
def KH:Kind Rat:=WL.via nm (λ_ _ e=>UY e) (λK H x q=>bY K H q x) id
def GK:Kind (List Rat):=WM KH
def AO:Kind (LR9):=WM GK
theorem df.kind {K:FG9} (h:df K H p qs):GK.R K H (.ref p) qs:=by obtain xs|g|q:=h;exact #[p,xs,rfl,br.of g,q]
theorem bg.kind {K:FG9} (h:bg K H0 H p rows):AO.R K H (.ref p) rows:=by obtain xs|g|q|_:=h;exact #[p,xs,rfl,br.of g,ce (λ_ _ #[q,a,_,c]=>by rw[a];exact c.kind) q]
def jV (x:Rat):Prop:=Sz 4000000 (nm x).1/\Sz 4000000 (nm x).2
def Fits (l:List Rat):Prop:=∃M V:Nat,0 < M/\M<=2^900/\V<=2^900/\∀x∈l,Fr M V x
theorem Fits.szn (h:Fits l) (hx:x∈l):jV x:=by
 obtain M|V|h0|h1|h2|h3:=h;obtain a|b:=(h3 x hx).sz h0 h1 h2;exact #[a.mono (),b.mono ()]
theorem Fits.ok (h:Fits l) (hx:x∈l):yG (nm x):=#[gZ x,En x,(h.szn hx).1.mono (),(h.szn hx).2.mono ()]
theorem Ez {M V:Nat} (h0:0 < M) (h1:M<=2^1800) (h2:V<=2^1810) (h:Fr M V x):jV x:=by
 obtain a|b:=h.sz h0 h1 h2;exact #[a.mono (),b.mono ()]
theorem DB (h:jV x):yG (nm x):=#[gZ x,En x,h.1.mono (),h.2.mono ()]
inductive oE (K:FG9) (f:Rat->Rat->Rat) (vs:List V) (H:Hp) (Q:VK) (E9:XK):Prop
 | mk (u v:V) (x y:Rat):vs=[u,v]->bY K H x u->bY K H y v->jV x->jV y->(∀r H',aE H H'->bY K H' (f x y) (.ref r)->Q (.ref r) H')->oE K f vs H Q E9
section
variable {K:FG9}
theorem Jf (hf:∀x y:Rat,(f x y)*(((nm x).2*(nm y).2:Int):Rat)=((F (nm x).1 (nm x).2 (nm y).1 (nm y).2:Int):Rat)) (h:oE K f vs H Q E):Kr K F vs H Q E:=by
 obtain u|v|x|y|rfl|⟨p,rfl,hp⟩|⟨q,rfl,hq⟩|⟨s1,s2⟩|⟨s3,s4⟩|k:=h;refine #[p,q,_,_,_,_,rfl,hp,hq,gZ x,gZ y,s1,s2,s3,s4,λr H' s g=>k r H' s (bY.mk g ?_)];exact oi (eY (gZ x) (gZ y)) (hf x y)
theorem qJ (x:Rat):(((nm x).1:Int):Rat)=x*(((nm x).2:Int):Rat):=by
 show (x.num:Rat)=x*(((x.den:Nat):Int):Rat)
 rw[mS,aJ]
theorem zA (h:oE K (λx y=>x+y) vs H Q E):Kr K Tj vs H Q E:=Jf (λx y=>by
 unfold Tj;rw[kE,aL,aL,aL,qJ,qJ];grind) h
theorem zg (h:oE K (λx y=>x - y) vs H Q E):Kr K O5 vs H Q E:=Jf (λx y=>by
 unfold O5;rw[Bi,aL,aL,aL,qJ,qJ];grind) h
theorem zj (h:oE K (λx y=>x*y) vs H Q E):Kr K O4 vs H Q E:=Jf (λx y=>by
 unfold O4;rw[aL,aL,qJ,qJ];grind) h
end
def vH (M:Int) (ns:List (Int×Int)):Prop:=0 < M/\Sz 4400000 M/\∀n∈ns,0 < n.2/\n.2∣M/\Sz 4400000 n.1
theorem vH.bot (h:vH M ns):0 < fD ns/\Sz 4400000 (fD ns):=by
 have hb:∀b∈ns.map (·.2),0 < b/\b∣M:=λb hb=>by
  obtain n|hn|rfl:=au.mp hb;exact #[(h.2.2 n hn).1,(h.2.2 n hn).2.1]
 exact #[AL () λb q=>(hb b q).1,ED h.1 (zo () (Int.one_dvd _) hb) h.2.1]
inductive NI (K:FG9) (vs:List V) (H:Hp) (Q:VK) (E9:XK):Prop
 | mk (p:Addr) (bs:List Int) (M:Int):vs=[.ref p]->br K H p (bs.map V.int)->0 < M->Sz 4400000 M->((∀b∈bs,0 < b/\b∣M))->Q (.int (xY bs 1)) H->NI K vs H Q E9
inductive NJ (K:FG9) (vs:List V) (H:Hp) (Q:VK) (E9:XK):Prop
 | mk (p:Addr) (ns:List (Int×Int)) (M:Int):vs=[.ref p]->Fo K H p ns->ns.9<=1000->vH M ns->(∀H',aE H H'->Q (.int (fD ns)) H')->NJ K vs H Q E9
inductive FL (K:FG9) (vs:List V) (H:Hp) (Q:VK) (E9:XK):Prop
 | mk (p:Addr) (ns:List (Int×Int)) (M:Int) (B:Int):vs=[.ref p,.int B]->Fo K H p ns->ns.9<=1000->vH M ns->0 < B->Sz 4400000 B->(∀r H',H r=none->aE H H'->H' r=some (.lst ((dJ ns B).map V.int))->Q (.ref r) H')->FL K vs H Q E9
theorem vN (h:vH M ns) (hB:0 < B) (sB:Sz 4400000 B) (ht:t∈dJ ns B):Sz 8800000 t:=by
 obtain n|hn|rfl:=au.mp ht;have hp:=h.2.2 n hn
 have sq:Sz 4400000 (B / n.2):=sB.le (by
  rw[VQ ()];exact Nat.div_le_self ..)
 exact (hp.2.2.mul sq).mono ()
theorem qM (h:(nm x).2∣B):(((nm x).1*(B / (nm x).2):Int):Rat)=x*(B:Rat):=by
 obtain k|rfl:=h;have hp:=gZ x;rw[Int.mul_ediv_cancel_left _ (),aL,aL,qJ];grind
theorem GQ {B C:Int}:∀{xs ys:List Rat},(∀x∈xs,(nm x).2∣B)->(∀y∈ys,(nm y).2∣C)->(((W0 (λx y=>x*y) (dJ (xs.map nm) B) (dJ (ys.map nm) C)).sum:Int):Rat)=fX xs ys*((B:Rat)*(C:Rat))
 | [],ys,_,_=>by simp [dJ,fX]
 | x :: xs,[],_,_=>by simp [dJ,fX]
 | x :: xs,y :: ys,h1,h2=>by
  have ih:=GQ (B:=B) (C:=C) (xs:=xs) (ys:=ys) (λz hz=>h1 z (.tail _ hz)) (λz hz=>h2 z (.tail _ hz));have e1:=qM (h1 x (.head _));have e2:=qM (h2 y (.head _));have e3:(W0 (λx y=>x*y) (dJ ((x :: xs).map nm) B) (dJ ((y :: ys).map nm) C)).sum=((nm x).1*(B / (nm x).2))*((nm y).1*(C / (nm y).2))+(W0 (λx y=>x*y) (dJ (xs.map nm) B) (dJ (ys.map nm) C)).sum:=rfl;have e4:fX (x :: xs) (y :: ys)=x*y+fX xs ys:=rfl;rw[e3,e4,kE,aL,ih,e1,e2];grind
theorem K3 (h1:0 < fD (xs.map nm)) (h2:0 < fD (ys.map nm)):(lo (JB (xs.map nm) (ys.map nm)) (fD (xs.map nm)*fD (ys.map nm)),hi (JB (xs.map nm) (ys.map nm)) (fD (xs.map nm)*fD (ys.map nm)))=nm (fX xs ys):=by
 refine oi (eY h1 h2) ?_;unfold JB;rw[GQ (λx hx=>oZ (au.mpr #[x,hx,rfl])) (λx hx=>oZ (au.mpr #[x,hx,rfl])),aL]
inductive FK (K:FG9) (vs:List V) (H:Hp) (Q:VK) (E9:XK):Prop
 | mk (p:Addr) (w:Nat) (H0:Hp) (rows:LR9):vs=[.ref p,.int w]->bg K H0 H p rows->rows.9<=1000->w<=1000->(∀xs∈rows,xs.9=w)->(∀r H',H r=none->aE H H'->bg K H H' r (cx rows w)->Q (.ref r) H')->FK K vs H Q E9
def jP (m:Nat) (a:Int):List Rat:=(Yq m).map λ(i:Nat)=>if ((i:Nat):Int)=a then 1 else 0
inductive FJ (K:FG9) (vs:List V) (H:Hp) (Q:VK) (E9:XK):Prop
 | mk (m:Nat) (a:Int):vs=[.int m,.int a]->m<=1000->(∀r H',H r=none->aE H H'->df K H' r (jP m a)->Q (.ref r) H')->FJ K vs H Q E9
inductive zP (K:FG9) (vs:List V) (H:Hp) (Q:VK) (E9:XK):Prop
 | mk (b:Addr) (w:Nat):vs=[.ref b,.int w]->kH H b->1<=w->w<=1000000->(∀r x H',Dr (max w 6) x->bY K H' x (.ref r)->kH H' b->dD b H H'->Q (.ref r) H')->zP K vs H Q E9
inductive FT (K:FG9) (vs:List V) (H:Hp) (Q:VK) (E9:XK):Prop
 | mk (b:Addr) (m w:Nat):vs=[.ref b,.int m,.int w]->kH H b->m<=1000->1<=w->w<=1000000->(∀r xs H',H r=none->df K H' r xs->xs.9=m->(∀x∈xs,Dr (max w 6) x)->kH H' b->dD b H H'->Q (.ref r) H')->FT K vs H Q E9
inductive zO (K:FG9) (vs:List V) (H:Hp) (Q:VK) (E9:XK):Prop
 | mk (p q:Addr) (xs ys:List Rat):vs=[.ref p,.ref q]->df K H p xs->df K H q ys->ys.9=xs.9->xs.9<=1000->(∀x∈xs,jV x)->(∀y∈ys,jV y)->(∀r H',H r=none->aE H H'->df K H' r (W0 (λx y=>x+y) xs ys)->Q (.ref r) H')->zO K vs H Q E9
inductive IS (K:FG9) (vs:List V) (H:Hp) (Q:VK) (E9:XK):Prop
 | mk (u:V) (q:Addr) (c:Rat) (ys:List Rat):vs=[u,.ref q]->bY K H c u->jV c->df K H q ys->ys.9<=1000->(∀y∈ys,jV y)->(∀r H',H r=none->aE H H'->df K H' r (ys.map λy=>c*y)->Q (.ref r) H')->IS K vs H Q E9
inductive zX (K:FG9) (vs:List V) (H:Hp) (Q:VK) (E9:XK):Prop
 | mk (p:Addr) (H0:Hp) (rows:LR9):vs=[.ref p]->bg K H0 H p rows->rows.9<=1000->(∀xs∈rows,xs.9<=1000)->(∀r H',H r=none->aE H H'->bg K H H' r rows->Q (.ref r) H')->zX K vs H Q E9
section
variable {K:FG9} {g:TG}
theorem dS {F:Hp->α->V->Prop} (G:Hp->β->V->Prop) (f:α->β) (hx:H a=some (.lst xs)) (pf:Yt (F H) as xs) (hl:as.9<=1000)
  (hF:∀{H H' c x},F H c x->aE H H'->F H' c x) (hG:∀{H H' c x},G H c x->aE H H'->G H' c x)
  (hs:∀(i:Nat) c x H' NY NN,as[i]?=some c->aE H H'->F H' c x->(∀y H2,aE H' H2->G H2 (f c) y->NY y H2)->qN σ₀ g tf te x H' NY NN)
  (hd:∀ys H' p,H p=none->aE H H'->H' p=some (.lst ys)->Yt (G H') (as.map f) ys->(∃H2,H2 p=none/\Yt (G H2) (as.map f) ys)->Q (.ref p) H'):qX (SD K a) σ₀ g tf te Q H:=by
 have lx:=pf.9;refine eP (K:=K) (xs:=xs) (λi ys H'=>aE H H'/\Yt (G H') ((as.take i).map f) ys) ko #[aE.refl _,.nil] (λi ys H' _ #[s,_]=>br.of (s _ _ hx)) ?_ ?_
 ·rintro i x ys H' hx' hlen ⟨s,pr⟩;obtain c|ec|hc:=bO pf hx';refine hs i c x H' _ _ ec s (hF hc s) λy H2 s2 gy=>#[s.trans s2,?_]
  rw[take_snoc ec,cR];exact bT (ce (λ_ _ z=>hG z s2) pr) (.cons gy .nil)
 ·rintro ys H' hy ⟨s,pr⟩ p hp;rw[aF ()] at pr;exact hd ys _ p (s.none hp) (s.trans (aE.new hp)) aD (ce (λ_ _ z=>hG z (aE.new hp)) pr) #[H',hp,pr]
theorem iw (G:Hp->β->V->Prop) (f:Nat->β) (hl:n<=1000) (hG:∀{H H' c x},G H c x->aE H H'->G H' c x)
  (hs:∀(i:Nat) H' NY NN,i < n->aE H H'->(∀y H2,aE H' H2->G H2 (f i) y->NY y H2)->qN σ₀ g tf te (.int i) H' NY NN)
  (hd:∀ys H' p,H p=none->aE H H'->H' p=some (.lst ys)->Yt (G H') ((Yq n).map f) ys->(∃H2,H2 p=none/\Yt (G H2) ((Yq n).map f) ys)->Q (.ref p) H'):qX (Io 0 n) σ₀ g tf te Q H:=by
 refine oY (λi ys H'=>aE H H'/\Yt (G H') ((Yq i).map f) ys) ko #[aE.refl _,.nil] ?_ ?_
 ·rintro i ys H' hi hlen ⟨s,pr⟩;rw[uL];refine hs i H' _ _ hi s λy H2 s2 gy=>#[s.trans s2,?_]
  rw[i8,cR];exact bT (ce (λ_ _ z=>hG z s2) pr) (.cons gy .nil)
 ·rintro ys H' hy ⟨s,pr⟩ p hp;exact hd ys _ p (s.none hp) (s.trans (aE.new hp)) aD (ce (λ_ _ z=>hG z (aE.new hp)) pr) #[H',hp,pr]
theorem yh (G:Hp->β->V->Prop) (C:β->Prop) (hB:kH H b) (hl:n<=1000) (hG:∀{H' H'' c x},G H' c x->dD b H' H''->kH H' b->G H'' c x)
  (hs:∀(i:Nat) H' NY NN,i < n->dD b H H'->kH H' b->(∀y c H2,dD b H' H2->kH H2 b->C c->G H2 c y->NY y H2)->qN σ₀ g tf te (.int i) H' NY NN)
  (hd:∀ys cs H' p,H p=none->dD b H H'->kH H' b->H' p=some (.lst ys)->cs.9=n->(∀c∈cs,C c)->Yt (G H') cs ys->(∃H2,H2 p=none/\Yt (G H2) cs ys)->Q (.ref p) H'):qX (Io 0 n) σ₀ g tf te Q H:=by
 refine oY (λi ys H'=>dD b H H'/\kH H' b/\∃cs,cs.9=i/\(∀c∈cs,C c)/\Yt (G H') cs ys) ko #[(aE.refl _).upto,hB,[],rfl,(λ_ z=>nomatch z),.nil] ?_ ?_
 ·rintro i ys H' hi hlen ⟨u,B,cs,lc,hc,pr⟩;rw[uL];refine hs i H' _ _ hi u B λy c H2 u2 B2 cc gy=>#[u.trans u2,B2,cs++[c],by simp [lc],Ld hc cc,bT (ce (λ_ _ z=>hG z u2 B) pr) (.cons gy .nil)]
 ·rintro ys H' hy ⟨u,B,cs,lc,hc,pr⟩ p hp;have s:aE H' (upd H' p (.lst ys)):=aE.new hp;exact hd ys cs _ p (u.none B hp) (u.same s) (B.same s) aD lc hc (ce (λ_ _ z=>hG z s.upto B) pr) #[H',hp,pr]
end
theorem dZ {g:TG} {tb:TS} {D:Ends} (Pv:Nat->St->Hp->Prop) (h0:Pv 0 σ H)
  (hs:∀(i:Nat) σ H,i < n->Pv i σ H->g (.int i) σ H λσ2 H2=>tb { D with nx:=Pv (i+1),ct:=Pv (i+1),bk:=D.nx } σ2 H2) (hd:∀σ H,Pv n σ H->D.nx σ H) :
  ∃W:Nat->Nat->St->Hp->Prop,(∃m,W 0 m σ H)/\∀i m σ H,W i m σ H →
   ((Io 0 n).stop i H/\D.nx σ H)\/((Io 0 n).go i H/\∃N:St->Hp->Prop,(∀σ' H',N σ' H'->∃m',m' < m/\W (i+1) m' σ' H')/\∀x H',(Io 0 n).yld i H x H'->g x σ H' λσ2 H2=>tb { D with nx:=N,ct:=N,bk:=D.nx } σ2 H2) :=
 yd (lo:=0) Pv h0 (λi σ H hi p=>by rw[uL];exact hs i σ H hi p) hd
theorem oA:sT X (.type "int") (λxs H Q=>∃b:Bool,xs=[.bl b]/\Q (.int (if b=true then 1 else 0)) H):=by
 intro pins s σ H xs us Q I r h;obtain b|rfl|q:=h;obtain u|rfl|ru:=vals1 r;cases ru;exact call_int_bool #[.int _,H,I.tok _,#[_,rfl],q]
theorem BW (K:FG9) (hK:X.K=K):sT X (.builtin "len") (λxs H Q=>∃p ys,xs=[.ref p]/\(br K H p ys\/pA K H p ys)/\Q (.int ys.9) H):=by subst hK;exact bc
theorem Od {st:Stmt}:PS X st (λ_ _ _=>False):=λ_ _ _ _ _ _ h=>h.elim
theorem OG {t b:Int} (hb:0 < b) (h1:t.natAbs<=W) (h2:b.natAbs<=W):∃q:Rat,(lo t b,hi t b)=nm q/\Dr W q/\q*(b:Rat)=(t:Rat):=by
 have hb':(b:Rat)≠0:=λz=>by have:=eQ.mp z;lia
 have e:(t:Rat) / (b:Rat)*(b:Rat)=t:=ID hb';have h:=oi hb e;refine #[_,h,#[?_,?_],e]
 ·have:=congrArg Prod.fst h;have z:=lo_le (t:=t) (b:=b) ();show ((nm ((t:Rat) / (b:Rat))).1).natAbs<=W
  rw[<- this];exact ag z h1
 ·have:=congrArg Prod.snd h;have z:=Tf (t:=t) (b:=b) ();have hd:(((t:Rat) / (b:Rat)).den:Int)=hi t b:=this.symm;have hp:=Ex (t:=t) hb
  lia
theorem Eu {K:FG9} (h:Yt (bY K H) qs xs) (hj:j < qs.9):∃v,Iz xs (j:Int)=some v/\bY K H (qs.getD j 0) v:=by
 have hl:=h.9;refine #[xs[j]'(),dC (by simp),?_];have:=mG h (i:=j) hj ();rwa [aa,ae hj]
theorem C4 {xs ys:List Rat} (h1:i < xs.9) (h2:i < ys.9):fX (xs.take (i+1)) (ys.take (i+1))=fX (xs.take i) (ys.take i)+xs.getD i 0*ys.getD i 0:=by
 have e1:xs[i]?=some (xs.getD i 0):=by rw[aa,ae h1];rfl
 have e2:ys[i]?=some (ys.getD i 0):=by rw[aa,ae h2];rfl
 unfold fX;rw[take_snoc e1,take_snoc e2,List.zipWith_append (by simp;lia),List.sum_append];simp [jk]
theorem getD_mem {xs:List Rat} (h:i < xs.9):xs.getD i 0∈xs:=by
 rw[aa,ae h];exact az h
theorem Lq {xs ys:List Rat} (h:ys.9=xs.9):W0 (λx y=>x+y) xs ys=(Yq xs.9).map λi=>xs.getD i 0+ys.getD i 0:=by
 apply pZ;intro i;rw[bV,aw];by_cases hi:i < xs.9
 ·rw[bI hi,ae hi,ae (show i < ys.9 by lia)];simp [aa,ae hi,ae (show i < ys.9 by lia)]
 ·rw[aG (show (Yq xs.9).9<=i by simp;lia),aG (show xs.9<=i by lia)];rfl
theorem cC.updL {K:FG9} (h:cC K H0 H qs x) (hl:H l=some (.lst ys)) (nl:H0 l≠none):cC K H0 (upd H l o) qs x:=by obtain q|a|b|c:=h;exact #[q,a,b,c.updL hl λz=>nl (by rw[<- z];exact b)]
theorem kH.at (B:kH H b):H b≠none:=by obtain _|_|_|_|_|e|_:=B;rw[e];simp
theorem Inner.at (B:kH H b) (i:Inner H b q):H q≠none:=by
 obtain q'|i'|xs|e:=B.inner;rw[<- Inner.inj i' i,e];simp
theorem Ud {M V:Nat} (h:Fr M V x) (h0:0 < M) (h1:M<=2^300) (h2:V<=2^100):jV x:=Ez h0 (ag h1 (ar () ())) (ag h2 (ar () ())) h
theorem gD {F:α->β->Prop} {l1:List α} {l2:List β} (h:Yt F l1 l2) (hi:i < l1.9):∃x y,l1[i]?=some x/\l2[i]?=some y/\x∈l1/\F x y:=by
 have hl:=h.9;exact #[l1[i],l2[i]'(),by simp,by simp,az _,mG h hi ()]
section
variable {α β:Type} [DecidableEq α] [DecidableEq β] (k1:Kind α) (k2:Kind β)
theorem xo {X:Cx} {pins:List (Addr×Obj)} {σ:St} {H:Hp} {s:Yo} {A:Y3} (I:Inv X pins σ H s) (h1:A.units+k1.d < cLine) (h2:A.units+k2.d < cLine) {x y z w:V} {us ws:List Value} {a b:α×β}
  (rx:cX [x,y] us) (ry:cX [z,w] ws) (a1:k1.R X.K H x a.1) (a2:k2.R X.K H y a.2) (b1:k1.R X.K H z b.1) (b2:k2.R X.K H w b.2) :
  ∀j (h1:j < us.5.7) (h2:j < ws.5.7),YF A s us.5[j] ws.5[j] (if j=0 then decide (a.1=b.1) else decide (a.2=b.2)):=λj l1 l2=>by
 obtain u1|u2|rfl|r1|r2:=vals2 rx;obtain w1|w2|rfl|q1|q2:=vals2 ry;have hj:j < 2:=by simpa using l1
 rcases aR j 1 with h | h
 ·have e:j=0:=()
  subst e;exact k1.eq (A:=A) I r1 q1 a1 b1 h1
 ·have e:j=1:=()
  subst e;exact k2.eq (A:=A) I r2 q2 a2 b2 h2
theorem Dw {a b:α×β}:(Yq 2).all (λj=>if j=0 then decide (a.1=b.1) else decide (a.2=b.2))=decide (a=b):=by
 have e:Yq 2=[0,1]:=rfl;rw[e];simp only[VU,List.all_nil,Bool.and_true,if_true,Nat.one_ne_zero,if_false];rw[<- Bool.decide_and];exact decide_eq_decide.mpr #[λ#[h1,h2]=>Prod.ext h1 h2,λh=>by rw[h];exact #[rfl,rfl]]
def Ta:Kind (α×β) where
 R:=λK H x a=>∃p u v,x=.ref p/\pA K H p [u,v]/\k1.R K H u a.1/\k2.R K H v a.2
 d:=max k1.d k2.d+1
 inj:=λ{X pins σ H s x a b} I h1 h2=>by
  obtain p|u|v|rfl|hp|a1|a2:=h1;obtain q|u'|v'|e|hq|b1|b2:=h2;cases e;have e:=I.tuple_inj hp hq;cases e;exact Prod.ext (k1.inj I a1 b1) (k2.inj I a2 b2)
 rc:=λ{X pins σ H s x y v u a b A} I rx ry h1 h2 hA=>by
  obtain p|x1|x2|rfl|hp|a1|a2:=h1;obtain q|y1|y2|rfl|hq|b1|b2:=h2;cases rx;cases ry;obtain us|r1|t1|_:=I.tuple hp;obtain ws|r2|t2|_:=I.tuple hq;have l1:=r1.9;have l2:=r2.9;have z:=Zu.tuples (A:=A) (e:=λj=>if j=0 then decide (a.1=b.1) else decide (a.2=b.2)) (show s.heap.IsTuple p us.toArray from t1) (show s.heap.IsTuple q ws.toArray from t2) () (xo k1 k2 (A:=A.in1) I (by show A.units+1+k1.d < cLine;lia) (by show A.units+1+k2.d < cLine;lia) r1 r2 a1 a2 b1 b2);have e1:us.5.7=2:=by rw[aM,<- l1];rfl
  have e2:ws.5.7=2:=by rw[aM,<- l2];rfl
  rw[e1,e2,jZ,Dw] at z;simpa using z
 ne:=λ{X pins σ H s x y v u a b A} I rx ry h1 h2 hA=>by
  obtain p|x1|x2|rfl|hp|a1|a2:=h1;obtain q|y1|y2|rfl|hq|b1|b2:=h2;cases rx;cases ry;obtain us|r1|t1|_:=I.tuple hp;obtain ws|r2|t2|_:=I.tuple hq;have l1:=r1.9;have l2:=r2.9;have z:=Zv.tuples (A:=A) (e:=λj=>if j=0 then decide (a.1=b.1) else decide (a.2=b.2)) (show s.heap.IsTuple p us.toArray from t1) (show s.heap.IsTuple q ws.toArray from t2) () (xo k1 k2 (A:=A.in1) I (by show A.units+1+k1.d < cLine;lia) (by show A.units+1+k2.d < cLine;lia) r1 r2 a1 a2 b1 b2);have e1:us.5.7=2:=by rw[aM,<- l1];rfl
  have e2:ws.5.7=2:=by rw[aM,<- l2];rfl
  rw[e1,e2,jZ,Dw] at z;simpa using z
 eq:=λ{X pins σ H s x y v u a b A} I rx ry h1 h2 hA=>by
  obtain p|x1|x2|rfl|hp|a1|a2:=h1;obtain q|y1|y2|rfl|hq|b1|b2:=h2;cases rx;cases ry;by_cases e:p=q
  ·subst e;have e:=I.tuple_inj hp hq;cases e;have e2:a=b:=Prod.ext (k1.inj I a1 b1) (k2.inj I a2 b2);rw[decide_eq_true e2];exact YF.same _
  ·obtain us|r1|t1|_:=I.tuple hp;obtain ws|r2|t2|_:=I.tuple hq;have l1:=r1.9;have l2:=r2.9;have z:=Zu.tuples (A:=A) (e:=λj=>if j=0 then decide (a.1=b.1) else decide (a.2=b.2)) (show s.heap.IsTuple p us.toArray from t1) (show s.heap.IsTuple q ws.toArray from t2) () (xo k1 k2 (A:=A.in1) I (by show A.units+1+k1.d < cLine;lia) (by show A.units+1+k2.d < cLine;lia) r1 r2 a1 a2 b1 b2);have e1:us.5.7=2:=by rw[aM,<- l1];rfl
   have e2:ws.5.7=2:=by rw[aM,<- l2];rfl
   rw[e1,e2,jZ,Dw] at z;exact .of_refs e (by simpa using z)
end
theorem La (h1:-(2^64) < i) (h2:i < 2^64):fJ i j:=.inl (.inl #[h1,h2])
theorem K9 (h1:-(2^64) < j) (h2:j < 2^64):fJ i j:=.inl (.inr #[h1,h2])
def VJ (K : FG9) (l : Addr) : It :=
  #[λi H => ∃ xs x, br K H l xs /\ xs[i]? = some x,
   λi H v H' => ∃ p x, v = .ref p /\ H p = none /\ H' = upd H p (.tup [.int i, x]) /\ ∀ xs, br K H l xs → xs[i]? = some x,
   λi H => ∃ xs, br K H l xs /\ xs.9 ≤ i]
def tnE (e it l:Addr) (i:Nat) (h:Heap):Prop:=(∃old,IsEnum h e it i old)/\h.IsListIter it l i
theorem Lu {P:YS} {w:Y9} {K:FG9} {elts:List Expr} {kk:Nat} {tpos:Pos} (e it l:Addr) (hei:e≠it):Turn P w K (.Tuple elts kk tpos) (VJ K l) [e,it] e (tnE e it l) where
 mem:=by simp
 obj:=λi h st b hb=>by
  obtain ⟨old,he⟩|⟨o1,g1,c1,d1⟩:=st;simp only[ay,aH,or_false] at hb;rcases hb with rfl | rfl
  ·exact #[_,he,λv q=>nomatch q]
  ·exact #[o1,g1,λv q=>by rw[d1] at q;cases q]
 keep:=λi h h' st k=>by
  obtain ⟨old,he⟩|h1:=st;exact #[#[old,k e (by simp) _ he],h1.at λo q=>k it (by simp) o q]
 item:=by
  intro X hP hw hK hc i pins s σ H E I hf st hg;subst hP hw hK;obtain ⟨old,he⟩|h1:=st;obtain xs|x|qx|ex:=hg;obtain us|rx|px|_:=I.list qx;obtain u|eu|ru:=rx.get ex;refine wpAny_pyNext_enum_item he h1 px.isList (x:=u) (by simpa using eu) hei λh' a1 a2 a3 a4 hk=>?_
  refine #[_,rfl,wpAny_letOwnedTupleGo_enum a1 λh'' he'' hs=>?_];have hT0:H s.6=none:=I.hok.fresh (ah _);have ene:s.6≠e:=pW (Yr he)
  have up:∀b o,b∉[e,it]->s.heap.get? b=some o->h''.get? b=some o:=λb o hb q=>by
   simp only[ay,aH,or_false,not_or] at hb;exact (hs.2 b hb.1).trans (hk b o hb.1 hb.2 q)
  have tup:h''.get? s.6=some { cls:=.type "tuple",data:=.seq [.int i s.toks,u].toArray }:=(hs.2 _ ene).trans a3;have I1:Inv X pins σ H { s with heap:=h'',toks:=s.toks+1 }:=I.moved (g':=s.gens) (d':=s.drawn) (t':=s.toks+1) (ch:=[e,it]) hf up I.bare;have fT:lQ X pins H s.6:=I.fpOk (ah _) hT0;have I2:=I1.track (o:=.tup [.int i,x]) fT #[jR rfl,[.int i s.toks,u],.cons #[_,rfl] (.cons ru .nil),#[_,tup,rfl,_,rfl]];refine #[.ref s.6,_,I2,rfl,#[_,x,rfl,hT0,rfl,λxs' q=>by rw[I.list_inj q qx];exact ex],?_,λb hb=>?_]
  ·exact #[#[_,by simpa using he''],a2.at λo q=>(hs.2 _ hei.symm).trans q]
  ·rw[aY]
   ·exact (hf b hb).1
   ·obtain o1|g1|_:=h1;simp only[ay,aH,or_false] at hb;rcases hb with rfl | rfl
    ·exact ene.symm
    ·exact bR (Yr g1)
 done:=by
  intro X hP hw hK hc i pins s σ H E I hf st hg;subst hP hw hK;obtain ⟨old,he⟩|h1:=st;obtain xs|qx|hend:=hg;obtain us|rx|px|_:=I.list qx;have lx:=rx.9;refine wpAny_pyNext_enum_end (I.ok.hd hc) he h1 px.isList (by simp;lia) λh' hk=>#[rfl,?_]
  exact I.moved (g':=s.gens) (d':=s.drawn) (t':=s.toks) (ch:=[e,it]) hf (λb o hb q=>hk b o (λz=>hb (by simp [z])) q) I.bare
 self:=λ_ _ _ _ _ st h=>let ⟨⟨_,he⟩,_⟩:=st;wpAny_pyIter_enum he h
section
variable {X:Cx}
def Te (K:FG9) (ta:TA):TI:=λσ H R=>ta σ H λvs H1=>∃l,vs=[.ref l]/\(∃xs,br K H1 l xs)/\R (VJ K l) H1
theorem D7 {a:Expr} {ta:TA} {p pos tpos:Pos} {elts:List Expr} {kk:Nat} (hg:Gl X "enumerate") (hm:X.mg "enumerate"=none) (ha:PA X [a] ta) (hs:Yu [a] X.env=[(false,eval a X.env)]:=by rfl) :
  PI X (.Tuple elts kk tpos) (.Call (.Name "enumerate" p) [a] [] pos) (Te X.K ta):=by
 intro pins s σ H R I h;refine Call_ (mJ I hg hm boot_enumerate (YE (ib (ha pos pins s σ H _ I h) λus s1 #[vs,H1,I1,r1,q1]=>?_) (by rw[hs];rfl) rfl));obtain l|e|⟨xs,qx⟩|q:=q1;subst e;obtain u|rfl|ru:=vals1 r1;cases ru;obtain us|rx|px|_:=I1.list qx;refine call_enumerate_list px.isList λh' a1 a2 a3 hk=>wpAny_pyIter_enum a1 ?_
 have I2:Inv X pins σ H1 { s1 with heap:=h' }:=I1.kept (t':=s1.toks) hk;refine #[_,[s1.6+1,s1.6],_,_,H1,rfl,I2,Lu (s1.6+1) s1.heap.objs.size l (Nat.succ_ne_self _),#[#[_,a1],a2],λb hb=>?_,q]
 have hb':s1.6<=b:=by
  simp only[ay,aH,or_false] at hb;rcases hb with rfl | rfl <;> first | exact Dn _ | exact ah _
 exact I1.fpOk hb' (I1.hok.fresh hb')
end
theorem N7 {K:FG9} (h:ta σ H λvs H1=>∃l,vs=[.ref l]/\(∃xs,br K H1 l xs)/\R (VJ K l) H1):Te K ta σ H R:=h
theorem GO {K:FG9} {g:TG} {tb:TS} {D:Ends} (Pv:Nat->St->Hp->Prop) (h0:Pv 0 σ H) (hl:∀i σ H,i<=xs.9->Pv i σ H->br K H l xs)
  (hs:∀i x σ H p,xs[i]?=some x->Pv i σ H->H p=none->g (.ref p) σ (upd H p (.tup [.int i,x])) λσ2 H2=>tb { D with nx:=Pv (i+1),ct:=Pv (i+1),bk:=D.nx } σ2 H2) (hd:∀σ H,Pv xs.9 σ H->D.nx σ H) :
  ∃W:Nat->Nat->St->Hp->Prop,(∃m,W 0 m σ H)/\∀i m σ H,W i m σ H →
   ((VJ K l).stop i H/\D.nx σ H)\/((VJ K l).go i H/\∃N:St->Hp->Prop,(∀σ' H',N σ' H'->∃m',m' < m/\W (i+1) m' σ' H')/\∀x H',(VJ K l).yld i H x H'->g x σ H' λσ2 H2=>tb { D with nx:=N,ct:=N,bk:=D.nx } σ2 H2):=by
 refine #[λi m σ H=>m=xs.9 - i/\i<=xs.9/\Pv i σ H,#[xs.9,by simp,a8 _,h0],?_];rintro i m σ H ⟨rfl,hi,p⟩;have q1:=hl i σ H hi p;by_cases hlt:i < xs.9
 ·refine .inr #[#[xs,xs[i],q1,by simp [hlt]],Pv (i+1),λσ' H' p'=>#[xs.9 - (i+1),(),rfl,hlt,p'],λx H' y=>?_];obtain r|x'|rfl|hr|rfl|e1:=y;exact hs i x' σ _ r (e1 xs q1) p hr
 ·have e:i=xs.9:=()
  subst e;exact .inl #[#[xs,q1,ah _],hd σ H p]
section
variable {X:Cx}
theorem Q3 (K:FG9) {e:Expr} {f:Str} {pos:Pos} {ta:TE} (he:PE X e ta) (hb:attributeBase e f X.env (eval e X.env)=eval e X.env) (hK:X.K=K:=by rfl):PE X (.Attribute e f pos) (Uc K ta f):=by subst hK;exact dB he hb
end
theorem UH {K:FG9} (h:ta σ H λx H1=>∃a C dx fs v,x=.ref a/\H1 a=some (.ins C dx fs)/\M6 K C/\lO K C f/\fs.lookup f=some v/\Q v H1):Uc K ta f σ H Q:=h
theorem Qu {K:FG9} (h:tv σ H λy H1=>ta σ H1 λx H2=>∃a C dx fs,x=.ref a/\H2 a=some (.ins C dx fs)/\M6 K C/\lO K C f/\fs.9 < 1000 /\
 D.nx σ (upd H2 a (.ins C dx (cB f y fs)))):Wk K ta tv f D σ H:=h
theorem Qz (h:ta σ H λx H1=>∃a dx fs,x=.ref a/\H1 a=some (.ins C dx fs)/\fs.lookup m=none /\
 t σ H1 λvs H2=>sp (x :: vs) H2 Q E):SN C m sp [] E ta t σ H Q:=by
 have e:(λ(x:V) H1=>∃a dx fs,x=.ref a/\H1 a=some (.ins C dx fs)/\fs.lookup m=none/\t σ H1 λvs H2=>sp (x :: (vs++[])) H2 Q E)=λx H1=>∃a dx fs,x=.ref a/\H1 a=some (.ins C dx fs)/\fs.lookup m=none/\t σ H1 λvs H2=>sp (x :: vs) H2 Q E:=by
  funext x H1;simp only[fK]
 show ta σ H (λ(x:V) H1=>∃a dx fs,x=.ref a/\H1 a=some (.ins C dx fs)/\fs.lookup m=none/\t σ H1 λvs H2=>sp (x :: (vs++[])) H2 Q E)
 rw[e];exact h
theorem QC (h:t σ H λvs H1=>∀x dx,H1 x=none->H1 dx=none->dx≠x →
 sp (.ref x :: vs) (upd (upd H1 dx (.own x)) x (.ins C dx [])) (λv H2=>v=.non/\Q (.ref x) H2) E):SO C sp [] E t σ H Q:=by
 have e:(λvs (H1:Hp)=>∀x dx,H1 x=none->H1 dx=none->dx≠x->sp (.ref x :: (vs++[])) (upd (upd H1 dx (.own x)) x (.ins C dx [])) (λv H2=>v=.non/\Q (.ref x) H2) E)=λvs H1=>∀x dx,H1 x=none->H1 dx=none->dx≠x->sp (.ref x :: vs) (upd (upd H1 dx (.own x)) x (.ins C dx [])) (λv H2=>v=.non/\Q (.ref x) H2) E:=by
  funext vs H1;simp only[fK]
 show t σ H (λvs (H1:Hp)=>∀x dx,H1 x=none->H1 dx=none->dx≠x->sp (.ref x :: (vs++[])) (upd (upd H1 dx (.own x)) x (.ins C dx [])) (λv H2=>v=.non/\Q (.ref x) H2) E)
 rw[e];exact h
def Fq (x:Addr) (H H':Hp):Prop:=∀b o,H b=some o->b≠x->H' b=some o
theorem Fq.upd:Fq x H (L2.upd H x o):=λb u h n=>by rw[aY n];exact h
def uV (H:Hp) (x:Addr):Prop:=∃C dx fs,H x=some (.ins C dx fs)
section
variable {K:FG9}
theorem bY.exc (h:bY K H q v) (e:Fq x H H') (hx:uV H x):bY K H' q v:=by
 obtain C|dx|fs|hx:=hx;obtain r|er|s:=h;refine #[r,er,?_];rcases s with (h | ⟨o,h⟩) | h
 ·exact .inl (.inl (e _ _ h λz=>by rw[z,hx] at h;cases h))
 ·exact .inl (.inr #[o,e _ _ h λz=>by rw[z,hx] at h;cases h])
 ·exact .inr h
theorem df.exc (h:df K H p qs) (e:Fq x H H') (hx:uV H x):df K H' p qs:=by
 obtain xs|g|r:=h;have hx':=hx;obtain C|dx|fs|hx:=hx;exact #[xs,e _ _ g (λz=>by rw[z,hx] at g;cases g),ce (λ_ _ z=>z.exc e hx') r]
theorem cC.exc (h:cC K H0 H qs v) (e:Fq x H H') (hx:uV H x):cC K H0 H' qs v:=by obtain q|a|b|c:=h;exact #[q,a,b,c.exc e hx]
theorem bg.exc (h:bg K H0 H p rows) (e:Fq x H H') (hx:uV H x):bg K H0 H' p rows:=by
 obtain xs|g|r|n:=h;have hx':=hx;obtain C|dx|fs|hx:=hx;exact #[xs,e _ _ g (λz=>by rw[z,hx] at g;cases g),ce (λ_ _ z=>z.exc e hx') r,n]
end
def pG (a b c:Addr) (n i o:Nat):List (Str×V):=cB "outs" (.int o) (cB "look" (.ref c) (cB "ins" (.int i) (cB "put" (.ref b) (cB "states" (.int n) (cB "move" (.ref a) [])))))
theorem NC:(pG a b c n i o).lookup ("look":Str)=some (.ref c):=by
 unfold pG;rw[bB,if_neg (by decide +kernel),bB,if_pos rfl]
theorem vO:(pG a b c n i o).lookup ("ins":Str)=some (.int i):=by
 unfold pG;rw[bB,if_neg (by decide +kernel),bB,if_neg (by decide +kernel),bB,if_pos rfl]
theorem uB:(pG a b c n i o).lookup ("put":Str)=some (.ref b):=by
 unfold pG;rw[bB,if_neg (by decide +kernel),bB,if_neg (by decide +kernel),bB,if_neg (by decide +kernel),bB,if_pos rfl]
theorem fA:(pG a b c n i o).lookup ("states":Str)=some (.int n):=by
 unfold pG;rw[bB,if_neg (by decide +kernel),bB,if_neg (by decide +kernel),bB,if_neg (by decide +kernel),bB,if_neg (by decide +kernel),bB,if_pos rfl]
theorem tj:(pG a b c n i o).lookup ("move":Str)=some (.ref a):=by
 unfold pG;rw[bB,if_neg (by decide +kernel),bB,if_neg (by decide +kernel),bB,if_neg (by decide +kernel),bB,if_neg (by decide +kernel),bB,if_neg (by decide +kernel),bB,if_pos rfl]
theorem Ug {m:Str} (h1:¬m="outs") (h2:¬m="look") (h3:¬m="ins") (h4:¬m="put") (h5:¬m="states") (h6:¬m="move"):(pG a b c n i o).lookup m=none:=by
 unfold pG;rw[bB,if_neg h1,bB,if_neg h2,bB,if_neg h3,bB,if_neg h4,bB,if_neg h5,bB,if_neg h6];rfl
theorem Lv:(pG a b c n i o).lookup ("moved":Str)=none:=Ug (by decide +kernel) (by decide +kernel) (by decide +kernel) (by decide +kernel) (by decide +kernel) (by decide +kernel)
theorem fE {k:Str} {v:V}:∀{l:List (Str×V)},(cB k v l).9<=l.9+1
 | []=>ah _
 | (x,y) :: r=>by
  unfold cB
  split
  ·simp
  ·have:=fE (k:=k) (v:=v) (l:=r);simp only[bL]
   lia
structure js (mv pt lk:LR9):Prop where
 n8:mv.9<=8
 i4:pt.9<=4
 o4:lk.9<=4
 mw:∀xs∈mv,xs.9=mv.9
 pw:∀xs∈pt,xs.9=mv.9
 lw:∀xs∈lk,xs.9=mv.9
def Dl (mv pt lk:LR9):Prop:=∃M V:Nat,0 < M/\M<=2^800/\V<=2^400/\GF M V mv/\GF M V pt/\GF M V lk
def oo (K:FG9) (H0 H:Hp) (C p:Addr) (mv pt lk:LR9):Prop:=∃dx a b c,H p=some (.ins C dx (pG a b c mv.9 pt.9 lk.9))/\H0 a=none/\H0 b=none/\H0 c=none/\bg K H0 H a mv/\bg K H0 H b pt/\bg K H0 H c lk
section
variable {K:FG9}
theorem oo.same (h:oo K H0 H C p mv pt lk) (e:aE H H'):oo K H0 H' C p mv pt lk:=by obtain dx|a|b|c|g|n1|n2|n3|g1|g2|g3:=h;exact #[dx,a,b,c,e _ _ g,n1,n2,n3,g1.same e,g2.same e,g3.same e]
theorem oo.upto (h:oo K H0 H C p mv pt lk) (u:dD b H H') (B:kH H b) (nb:H0 b≠none):oo K H0 H' C p mv pt lk:=by
 obtain dx|a|b'|c|g|n1|n2|n3|g1|g2|g3:=h;refine #[dx,a,b',c,u.other (λz=>by obtain _|_|_|_|_|e|_:=B;rw[z,e] at g;cases g) g,n1,n2,n3,g1.upto u B (λz=>nb (by rw[<- z];exact n1)) nb,g2.upto u B (λz=>nb (by rw[<- z];exact n2)) nb,g3.upto u B (λz=>nb (by rw[<- z];exact n3)) nb]
theorem oo.weak (h:oo K H0 H C p mv pt lk) (e:aE H1 H0):oo K H1 H C p mv pt lk:=by obtain dx|a|b|c|g|n1|n2|n3|g1|g2|g3:=h;exact #[dx,a,b,c,g,e.none n1,e.none n2,e.none n3,g1.weak e,g2.weak e,g3.weak e]
theorem Dl.fits (h:Dl mv pt lk) (hl:∀x∈l,(∃xs∈mv,x∈xs)\/(∃xs∈pt,x∈xs)\/(∃xs∈lk,x∈xs)\/x=0):Fits l:=by
 obtain M|V|h0|h1|h2|h3|h4|h5:=h;refine #[M,V,h0,ag h1 (ar () ()),ag h2 (ar () ()),λx hx=>?_];rcases hl x hx with ⟨xs,a,b⟩ | ⟨xs,a,b⟩ | ⟨xs,a,b⟩ | rfl
 ·exact h3 xs a x b
 ·exact h4 xs a x b
 ·exact h5 xs a x b
 ·exact Fr.zero
theorem js.turn (h:js mv pt lk):js (cx mv mv.9) lk pt:=#[by rw[eK];exact h.n8,h.o4,h.i4,λxs hx=>by rw[mB xs hx,eK],λxs hx=>by rw[eK];exact h.lw xs hx,λxs hx=>by rw[eK];exact h.pw xs hx]
end
def Lx:Sp:=λvs H Q _=>∃i:Int,vs=[.int i]/\Q (.bl true) H
def LA (K:FG9):Sp:=λvs H Q _=>∃x n,vs=[x]/\Il K H x n/\yG n/\∀H',aE H H'->Q (.bl true) H'
inductive Kl (vs:List V) (H:Hp) (Q:VK) (E9:XK):Prop
 | mk (p:Addr) (xs:List V) (a m:Int):vs=[.ref p,.int a,.int m]->H p=some (.lst xs)->(xs.9:Int)<=m->Q .non H->Kl  vs H Q E9
inductive Kq (K:FG9) (vs:List V) (H:Hp) (Q:VK) (E9:XK):Prop
 | mk (p:Addr) (H0:Hp) (rows:LR9) (w:Nat):vs=[.ref p,.int w]->bg K H0 H p rows->rows.9<=1000->w<=1000->((∀xs∈rows,xs.9=w/\∀x∈xs,yG (nm x)))->(∀r H',H r=none->aE H H'->bg K H H' r rows->Q (.ref r) H')->Kq K vs H Q E9
def MT (rows:LR9):Prop:=∀xs∈rows,∀x∈xs,yG (nm x)
inductive Kn (K:FG9) (C:Addr) (vs:List V) (H:Hp) (Q:VK) (E9:XK):Prop
 | mk (x dx p q r:Addr) (Hb H0 H1 H2:Hp) (mv pt lk:LR9):vs=[.ref x,.ref p,.ref q,.ref r]->Hb x=none->Hb dx=none->dx≠x->H=upd (upd Hb dx (.own x)) x (.ins C dx [])->bg K H0 Hb p mv->bg K H1 Hb q pt->bg K H2 Hb r lk->js mv pt lk->MT mv->MT pt->MT lk->(∀H',aE Hb H'->oo K Hb H' C x mv pt lk->Q .non H')->Kn K C vs H Q E9
def kg (mv pt:LR9) (st pu:List Rat):List Rat:=W0 (λline col=>fX (line++col) (st++pu)) mv (cx pt mv.9)
theorem Dl.ok (h:Dl mv pt lk):MT mv/\MT pt/\MT lk :=
 #[λxs hx x hx'=>(h.fits (l:=xs) λy hy=>.inl #[xs,hx,hy]).ok hx',λxs hx x hx'=>(h.fits (l:=xs) λy hy=>.inr (.inl #[xs,hx,hy])).ok hx',λxs hx x hx'=>(h.fits (l:=xs) λy hy=>.inr (.inr (.inl #[xs,hx,hy]))).ok hx']
def iP (K:FG9) (A:Addr->Prop) (H:Hp) (n:Nat) (C:Rat->Prop) (x:V):Prop:=∃q qs,x=V.ref q/\A q/\df K H q qs/\qs.9=n/\∀y∈qs,C y
section
variable {K:FG9} {A A':Addr->Prop} {H H' H0:Hp} {n:Nat} {C C':Rat->Prop} {x v:V} {q b l p:Addr} {xs zs:List V} {y:Rat} {o:HO}
theorem iP.same (h:iP K A H n C x) (e:aE H H'):iP K A H' n C x:=by obtain q|qs|a|c|r|z:=h;exact #[q,qs,a,c,r.same e,z]
theorem iP.upto (h:iP K A H n C x) (u:dD b H H') (B:kH H b) (nb:¬A b):iP K A H' n C x:=by obtain q|qs|a|c|r|z:=h;exact #[q,qs,a,c,r.upto u B (λe=>nb (by rw[<- e];exact c)),z]
theorem iP.other (h:iP K A H n C x) (hl:H l=some (.lst zs)) (nl:¬A l):iP K A (upd H l o) n C x:=by obtain q|qs|a|c|r|z:=h;exact #[q,qs,a,c,r.updL hl (λe=>nl (by rw[<- e];exact c)),z]
theorem iP.weak (h:iP K A H n C x) (w:∀q,A q->A' q) (wc:∀y,C y->C' y):iP K A' H n C' x:=by obtain q|qs|a|c|r|l|z:=h;exact #[q,qs,a,w q c,r,l,λy hy=>wc y (z y hy)]
theorem Ak {α β:Type} {F:α->β->Prop} {a:α} {b:β} (h:F a b):∀{l1:List α} {l2:List β} (j:Nat),Yt F l1 l2->Yt F (l1.set j a) (l2.set j b)
 | _,_,_,.nil=>.nil
 | _,_,0,.cons _ t=>.cons h t
 | _,_,j+1,.cons r t=>.cons r (Ak h j t)
theorem iP.put (h:iP K A H n C x) (hq:H q=some (.lst zs)) (hv:bY K H y v) (hc:C y) (j:Nat):iP K A (upd H q (.lst (zs.set j v))) n C x:=by
 obtain q1|qs|rfl|a|⟨zs1,g1,pr⟩|l1|c1:=h;by_cases e:q1=q
 ·subst e;rw[hq] at g1;cases g1;refine #[q1,qs.set j y,rfl,a,#[_,aD,Ak (hv.updL hq) j (ce (λ_ _ z=>z.updL hq) pr)],by rw[cS];exact l1,λz hz=>?_];rcases cZ hz with hz | rfl
  ·exact c1 z hz
  ·exact hc
 ·exact #[q1,qs,rfl,a,#[zs1,by rw[aY e];exact g1,ce (λ_ _ z=>z.updL hq) pr],l1,c1]
theorem iP.at (h:iP K A H n C x):∃q zs qs,x=V.ref q/\A q/\H q=some (.lst zs)/\zs.9=n/\Yt (bY K H) qs zs/\qs.9=n/\∀y∈qs,C y:=by obtain q|qs|a|c|⟨zs,g,pr⟩|l|z:=h;exact #[q,zs,qs,a,c,g,by rw[<- pr.9];exact l,pr,l,z]
end
theorem uo {i:Int} (h:i.natAbs<=W) (hW:1<=W):Dr W (i:Rat):=#[h,hW]
def Xy (K:FG9) (A:Addr->Prop) (H:Hp) (n:Nat) (C:Rat->Prop) (p:Addr) (m:Nat):Prop:=∃us,H p=some (.lst us)/\us.9=m/\¬A p/\∀x∈us,iP K A H n C x
structure J9 (A:Addr->Prop) (m p l b q0:Addr):Prop where
 am:¬A m
 ap:¬A p
 al:¬A l
 ab:¬A b
 aq:¬A q0
 mb:m≠b
 pb:p≠b
 lb:l≠b
 mp:m≠p
 ml:m≠l
 mq:m≠q0
theorem KW {M:Nat} {z:Int} (h:z.natAbs<=2):Fr 1 2 (z:Rat):=Fr.int h
theorem EA {z:Int} (hz:z.natAbs<=2) (ha:Fr M W a) (hc:Fr M W c):Fr M (3*W) (a+(z:Rat)*c):=by
 have h:=(KW (M:=M) hz).mul hc;rw[xf] at h;exact (ha.add h).mono ()
theorem DC {z:Int} (h:z.natAbs<=1000):jV (z:Rat):=Ez (M:=1) (V:=1000) () (bC) (ag (show 1000<=2^10 by decide) (ar () ())) (Fr.int h)
theorem zI {z:Int} (hz:z.natAbs<=2) (hc:Fr M W c) (h0:0 < M) (h1:M<=2^800) (hW:W<=2^140):jV ((z:Rat)*c):=by
 have h:=(KW (M:=M) hz).mul hc;rw[xf] at h;refine Ez h0 (ag h1 (ar () ())) (ag (cY 2 hW) ?_) h;rw[show 2*2^140=2^141 by rw[c7,bu]];exact ar () ()
def jL (A:Addr->Prop) (b m:Addr) (H H':Hp):Prop:=∀c u,H c=some u->c≠b->¬A c->c≠m->H' c=some u
theorem jL.same (h:jL A b m H H1) (s:aE H1 H2):jL A b m H H2:=λc u e n1 n2 n3=>s _ _ (h c u e n1 n2 n3)
theorem jL.upto (h:jL A b m H H1) (s:dD b H1 H2):jL A b m H H2:=λc u e n1 n2 n3=>s.1 _ _ (h c u e n1 n2 n3) n1
theorem jL.upd (h:jL A b m H H1) (hq:A q\/q=m):jL A b m H (L2.upd H1 q o):=λc u e n1 n2 n3=>by
 rw[aY]
 ·exact h c u e n1 n2 n3
 ·rintro rfl;rcases hq with hq | hq
  ·exact n2 hq
  ·exact n3 hq
theorem jL.new (h:jL A b m H H1) (hA:∀q,H q=none->A q) (B:kH H1 b) (hm:H1 m≠none) (hr:H1 r=none):A r:=by
 by_cases z:A r
 ·exact z
 ·cases e:H r with
  | none=>exact hA r e
  | some u =>
   have:=h r u e (λy=>B.at (by rw[<- y];exact hr)) z (λy=>hm (by rw[<- y];exact hr));rw[hr] at this;cases this
structure Ll (K:FG9) (A:Addr->Prop) (n:Nat) (C:Rat->Prop) (r p b q0:Addr) (us:List V) (H0 H:Hp):Prop where
 gr:H r=some (.lst us)
 ru:∀x∈us,iP K A H n C x
 rp:iP K A H n C (.ref p)
 bag:kH H b
 inn:Inner H b q0
 up:dD b H0 H
section
variable {K:FG9}
theorem Ll.same (h:Ll K A n C r p b q0 us H0 H) (e:aE H H'):Ll K A n C r p b q0 us H0 H':=#[e _ _ h.gr,λx hx=>(h.ru x hx).same e,h.rp.same e,h.bag.same e,(e.upto (p:=b)).2 _ h.inn,h.up.same e]
theorem Ll.upto (h:Ll K A n C r p b q0 us H0 H) (u:dD b H H') (B:kH H' b) (nb:¬A b) (rb:r≠b):Ll K A n C r p b q0 us H0 H':=#[u.other rb h.gr,λx hx=>(h.ru x hx).upto u h.bag nb,h.rp.upto u h.bag nb,B,u.2 _ h.inn,h.up.trans u]
theorem Ll.put (h:Ll K A n C r p b q0 us H0 H) (ap:A p) (nr:¬A r) (nb:¬A b) (nq:¬A q0) (hp:H0 p=none) (hv:bY K H y v) (hc:C y) (j:Nat):∃zs,H p=some (.lst zs)/\zs.9=n/\Ll K A n C r p b q0 us H0 (upd H p (.lst (zs.set j v))):=by
 obtain q|zs|qs|e|a|g|l|_:=h.rp.at;cases e;have ne:∀{z},¬A z->z≠p:=λh e=>h (by rw[e];exact ap)
 exact #[zs,g,l,by rw[aY (ne nr)];exact h.gr,λx hx=>(h.ru x hx).put g hv hc j,h.rp.put g hv hc j,h.bag.upd h.inn (ne nb).symm (ne nq).symm,h.inn.upd (ne nb).symm,h.up.after hp]
end
theorem Ae {K:FG9} (h:∀x∈us,iP K A H n C x):∃rows:LR9,Yt (λqs x=>∃q,x=V.ref q/\A q/\df K H q qs) rows us/\rows.9=us.9/\∀qs∈rows,qs.9=n/\∀y∈qs,C y:=by
 induction us with
 | nil=>exact #[[],.nil,rfl,λ_ z=>nomatch z]
 | cons u us ih =>
  obtain rows|pr|l|hr:=ih λx hx=>h x (.tail _ hx)
  obtain q|qs|e|a|r|l1|c:=h u (.head _);refine #[qs :: rows,.cons #[q,e,a,r] pr,by simp [l],λzs hz=>?_];rcases ay.mp hz with rfl | hz
  ·exact #[l1,c]
  ·exact hr zs hz
theorem IZ {K:FG9} {rows:LR9} (pr:Yt (λqs x=>∃q,x=V.ref q/\A q/\df K H q qs) rows us) (h:∀qs∈rows,qs.9=n/\∀y∈qs,C y):∀x∈us,iP K A H n C x:=λx hx=>by
 obtain qs|hq|q|e|a|r:=eO pr hx;exact #[q,qs,e,a,r,(h qs hq).1,(h qs hq).2]
theorem C1 {n:Nat}:∀{rows:LR9},(∀xs∈rows,xs.9=n)->rows.flatten.9=rows.9*n
 | [],_=>by simp
 | xs :: rows,h=>by
  rw[lV,ao,h xs (.head _),C1 λys hy=>h ys (.tail _ hy),bL,dG,ij]
theorem Qr {rows:LR9} (h:∀qs∈rows,qs.9=n/\∀y∈qs,Dr (2^c) y):∃M:Nat,0 < M/\M<=2^(c*(rows.9*n))/\∀qs∈rows,∀y∈qs,Fr M (2^c) y:=by
 have fl:rows.flatten.9=rows.9*n:=C1 λys hy=>(h ys hy).1
 have hm:∀a∈rows.flatten.map (·.den),0 < a/\a<=2^c:=λa ha=>by
  obtain y|hy|rfl:=au.mp ha;obtain qs|hq|hy:=yI.mp hy;exact #[y.den_pos,((h qs hq).2 y hy).2]
 refine #[vZ (rows.flatten.map (·.den)),xQ λa ha=>(hm a ha).1,?_,λqs hq y hy=>?_]
 ·have:=Af (k:=c) (l:=rows.flatten.map (·.den)) λa ha=>(hm a ha).2
  rwa [af,fl] at this
 ·exact (Fr.own y ((h qs hq).2 y hy).1).dvd (xR (au.mpr #[y,yI.mpr #[qs,hq,hy],rfl]))
theorem vB {K:FG9} (h:Xy K A H n C p m) (w:∀q,A q->H0 q=none):∃rows,bg K H0 H p rows/\rows.9=m/\∀qs∈rows,qs.9=n/\∀y∈qs,C y:=by
 obtain us|g|l|a|r:=h;obtain rows|pr|lr|hr:=Ae r;refine #[rows,#[us,g,ce (λ_ _ #[q,e,aq,rq]=>#[q,e,w q aq,rq]) pr,λhm=>?_],by rw[lr,l],hr];obtain q|_|e|aq|_:=r _ hm;cases e;exact a aq
theorem jL.trans (h:jL A b m H H1) (h':jL A b m H1 H2):jL A b m H H2:=λc u e n1 n2 n3=>h' c u (h c u e n1 n2 n3) n1 n2 n3
theorem NV {K:FG9} {rows:LR9} (pr:Yt (cC K H0 H) rows us) (h:∀qs∈rows,qs.9=n/\∀y∈qs,C y) (w:∀q,V.ref q∈us->H0 q=none->H q≠none->A q):∀x∈us,iP K A H n C x:=λx hx=>by
 obtain qs|hq|q|e|a|r:=eO pr hx;subst e;exact #[q,qs,rfl,w q hx a (by obtain _|g|_:=r;rw[g];simp),r,(h qs hq).1,(h qs hq).2]
def o6 (K:FG9) (H0 H:Hp) (r:Addr) (mv pt lk:LR9):Prop:=∃m p l,H r=some (.tup [.ref m,.ref p,.ref l])/\H0 m=none/\H0 p=none/\H0 l=none/\bg K H0 H m mv/\bg K H0 H p pt/\bg K H0 H l lk
section
variable {K:FG9}
theorem o6.same (h:o6 K H0 H r mv pt lk) (e:aE H H'):o6 K H0 H' r mv pt lk:=by obtain m|p|l|g|n1|n2|n3|g1|g2|g3:=h;exact #[m,p,l,e _ _ g,n1,n2,n3,g1.same e,g2.same e,g3.same e]
theorem o6.upto (h:o6 K H0 H r mv pt lk) (u:dD b H H') (B:kH H b) (nb:H0 b≠none):o6 K H0 H' r mv pt lk:=by
 obtain m|p|l|g|n1|n2|n3|g1|g2|g3:=h;exact #[m,p,l,u.tup B g,n1,n2,n3,g1.upto u B (λz=>nb (by rw[<- z];exact n1)) nb,g2.upto u B (λz=>nb (by rw[<- z];exact n2)) nb,g3.upto u B (λz=>nb (by rw[<- z];exact n3)) nb]
end
inductive zK (K:FG9) (C:Addr) (vs:List V) (H:Hp) (Q:VK) (E9:XK):Prop
 | mk (r:Addr) (H0:Hp) (mv pt lk:LR9):vs=[.ref r]->o6 K H0 H r mv pt lk->js mv pt lk->Dl mv pt lk->(∀x H',H x=none->aE H H'->oo K H H' C x mv pt lk->Q (.ref x) H')->zK K C vs H Q E9
theorem Qd (h:i < w):(cx rows w)[i]?=some (rows.map λxs=>xs.getD i 0):=by
 unfold cx;rw[aw,bI h];rfl
theorem Pa (h:as.9=xs.9):fX (as++bs) (xs++ys)=fX as xs+fX bs ys:=by
 unfold fX;rw[List.zipWith_append h,List.sum_append]
def kD (J:Addr->Prop) (H H':Hp):Prop:=∀c u,H c=some u->(J c->∀xs,u≠.lst xs)->H' c=some u
section
variable {K:FG9}
theorem kD.of (e:aE H H'):kD J H H':=λc u h _=>e c u h
theorem kD.trans (a:kD J H H1) (b:kD J H1 H'):kD J H H':=λc u h n=>b c u (a c u h n) n
theorem kD.set (h:H p=some (.lst xs)) (hJ:J p):kD J H (upd H p (.lst ys)):=λc u e n=>by
 by_cases z:c=p
 ·subst z;rw[h] at e;cases e;exact absurd rfl (n hJ xs)
 ·rw[aY z];exact e
theorem kD.sqt (k:kD J H H') (h:pA K H a xs):pA K H' a xs:=by
 rcases h with (h | ⟨o,h⟩) | h
 ·exact .inl (.inl (k _ _ h λ_ _ z=>nomatch z))
 ·exact .inl (.inr #[o,k _ _ h λ_ _ z=>nomatch z])
 ·exact .inr h
theorem bY.keepL {x:V} (h:bY K H q x) (k:kD J H H'):bY K H' q x:=by obtain p|e|s:=h;exact #[p,e,k.sqt s]
theorem df.keepL (h:df K H p qs) (k:kD J H H') (n:¬J p):df K H' p qs:=by obtain xs|g|r:=h;exact #[xs,k _ _ g λz=>absurd z n,ce (λ_ _ z=>z.keepL k) r]
theorem bg.keepL (h:bg K H0 H p rows) (k:kD J H H') (n:H0 p=none) (hJ:∀q,H0 q=none->¬J q):bg K H0 H' p rows:=by obtain xs|g|r|nn:=h;exact #[xs,k _ _ g λz=>absurd z (hJ p n),ce (λ_ _ #[q,a,b,c]=>#[q,a,b,c.keepL k (hJ q b)]) r,nn]
end
def sL (k j:Nat) (l:List Rat):Prop:=∃M V:Nat,0 < M/\M<=2^k/\V<=2^j/\∀x∈l,Fr M V x
section
variable {k j k' j':Nat} {l xs ys:List Rat} {x y:Rat}
theorem sL.szn (h:sL k j l) (hx:x∈l) (hk:k+j<=3950000:=by decide):jV x:=by
 obtain M|V|h0|h1|h2|h3:=h;obtain a|b:=(h3 x hx).sz h0 h1 h2;exact #[a.mono (),b.mono ()]
theorem sL.rowM (h:sL k j l) (hk:k+j<=4200000:=by decide):∃M,vH M (l.map nm):=by
 obtain M|V|h0|h1|h2|h3:=h;refine #[M,(),?_,λn hn=>?_]
 ·show ((M:Nat):Int).natAbs < 2^4400000
  rw[b9];exact aZ h1 (dm () ())
 ·obtain x|hx|rfl:=au.mp hn;obtain a|_:=(h3 x hx).sz h0 h1 h2;exact #[gZ x,(h3 x hx).den,a.mono ()]
theorem sL.one (h:sL k j l) (hx:x∈l):sL k j [x]:=by
 obtain M|V|h0|h1|h2|h3:=h;exact #[M,V,h0,h1,h2,λy hy=>by rw[aU.mp hy];exact h3 x hx]
theorem O9 (h:sL k j xs) (h':sL k' j' ys) (hl:xs.9<=1000) (i:Nat) (hk:(k+k')+(j+j')<=3930000:=by decide):jV (fX (xs.take i) (ys.take i)):=by
 obtain M|V|h0|h1|h2|h3:=h;obtain N|W|k0|k1|k2|k3:=h'
 have e:1000*(V*W)<=2^(10+(j+j')):=by
  rw[bG 2 10];exact aP () (ag (aP h2 k2) (by rw[<- bG];exact ah _))
 obtain a|b:=((Fr.dot (λx hx=>h3 x (ck hx)) (λy hy=>k3 y (ck hy))).mono (ax _ (show (xs.take i).9<=1000 by rw[bf];lia))).sz (b8 h0 k0) (ag (aP h1 k1) (by rw[<- bG];exact ah _)) e;exact #[a.mono (),b.mono ()]
theorem Ox (hx:sL k j [x]) (hy:sL k' j' [y]) (hk:(k+k')+(j+j')<=3930000:=by decide):jV (x*y):=by
 obtain M|V|h0|h1|h2|h3:=hx;obtain N|W|k0|k1|k2|k3:=hy;obtain a|b:=((h3 x (.head _)).mul (k3 y (.head _))).sz (b8 h0 k0) (ag (aP h1 k1) (by rw[<- bG];exact ah _)) (ag (aP h2 k2) (by rw[<- bG];exact ah _));exact #[a.mono (),b.mono ()]
def yr (xs ys:List Rat):Prop:=∃k j k' j':Nat,sL k j xs/\sL k' j' ys/\(k+k')+(j+j')<=3930000
theorem yr.sys (h:sL 400 120 xs) (h':sL 1800000 1800000 ys):yr xs ys:=#[_,_,_,_,h,h',()]
end
def PL (mv pt lk:LR9):Prop:=∃M V:Nat,0 < M/\M<=2^400/\V<=2^120/\GF M V mv/\GF M V pt/\GF M V lk
theorem PL.fits (h:PL mv pt lk) (hl:∀x∈l,(∃xs∈mv,x∈xs)\/(∃xs∈pt,x∈xs)\/(∃xs∈lk,x∈xs)\/x=0):sL 400 120 l:=by
 obtain M|V|h0|h1|h2|g1|g2|g3:=h;refine #[M,V,h0,h1,h2,λx hx=>?_];rcases hl x hx with ⟨xs,a,b⟩ | ⟨xs,a,b⟩ | ⟨xs,a,b⟩ | rfl
 ·exact g1 xs a x b
 ·exact g2 xs a x b
 ·exact g3 xs a x b
 ·exact Fr.zero
theorem PL.sf (h:PL mv pt lk):Dl mv pt lk:=by obtain M|V|a|b|c|d:=h;exact #[M,V,a,ag b (ar () ()),ag c (ar () ()),d]
inductive DG (K:FG9) (vs:List V) (H:Hp) (Q:VK) (E9:XK):Prop
 | mk (p q:Addr) (xs ys:List Rat):vs=[.ref p,.ref q]->df K H p xs->df K H q ys->ys.9=xs.9->xs.9<=1000->yr xs ys->(∀r H',aE H H'->bY K H' (fX xs ys) (.ref r)->Q (.ref r) H')->DG K vs H Q E9
inductive DF (K:FG9) (vs:List V) (H:Hp) (Q:VK) (E9:XK):Prop
 | mk (p q:Addr) (H0:Hp) (rows:LR9) (ys:List Rat):vs=[.ref p,.ref q]->bg K H0 H p rows->df K H q ys->rows.9<=1000->ys.9<=1000->((∀xs∈rows,xs.9=ys.9/\yr xs ys))->(∀r H',H r=none->aE H H'->df K H' r (rows.map λxs=>fX xs ys)->Q (.ref r) H')->DF K vs H Q E9
inductive CF (K:FG9) (C:Addr) (vs:List V) (H:Hp) (Q:VK) (E9:XK):Prop
 | mk (x p q:Addr) (H0:Hp) (mv pt lk:LR9) (st pu:List Rat):vs=[.ref x,.ref p,.ref q]->oo K H0 H C x mv pt lk->js mv pt lk->PL mv pt lk->df K H p st->df K H q pu->st.9=mv.9->pu.9=pt.9->sL 1800000 1800000 (st++pu)->(∀r H',H r=none->aE H H'->df K H' r (kg mv pt st pu)->Q (.ref r) H')->CF K C vs H Q E9
theorem Dx (h:GF M W rows):GF M W (cx rows w):=λys hy y hy'=>by
 obtain j|_|rfl:=au.mp hy;obtain xs|hx|rfl:=au.mp hy';rw[aa];cases e:xs[j]? with
 | none=>exact Fr.zero
 | some z=>exact h xs hx z (ai e)
theorem C3 {l:List Rat} (h:∀x∈l,Dr (2^c) x) (hc:c<=20):∃B:Nat,0 < B/\B<=2^(c*l.9+2)/\∀x∈l,Fr B (2^22) x:=by
 obtain M|h0|h1|h2:=RE (c:=c) (n:=l.9) (i:=0) (rows:=[]) Vh rfl h hc;refine #[M,h0,?_,h2 l (by simp)];rw[jm,xf] at h1;exact h1
def LL (N:Addr->Prop) (B:Nat) (H:Hp) (p:Addr) (xs:List V):Prop:=H p=some (.lst xs)/\∀x∈xs,∃q zs,x=V.ref q/\N q/\q≠p/\H q=some (.lst zs)/\zs.9<=B
theorem LL.of {K:FG9} (h:bg K H0 H p rows) (hB:∀xs∈rows,xs.9<=B) (hN:∀q,H0 q=none->H q≠none->N q):∃xs,LL N B H p xs/\xs.9=rows.9:=by
 obtain xs|g|r|nn:=h;refine #[xs,#[g,λx hx=>?_],r.length.symm];obtain qs|hq|q|e|nq|zs|gq|rq:=eO r hx;exact #[q,zs,e,hN q nq (by rw[gq];exact λz=>nomatch z),λz=>nn (by rw[<- z,<- e];exact hx),gq,by rw[<- rq.9];exact hB qs hq]
theorem LL.upd {N:Addr->Prop} {B B':Nat} {H:Hp} {p q:Addr} {xs ws:List V} (h:LL N B H p xs) (n:q≠p) (hb:B<=B') (hw:ws.9<=B'):LL N B' (upd H q (.lst ws)) p xs:=by
 refine #[by rw[aY (YI n)];exact h.1,λx hx=>?_];obtain q'|zs|e|a|b|g|l:=h.2 x hx;by_cases z:q'=q
 ·subst z;exact #[q',ws,e,a,b,aD,hw]
 ·exact #[q',zs,e,a,b,by rw[aY z];exact g,()]
theorem LL.same (h:LL N B H p xs) (e:aE H H'):LL N B H' p xs:=#[e _ _ h.1,λx hx=>let ⟨q,zs,a,b,c,d,l⟩:=h.2 x hx;#[q,zs,a,b,c,e _ _ d,l]]
theorem mQ {α β:Type} {F:α->β->Prop}:∀{l1:List α} {l2:List β} (_:Yt F l1 l2) (k:Nat),Yt F (l1.drop k) (l2.drop k)
 | _,_,h,0=>h
 | _,_,.nil,_+1=>.nil
 | _,_,.cons _ r,k+1=>mQ r k
end L2
namespace L2
abbrev kC:=Nat->Rat
def Bl (F:List kC->Rat) (r:Nat):List kC->List kC->Rat->Rat
 | _,[],_=>0
 | pre,v :: post,s=>s*v r*F (pre++post)+Bl F r (pre++[v]) post (-s)
def sV:List Nat->List kC->Rat
 | [],[]=>1
 | [],_ :: _=>0
 | r :: rs,vs=>Bl (λws=>sV rs ws) r [] vs 1
theorem EE:sV [] (a++x :: b)=0:=by
 cases a <;> rfl
theorem Ep {F:List kC->Rat} {r:Nat} {f g h:kC} {x y:Rat} (hF:∀a b,F (a++h :: b)=x*F (a++f :: b)+y*F (a++g :: b)):∀(b p q:List kC) (s:Rat),Bl F r (p++h :: q) b s=x*Bl F r (p++f :: q) b s+y*Bl F r (p++g :: q) b s
 | [],p,q,s=>by simp only[Bl,du,jk]
 | v :: b,p,q,s=>by
  have i1:=hF p (q++b);have i2:=Ep (r:=r) hF b p (q++[v]) (-s);simp only[Bl,cy,fY] at i1 i2 ⊢;rw[i1,i2];grind
theorem KA {F:List kC->Rat} {r:Nat} {f g h:kC} {x y:Rat} (hF:∀a b,F (a++h :: b)=x*F (a++f :: b)+y*F (a++g :: b)) (hr:h r=x*f r+y*g r):∀(a pre b:List kC) (s:Rat),Bl F r pre (a++h :: b) s=x*Bl F r pre (a++f :: b) s+y*Bl F r pre (a++g :: b) s
 | [],pre,b,s=>by
  have i2:=Ep (r:=r) hF b pre [] (-s);simp only[Bl,dg] at i2 ⊢;rw[i2,hr];grind
 | v :: a,pre,b,s=>by
  have i1:=hF (pre++a) b;have i2:=KA hF hr a (pre++[v]) b (-s);simp only[Bl,cy,fY] at i1 i2 ⊢;rw[i1,i2];grind
theorem vD {f g h:kC} {x y:Rat}:∀{rs:List Nat},(∀r∈rs,h r=x*f r+y*g r)->∀a b,sV rs (a++h :: b)=x*sV rs (a++f :: b)+y*sV rs (a++g :: b)
 | [],_,a,b=>by rw[EE,EE,EE];grind
 | r :: rs,hr,a,b=>KA (λa b=>vD (λr' h'=>hr r' (.tail _ h')) a b) (hr r (.head _)) a [] b 1
theorem K2 (hr:∀r∈rs,h r=0) (a b:List kC):sV rs (a++h :: b)=0:=by
 rw[vD (f:=h) (g:=h) (x:=0) (y:=0) (λr h'=>by rw[hr r h'];grind) a b];grind
theorem KC {F:List kC->Rat} {r:Nat} {x:kC} (hF:∀a b,F (a++x :: x :: b)=0):∀(b p q:List kC) (s:Rat),Bl F r (p++x :: x :: q) b s=0
 | [],p,q,s=>rfl
 | v :: b,p,q,s=>by
  have i1:=hF p (q++b);have i2:=KC (r:=r) hF b p (q++[v]) (-s);simp only[Bl,cy,fY] at i1 i2 ⊢;rw[i1,i2];grind
theorem KD {F:List kC->Rat} {r:Nat} {x:kC} (hF:∀a b,F (a++x :: x :: b)=0):∀(a pre b:List kC) (s:Rat),Bl F r pre (a++x :: x :: b) s=0
 | [],pre,b,s=>by
  have i2:=KC (r:=r) hF b pre [] (- -s);simp only[Bl,dg,cy,fY] at i2 ⊢;rw[i2];grind
 | v :: a,pre,b,s=>by
  have i1:=hF (pre++a) b;have i2:=KD (r:=r) hF a (pre++[v]) b (-s);simp only[Bl,cy,fY] at i1 i2 ⊢;rw[i1,i2];grind
theorem AV {x:kC}:∀{rs:List Nat} (a b:List kC),sV rs (a++x :: x :: b)=0
 | [],a,b=>EE
 | r :: rs,a,b=>KD (λa b=>AV a b) a [] b 1
theorem RO (a b:List kC):sV rs (a++x :: y :: b)=- sV rs (a++y :: x :: b):=by
 have hr:∀r∈rs,(λr=>1*x r+1*y r) r=1*x r+1*y r:=λ_ _=>rfl
 have h0:=AV (x:=λr=>1*x r+1*y r) (rs:=rs) a b;have h1:=vD hr a ((λr=>1*x r+1*y r) :: b);have h2:=vD hr (a++[x]) b;have h3:=vD hr (a++[y]) b;have h4:=AV (x:=x) (rs:=rs) a b;have h5:=AV (x:=y) (rs:=rs) a b;simp only[cy,fY,dg] at h0 h1 h2 h3 h4 h5;rw[h1,h2,h3,h4,h5] at h0;grind
theorem EF {x:kC} {rs:List Nat}:∀(b a c:List kC),sV rs (a++x :: (b++x :: c))=0
 | [],a,c=>AV a c
 | y :: b,a,c=>by
  have:=EF (x:=x) (rs:=rs) b (a++[y]) c;simp only[cy,fY,dg] at this;rw[fY,RO,this];rfl
def aK:Nat->(Nat->Rat)->Rat
 | 0,_=>0
 | k+1,f=>aK k f+f k
theorem aA {f g:Nat->Rat}:∀{k:Nat},(∀j,j < k->f j=g j)->aK k f=aK k g
 | 0,_=>rfl
 | k+1,h=>by
  show aK k f+f k=aK k g+g k
  rw[aA λj hj=>h j (),h k ()]
theorem gO {f g:Nat->Rat}:∀{k:Nat},aK k (λj=>f j+g j)=aK k f+aK k g
 | 0=>by show (0:Rat)=0+0;grind
 | k+1=>by
  show aK k (λj=>f j+g j)+_=(aK k f+f k)+(aK k g+g k)
  rw[gO];grind
theorem bW {f:Nat->Rat} {c:Rat}:∀{k:Nat},aK k (λj=>c*f j)=c*aK k f
 | 0=>by show (0:Rat)=c*0;grind
 | k+1=>by
  show aK k (λj=>c*f j)+_=c*(aK k f+f k)
  rw[bW];grind
theorem bZ {f:Nat->Rat}:∀{k:Nat},(∀j,j < k->f j=0)->aK k f=0
 | 0,_=>rfl
 | k+1,h=>by
  show aK k f+f k=0
  rw[bZ λj hj=>h j (),h k ()];grind
theorem eH {f:Nat->Rat} {i:Nat}:∀{k:Nat},i < k->(∀j,j < k->j≠i->f j=0)->aK k f=f i
 | k+1,hi,h=>by
  show aK k f+f k=f i
  by_cases e:i=k
  ·subst e;rw[bZ λj hj=>h j () ()];grind
  ·rw[eH () λj hj=>h j (),h k () (λz=>e z.symm)];grind
theorem fV {f:Nat->Nat->Rat} {m:Nat}:∀{k:Nat},aK k (λi=>aK m (f i))=aK m (λj=>aK k λi=>f i j)
 | 0=>(bZ λ_ _=>rfl).symm
 | k+1=>by
  show aK k (λi=>aK m (f i))+aK m (f k)=aK m (λj=>aK k (λi=>f i j)+f k j)
  rw[fV,gO]
theorem Jy {rs:List Nat} {W:kC} {v:Nat->kC} {c:Nat->Rat} (a b:List kC):∀{k:Nat} {W:kC},(∀r∈rs,W r=aK k λj=>c j*v j r)->sV rs (a++W :: b)=aK k λj=>c j*sV rs (a++v j :: b)
 | 0,W,h=>K2 h a b
 | k+1,W,h=>by
  rw[vD (f:=λr=>aK k λj=>c j*v j r) (g:=v k) (x:=1) (y:=c k) (λr hr=>by rw[h r hr];show aK k _+_=_;grind) a b,Jy a b (k:=k) (W:=λr=>aK k λj=>c j*v j r) λr _=>rfl];show _=aK k _+_
  grind
end L2
namespace L2
open Nm
def xM (f:Nat->Nat):Nat->List Nat
 | 0=>[]
 | k+1=>f k :: xM f k
def sH (v:Nat->kC):Nat->List kC
 | 0=>[]
 | k+1=>v k :: sH v k
def M5 (v:Nat->kC) (i:Nat):Nat->List kC
 | 0=>[]
 | k+1=>if k<=i then [] else v k :: M5 v i k
theorem tZ {f:Nat->Nat}:∀{k:Nat},(xM f k).9=k
 | 0=>rfl
 | k+1=>by show (xM f k).9+1=_;rw[tZ]
theorem cw_len {v:Nat->kC}:∀{k:Nat},(sH v k).9=k
 | 0=>rfl
 | k+1=>by show (sH v k).9+1=_;rw[cw_len]
theorem rV {f:Nat->Nat} {r:Nat}:∀{k:Nat},r∈xM f k->∃t,t < k/\r=f t
 | k+1,h=>by
  rcases ay.mp h with h | h
  ·exact #[k,(),h]
  ·obtain t|a|b:=rV h;exact #[t,(),b]
theorem F6 {f g:Nat->Nat}:∀{k:Nat},(∀j,j < k->f j=g j)->xM f k=xM g k
 | 0,_=>rfl
 | k+1,h=>by
  show f k :: xM f k=g k :: xM g k
  rw[h k (),F6 λj hj=>h j ()]
theorem cw_congr {f g:Nat->kC}:∀{k:Nat},(∀j,j < k->f j=g j)->sH f k=sH g k
 | 0,_=>rfl
 | k+1,h=>by
  show f k :: sH f k=g k :: sH g k
  rw[h k (),cw_congr λj hj=>h j ()]
theorem cw_mem {v:Nat->kC} {j:Nat}:∀{k:Nat},j < k->v j∈sH v k
 | k+1,h=>by
  by_cases e:j=k
  ·subst e;exact .head _
  ·exact .tail _ (cw_mem ())
theorem cw_in {v:Nat->kC} {x:kC}:∀{k:Nat},x∈sH v k->∃t,t < k/\x=v t
 | k+1,h=>by
  rcases ay.mp h with h | h
  ·exact #[k,(),h]
  ·obtain t|a|b:=cw_in h;exact #[t,(),b]
theorem Pj {v:Nat->kC} {i j:Nat} (h1:i < j):∀{k:Nat},j < k->v j∈M5 v i k
 | k+1,h=>by
  show v j∈if k<=i then [] else v k :: M5 v i k
  rw[if_neg ()];by_cases e:j=k
  ·subst e;exact .head _
  ·exact .tail _ (Pj h1 ())
theorem HI {v:Nat->kC} {i:Nat} {x:kC}:∀{k:Nat},x∈M5 v i k->∃t,t < k/\x=v t
 | k+1,h=>by
  have h:x∈if k<=i then [] else v k :: M5 v i k:=h
  split at h
  ·cases h
  ·rcases ay.mp h with h | h
   ·exact #[k,(),h]
   ·obtain t|a|b:=HI h;exact #[t,(),b]
theorem cw_split {v:Nat->kC} {i:Nat}:∀{k:Nat},i < k->sH v k=M5 v i k++v i :: sH v i
 | k+1,h=>by
  show v k :: sH v k=(if k<=i then [] else v k :: M5 v i k)++_
  by_cases e:i=k
  ·subst e;rw[if_pos (ah _)];rfl
  ·rw[if_neg (),cw_split (k:=k) (i:=i) ()];rfl
theorem C2 {c:Nat->Rat} (hi:i < k) (hW:∀r∈rs,W r=aK k λj=>c j*v j r):sV rs (M5 v i k++W :: sH v i)=c i*sV rs (sH v k):=by
 rw[Jy (v:=v) (c:=c) (W:=W) _ _ hW,eH hi λj hj ne=>?_,cw_split hi];rcases aR j i with h | h
 ·obtain s|t|e:=II (cw_mem (v:=v) h);rw[e,EF];grind
 ·obtain s|t|e:=II (Pj (v:=v) (show i < j by lia) hj);have:=EF (x:=v j) (rs:=rs) t s (sH v i);rw[e,cy,fY,this];grind
theorem Vu {c:Nat->Rat} (hW:∀r∈rs,W r=aK k λj=>c j*v j r):sV rs (W :: sH v k)=0:=by
 have:=Jy (v:=v) (c:=c) (W:=W) [] (sH v k) hW;rw[dg] at this;rw[this];refine bZ λj hj=>?_
 obtain s|t|e:=II (cw_mem (v:=v) hj);have:=EF (x:=v j) (rs:=rs) s [] t;rw[dg] at this;rw[e,dg,this];grind
theorem Mn {c:Nat->Rat} (hi:i∉rs) (h1:W i=aK k (λj=>c j*v j i)+s) (hW:∀r∈rs,W r=aK k λj=>c j*v j r):sV (i :: rs) (W :: sH v k)=s*sV rs (sH v k):=by
 have e:=vD (rs:=i :: rs) (h:=W) (f:=λr=>aK k λj=>c j*v j r) (g:=λr=>if r=i then 1 else 0) (x:=1) (y:=s) (λr hr=>by
  rcases ay.mp hr with rfl | hr
  ·rw[h1,if_pos rfl];grind
  ·rw[hW r hr,if_neg (λz=>hi (by rw[<- z];exact hr))];grind) [] (sH v k)
 rw[dg,dg,dg,Vu (c:=c) λr _=>rfl] at e
 have e2:sV (i :: rs) ((λr=>if r=i then (1:Rat) else 0) :: sH v k)=sV rs (sH v k):=by
  show 1*(if i=i then (1:Rat) else 0)*sV rs ([]++sH v k)+Bl (λws=>sV rs ws) i ([]++[λr=>if r=i then (1:Rat) else 0]) (sH v k) (-1)=_
  have hF:∀a b,(λws=>sV rs ws) (a++(λr=>if r=i then (1:Rat) else 0) :: b)=0*(λws=>sV rs ws) (a++(λr=>if r=i then (1:Rat) else 0) :: b)+0*(λws=>sV rs ws) (a++(λr=>if r=i then (1:Rat) else 0) :: b):=λa b=>by
   have:=K2 (h:=λr=>if r=i then (1:Rat) else 0) (rs:=rs) (λr hr=>if_neg λz=>hi (by rw[<- z];exact hr)) a b
   dsimp only
   rw[this];grind
  have:=Ep (r:=i) hF (sH v k) [] [] (-1);rw[this,if_pos rfl,dg];grind
 rw[e2] at e;rw[e];grind
theorem S6 {F:List kC->Rat} {r B W:Nat}:∀{post pre:List kC} {s:Rat},(∀ws,(∀w∈ws,w∈pre++post)->ws.9+1=(pre++post).9->Fr 1 B (F ws))->(∀w∈post,Fr 1 W (w r))->Fr 1 1 s->Fr 1 (post.9*(W*B)) (Bl F r pre post s)
 | [],pre,s,_,_,_=>by show Fr 1 _ 0;exact Fr.zero
 | v :: post,pre,s,hF,hw,hs=>by
  have t1:Fr 1 (W*B) (s*v r*F (pre++post)):=by
   have:=(hs.mul (hw v (.head _))).mul (hF (pre++post) (λw h=>by
    rcases aB.mp h with h | h
    ·exact mh _ h
    ·exact b6 _ (.tail _ h)) (by simp only[ao,bL];lia))
   simpa using this
  have t2:=S6 (F:=F) (r:=r) (B:=B) (W:=W) (post:=post) (pre:=pre++[v]) (s:=-s) (λws h h'=>hF ws (λw hw=>by simpa using h w hw) (by simpa using h')) (λw h=>hw w (.tail _ h)) (by simpa using hs.neg);exact (t1.add t2).mono (by rw[bL,dG];lia)
theorem AU {W N:Nat}:∀{rs:List Nat} {vs:List kC},vs.9<=N->(∀v∈vs,∀r∈rs,Fr 1 W (v r))->Fr 1 ((N*W)^rs.9) (sV rs vs)
 | [],[],_,_=>by show Fr 1 1 1;exact (Fr.int (i:=1) ())
 | [],_ :: _,_,_=>by show Fr 1 _ 0;exact Fr.zero
 | r :: rs,vs,hl,h=>by
  have:=S6 (F:=λws=>sV rs ws) (r:=r) (B:=(N*W)^rs.9) (W:=W) (post:=vs) (pre:=[]) (s:=1) (λws h1 h2=>AU (by rw[dg] at h2;lia) λv hv r' hr'=>h v (by simpa using h1 v hv) r' (.tail _ hr')) (λw hw=>h w hw r (.head _)) (Fr.int (i:=1) ());refine this.mono ?_;rw[bL,c7,bu ((N*W)^rs.9),cD N];exact ax _ hl
structure yZ (a:Nat->Nat->Rat) (m k:Nat) (pm p:Nat->Nat) (l:Nat->Nat->Rat) (d:Rat):Prop where
 inj:∀i j,i < m->j < m->pm i=pm j->i=j
 rng:∀i,i < m->pm i < m
 km:k<=m
 d0:d≠0
 det:d=sV (xM pm k) (sH (λj r=>a r (p j)) k)
 eqs:∀i,i < m->∀c,d*a (pm i) c=aK k (λj=>a (pm i) (p j)*l j c)+if i < k then 0 else l i c
 unit:∀i,i < m->∀j,j < k->l i (p j)=if i=j then d else 0
section
variable {a l:Nat->Nat->Rat} {m k:Nat} {pm p:Nat->Nat} {d:Rat}
theorem yZ.start (h:∀i,i < m->pm i=i):yZ a m 0 pm p a 1 where
 inj i j hi hj e:=by rw[h i hi,h j hj] at e;exact e
 rng i hi:=by rw[h i hi];exact hi
 km:=a8 _
 d0:=()
 det:=rfl
 eqs i hi c:=by
  rw[h i hi,if_neg ()];show 1*a i c=0+a i c
  grind
 unit i _ j hj:=absurd hj ()
theorem yZ.coef (B:yZ a m k pm p l d) (hi:i < m):a (pm i) c=aK k (λj=>(l j c / d)*a (pm i) (p j))+if i < k then 0 else l i c / d:=by
 have h:=B.eqs i hi c;have d0:=B.d0
 have e:aK k (λj=>(l j c / d)*a (pm i) (p j))=(1 / d)*aK k (λj=>a (pm i) (p j)*l j c):=by
  rw[<- bW];exact aA λj _=>by grind
 rw[e]
 split at h
 ·rw[if_pos (by assumption)];grind
 ·rw[if_neg (by assumption)];grind
theorem yZ.old (B:yZ a m k pm p l d) (hi:i < k):l i c=sV (xM pm k) (M5 (λj r=>a r (p j)) i k++(λr=>a r c) :: sH (λj r=>a r (p j)) i):=by
 have km:=B.km;have d0:=B.d0;rw[C2 (v:=λj r=>a r (p j)) (c:=λj=>l j c / d) hi λr hr=>?_,<- B.det]
 ·grind
 ·obtain t|ht|rfl:=rV hr;have:=B.coef (i:=t) (c:=c) ();rw[if_pos ht] at this;rw[this];grind
theorem yZ.new (B:yZ a m k pm p l d) (h1:k<=i) (hi:i < m):l i c=sV (pm i :: xM pm k) ((λr=>a r c) :: sH (λj r=>a r (p j)) k):=by
 have km:=B.km;have d0:=B.d0
 have hn:pm i∉xM pm k:=λhm=>by
  obtain t|ht|e:=rV hm;have:=B.inj i t hi () e
  lia
 have e1:a (pm i) c=aK k (λj=>(l j c / d)*a (pm i) (p j))+l i c / d:=by
  have:=B.coef (i:=i) (c:=c) hi;rwa [if_neg ()] at this
 have e2:∀r∈xM pm k,a r c=aK k (λj=>(l j c / d)*a r (p j)):=λr hr=>by
  obtain t|ht|rfl:=rV hr;have:=B.coef (i:=t) (c:=c) ();rw[if_pos ht] at this;rw[this];grind
 rw[Mn (v:=λj r=>a r (p j)) (c:=λj=>l j c / d) (W:=λr=>a r c) (s:=l i c / d) hn e1 e2,<- B.det];grind
theorem yZ.fr (B:yZ a m k pm p l d) (hN:k < N) (hW:1<=W) (ha:∀i,i < m->∀c,Fr 1 W (a i c)) (hi:i < m):Fr 1 ((N*W)^(k+1)) (l i c):=by
 have km:=B.km;have mono:∀t,t<=k+1->(N*W)^t<=(N*W)^(k+1):=λt ht=>ar (b8 () hW) ht
 have ha':∀r∈xM pm k,∀c,Fr 1 W (a r c):=λr hr c=>by
  obtain t|ht|rfl:=rV hr;exact ha _ (B.rng t ()) c
 by_cases h:i < k
 ·rw[B.old h];refine (AU (W:=W) (N:=N) ?_ ?_).mono (mono _ (by rw[tZ];lia))
  ·have:=congrArg Zs (cw_split (v:=λj r=>a r (p j)) h);rw[ao,bL,cw_len] at this;rw[ao,bL]
   lia
  ·intro v hv r hr;rcases aB.mp hv with hv | hv
   ·obtain t|_|rfl:=HI hv;exact ha' r hr _
   ·rcases ay.mp hv with rfl | hv
    ·exact ha' r hr _
    ·obtain t|_|rfl:=cw_in hv;exact ha' r hr _
 ·rw[B.new () hi];refine (AU (W:=W) (N:=N) ?_ ?_).mono (mono _ (by rw[bL,tZ];lia))
  ·rw[bL,cw_len]
   lia
  ·intro v hv r hr
   have hr':∀c,Fr 1 W (a r c):=λc=>by
    rcases ay.mp hr with rfl | hr
    ·exact ha _ (B.rng i hi) c
    ·exact ha' r hr c
   rcases ay.mp hv with rfl | hv
   ·exact hr' _
   ·obtain t|_|rfl:=cw_in hv;exact hr' _
theorem yZ.dfr (B:yZ a m k pm p l d) (hN:k<=N) (ha:∀i,i < m->∀c,Fr 1 W (a i c)):Fr 1 ((N*W)^k) d:=by
 have km:=B.km;rw[B.det]
 have:=AU (W:=W) (N:=N) (rs:=xM pm k) (vs:=sH (λj r=>a r (p j)) k) (by rw[cw_len];exact hN) λv hv r hr=>by
  obtain t|ht|rfl:=rV hr;obtain t'|_|rfl:=cw_in hv;exact ha _ (B.rng t ()) _
 rwa [tZ] at this
def jJ (k t i:Nat):Nat:=if i=k then t else if i=t then k else i
theorem pH (hk:k < m) (ht:t < m) (hi:i < m):jJ k t i < m:=by
 unfold jJ
 split
 ·exact ht
 ·split
  ·exact hk
  ·exact hi
theorem Uh (h:jJ k t i=jJ k t j):i=j:=by
 unfold jJ at h
 split at h <;> split at h <;> (try split at h) <;> (try split at h) <;> lia
theorem uZ (h:k<=t) (hi:i < k):jJ k t i=i:=by
 unfold jJ;rw[if_neg (),if_neg ()]
theorem vP (h:k<=t) (hi:k<=i):k<=jJ k t i:=by
 unfold jJ
 split
 ·exact h
 ·split <;> lia
theorem yZ.swap (B:yZ a m k pm p l d) {t:Nat} (h:k<=t) (ht:t < m):yZ a m k (λi=>pm (jJ k t i)) p (λi=>l (jJ k t i)) d where
 inj i j hi hj e:=Uh (B.inj _ _ (pH () ht hi) (pH () ht hj) e)
 rng i hi:=B.rng _ (pH () ht hi)
 km:=B.km
 d0:=B.d0
 det:=by rw[B.det,F6 (f:=pm) (g:=λi=>pm (jJ k t i)) λj hj=>by rw[uZ h hj]]
 eqs i hi c:=by
  have e:=B.eqs (jJ k t i) (pH () ht hi) c;have e1:aK k (λj=>a (pm (jJ k t i)) (p j)*l (jJ k t j) c)=aK k (λj=>a (pm (jJ k t i)) (p j)*l j c):=aA λj hj=>by rw[uZ h hj]
  rw[e1];by_cases hk:i < k
  ·rw[uZ h hk] at e ⊢;exact e
  ·rw[if_neg hk];rw[if_neg (by have:=vP h (show k<=i by lia);lia)] at e;exact e
 unit i hi j hj:=by
  rw[B.unit _ (pH () ht hi) j hj];by_cases hk:i < k
  ·rw[uZ h hk]
  ·have:=vP h (show k<=i by lia);rw[if_neg (),if_neg ()]
theorem yZ.step (B:yZ a m k pm p l d) {c0:Nat} (hk:k < m) (h0:l k c0≠0):yZ a m (k+1) pm (λj=>if j=k then c0 else p j) (λi c=>if i=k then l k c else (l k c0*l i c - l i c0*l k c) / d) (l k c0) where
 inj:=B.inj
 rng:=B.rng
 km:=hk
 d0:=h0
 det:=by
  rw[B.new (ah _) hk];show _=sV (pm k :: xM pm k) ((λr=>a r (if k=k then c0 else p k)) :: sH _ k)
  rw[if_pos rfl];congr 2;exact cw_congr λj hj=>by rw[if_neg (show j≠k by lia)]
 eqs i hi c:=by
  have d0:=B.d0;have e1:=B.eqs i hi c;have e2:=B.eqs i hi c0;show l k c0*a (pm i) c=(aK k _+_)+_
  have s1:aK k (λj=>a (pm i) (if j=k then c0 else p j)*(if j=k then l k c else (l k c0*l j c - l j c0*l k c) / d))=(l k c0 / d)*aK k (λj=>a (pm i) (p j)*l j c)+(- l k c / d)*aK k (λj=>a (pm i) (p j)*l j c0):=by
   rw[<- bW,<- bW,<- gO];refine aA λj hj=>?_
   rw[if_neg (show j≠k by lia),if_neg (show j≠k by lia)];grind
  rw[s1];simp only[if_true];generalize aK k (λj=>a (pm i) (p j)*l j c)=S1 at e1 ⊢;generalize aK k (λj=>a (pm i) (p j)*l j c0)=S2 at e2 ⊢;rcases pX i k with h | h | h
  ·rw[if_pos h] at e1 e2;rw[if_pos ()];grind
  ·subst h;rw[if_neg ()] at e1 e2;rw[if_pos ()];grind
  ·rw[if_neg ()] at e1 e2;rw[if_neg (),if_neg ()];grind
 unit i hi j hj:=by
  have d0:=B.d0;by_cases e:j=k
  ·subst e;simp only[if_true];by_cases ei:i=j
   ·rw[if_pos ei,if_pos ei]
   ·rw[if_neg ei,if_neg ei];grind
  ·have hj':j < k:=()
   rw[if_neg e];by_cases ei:i=k
   ·rw[if_pos ei,B.unit k hk j hj',if_neg (),if_neg ()]
   ·rw[if_neg ei,B.unit i hi j hj',B.unit k hk j hj',if_neg (show k≠j by lia)]
    split
    ·grind
    ·grind
end
def dM (m:Nat) (a:Nat->Nat->Rat) (x:Nat->Rat):Prop:=∃w:Nat->Rat,∀c,x c=aK m λt=>w t*a t c
theorem dM.row (hi:i < m):dM m a (a i):=#[λt=>if t=i then 1 else 0,λc=>by
 rw[eH hi λj _ ne=>by dsimp only;rw[if_neg ne];grind]
 dsimp only
 rw[if_pos rfl];grind]
theorem dM.lin (α β:Rat) (hx:dM m a x) (hy:dM m a y):dM m a λc=>α*x c+β*y c:=by
 obtain w|hw:=hx;obtain v|hv:=hy;refine #[λt=>α*w t+β*v t,λc=>?_]
 dsimp only
 rw[hw c,hv c,<- bW,<- bW,<- gO];exact aA λj _=>by grind
theorem dM.congr (h:∀c,x c=y c) (hx:dM m a x):dM m a y:=by obtain w|hw:=hx;exact #[w,λc=>by rw[<- h c];exact hw c]
theorem dM.trans (h:∀t,t < m'->dM m a (b t)) (hx:dM m' b x):dM m a x:=by
 obtain v|hv:=hx
 have h2:∀t,∃w:Nat->Rat,t < m'->∀c,b t c=aK m λs=>w s*a s c:=λt=>by
  by_cases ht:t < m'
  ·obtain w|hw:=h t ht;exact #[w,λ_=>hw]
  ·exact #[λ_=>0,λz=>absurd z ht]
 have hc:=Classical.axiomOfChoice h2;obtain w|hw:=hc;refine #[λs=>aK m' λt=>v t*w t s,λc=>?_];rw[hv c];have e1:aK m' (λt=>v t*b t c)=aK m' (λt=>aK m λs=>v t*(w t s*a s c)):=aA λt ht=>by rw[hw t ht c,<- bW]
 rw[e1,fV];refine aA λs _=>?_
 have:aK m' (λt=>v t*w t s)*a s c=a s c*aK m' (λt=>v t*w t s):=de ..;rw[this,<- bW];exact aA λt _=>by grind
theorem dM.zero (h:∀c,x c=0):dM m a x:=#[λ_=>0,λc=>by rw[h c,bZ λ_ _=>by grind]]
structure Fu (m n:Nat) (a:Nat->Nat->Rat) (k:Nat) (p:Nat->Nat) (R:Nat->Nat->Rat):Prop where
 inc:∀i j,i < j->j < k->p i < p j
 low:∀j,j < k->p j < n
 unit:∀i,i < k->∀j,j < k->R i (p j)=if i=j then 1 else 0
 lead:∀i,i < k->∀c,c < p i->R i c=0
 span:∀i,i < m->dM k R (a i)
 back:∀i,i < k->dM m a (R i)
section
variable {m m' k k' n:Nat} {a a' R R':Nat->Nat->Rat} {p p':Nat->Nat} {x:Nat->Rat}
theorem Fu.coef (h:Fu m n a k p R) (hx:dM k R x) (c:Nat):x c=aK k λj=>x (p j)*R j c:=by
 obtain w|hw:=hx;rw[hw c];refine aA λj hj=>?_
 rw[hw (p j),eH hj λt ht ne=>by rw[h.unit t ht j hj,if_neg ne];grind,h.unit j hj j hj,if_pos rfl];grind
theorem Fu.lead_in (h:Fu m n a k p R) (hx:dM k R x) (h1:x c≠0) (h0:∀c',c' < c->x c'=0):∃j,j < k/\p j=c:=by
 refine YM λhn=>h1 ?_
 rw[h.coef hx c];refine bZ λj hj=>?_
 rcases pX (p j) c with z | z | z
 ·rw[h0 _ z];grind
 ·exact absurd #[j,hj,z] hn
 ·rw[h.lead j hj c z];grind
theorem inc_le (h1:∀i j,i < j->j < k->p i < p j) (h2:∀i j,i < j->j < k'->p' i < p' j) (hs:∀j,j < k'->∃i,i < k/\p i=p' j):∀{j:Nat},j < k'->∀{i:Nat},i < k->p i=p' j->j<=i
 | 0,_,_,_,_=>a8 _
 | j+1,hj,i,hi,e=>by
  obtain i0|hi0|e0:=hs j ();have:=inc_le h1 h2 hs (j:=j) () hi0 e0;have lt:=h2 j (j+1) () hj;rcases pX i0 i with z | z | z
  ·lia
  ·subst z;lia
  ·have:=h1 i i0 z hi0;lia
theorem OP (h1:∀i j,i < j->j < k->p i < p j) (h:i<=j) (hj:j < k):p i<=p j:=by
 rcases aR i j with z | z
 ·exact dH (h1 i j z hj)
 ·have:i=j:=()
  rw[this];exact ah _
theorem KL (h1:∀i j,i < j->j < k->p i < p j) (h2:∀i j,i < j->j < k'->p' i < p' j) (hs:∀j,j < k'->∃i,i < k/\p i=p' j):k'<=k/\∀j,j < k'->p j<=p' j:=by
 refine #[?_,λj hj=>?_]
 ·rcases eJ k' with z | z
  ·lia
  ·obtain i|hi|e:=hs (k' - 1) ();have:=inc_le h1 h2 hs (j:=k' - 1) () hi e
   lia
 ·obtain i|hi|e:=hs j hj;rw[<- e];exact OP h1 (inc_le h1 h2 hs hj hi e) hi
theorem Fu.uniq (h:Fu m n a k p R) (h':Fu m' n a' k' p' R') (s1:∀i,i < m->dM m' a' (a i)) (s2:∀i,i < m'->dM m a (a' i)):k=k'/\(∀j,j < k->p j=p' j)/\∀i,i < k->∀c,R i c=R' i c:=by
 have x1:∀i,i < k->dM k' R' (R i):=λi hi=>dM.trans (λt ht=>h'.span t ht) (dM.trans s1 (h.back i hi))
 have x2:∀i,i < k'->dM k R (R' i):=λi hi=>dM.trans (λt ht=>h.span t ht) (dM.trans s2 (h'.back i hi))
 have y1:∀j,j < k->∃i,i < k'/\p' i=p j:=λj hj=>h'.lead_in (x1 j hj) (by rw[h.unit j hj j hj,if_pos rfl];decide) (h.lead j hj)
 have y2:∀j,j < k'->∃i,i < k/\p i=p' j:=λj hj=>h.lead_in (x2 j hj) (by rw[h'.unit j hj j hj,if_pos rfl];decide) (h'.lead j hj)
 obtain z1|w1:=KL h'.inc h.inc y1;obtain z2|w2:=KL h.inc h'.inc y2;have ek:k=k':=ou z1 z2;subst ek;have ep:∀j,j < k->p j=p' j:=λj hj=>ou (w2 j hj) (w1 j hj)
 refine #[rfl,ep,λi hi c=>?_];rw[h.coef (x2 i hi) c,eH hi λj hj ne=>by rw[ep j hj,h'.unit i hi j hj,if_neg (λz=>ne z.symm)];grind,ep i hi,h'.unit i hi i hi,if_pos rfl];grind
end
structure ot (a:Nat->Nat->Rat) (m k P:Nat) (p:Nat->Nat) (l:Nat->Nat->Rat) (d:Rat):Prop where
 km:k<=m
 d0:d≠0
 unit:∀i,i < m->∀j,j < k->l i (p j)=if i=j then d else 0
 inc:∀i j,i < j->j < k->p i < p j
 low:∀j,j < k->p j < P
 zero:∀i,k<=i->i < m->∀c,c < P->l i c=0
 lead:∀j,j < k->∀c,c < p j->l j c=0
 there:∀i,i < m->dM m l (a i)
 back:∀i,i < m->dM m a (l i)
section
variable {m k n P:Nat} {a l l':Nat->Nat->Rat} {p:Nat->Nat} {d d':Rat}
theorem ot.start:ot a m 0 0 p a 1 where
 km:=a8 _
 d0:=()
 unit _ _ j hj:=absurd hj ()
 inc _ j _ hj:=absurd hj ()
 low j hj:=absurd hj ()
 zero _ _ _ c hc:=absurd hc ()
 lead j hj:=absurd hj ()
 there i hi:=dM.row hi
 back i hi:=dM.row hi
theorem ot.skip (E:ot a m k P p l d) (h:∀i,k<=i->i < m->l i P=0):ot a m k (P+1) p l d :=
 #[E.km,E.d0,E.unit,E.inc,λj hj=>Lo (E.low j hj),λi h1 h2 c hc=>by
  by_cases e:c=P
  ·rw[e];exact h i h1 h2
  ·exact E.zero i h1 h2 c (),E.lead,E.there,E.back]
theorem Wg:jJ k t (jJ k t i)=i:=by
 unfold jJ
 split
 ·split <;> (try split) <;> lia
 ·split
  ·rw[if_pos rfl];lia
  ·rfl
theorem ot.swap (E:ot a m k P p l d) {t:Nat} (h:k<=t) (ht:t < m):ot a m k P p (λi=>l (jJ k t i)) d where
 km:=E.km
 d0:=E.d0
 unit i hi j hj:=by
  rw[E.unit _ (pH () ht hi) j hj];by_cases hk:i < k
  ·rw[uZ h hk]
  ·have:=vP h (show k<=i by lia);rw[if_neg (),if_neg ()]
 inc:=E.inc
 low:=E.low
 zero i h1 h2 c hc:=E.zero _ (vP h h1) (pH () ht h2) c hc
 lead j hj c hc:=by rw[uZ h hj];exact E.lead j hj c hc
 there i hi:=dM.trans (λs hs=>dM.congr (λc=>by rw[Wg]) (dM.row (a:=λi=>l (jJ k t i)) (i:=jJ k t s) (pH () ht hs))) (E.there i hi)
 back i hi:=E.back _ (pH () ht hi)
theorem ot.step (E:ot a m k P p l d) (hk:k < m) (h0:d'≠0) (unit':∀i,i < m->∀j,j < k+1->l' i (if j=k then P else p j)=if i=j then d' else 0)
  (hl:∀i,i < m->∃β γ:Rat,β≠0/\(i=k->γ=0)/\∀c,l' i c=β*l i c+γ*l k c):ot a m (k+1) (P+1) (λj=>if j=k then P else p j) l' d' where
 km:=hk
 d0:=h0
 unit:=unit'
 inc i j hij hj:=by
  by_cases e:j=k
  ·rw[if_pos e,if_neg ()];exact E.low i ()
  ·rw[if_neg e,if_neg ()];exact E.inc i j hij ()
 low j hj:=by
  by_cases e:j=k
  ·rw[if_pos e];lia
  ·rw[if_neg e];exact Lo (E.low j ())
 zero i h1 h2 c hc:=by
  by_cases e:c=P
  ·have:=unit' i h2 k ();rw[if_pos rfl,if_neg ()] at this;rw[e];exact this
  ·obtain β|γ|_|_|q:=hl i h2;rw[q c,E.zero i () h2 c (),E.zero k (ah _) hk c ()];grind
 lead j hj c hc:=by
  have km:=E.km;obtain β|γ|_|_|q:=hl j ();by_cases e:j=k
  ·rw[if_pos e] at hc;rw[q c,e,E.zero k (ah _) hk c hc];grind
  ·rw[if_neg e] at hc;have:=E.low j ();rw[q c,E.lead j () c hc,E.zero k (ah _) hk c ()];grind
 there i hi:=by
  refine dM.trans (λs hs=>?_) (E.there i hi);obtain β|γ|b0|_|q:=hl s hs;obtain βk|γk|bk0|gk|qk:=hl k hk;have g0:=gk rfl;refine dM.congr (λc=>?_) (dM.lin (1 / β) (-(γ / β) / βk) (dM.row (a:=l') hs) (dM.row (a:=l') hk));rw[q c,qk c,g0];grind
 back i hi:=by
  obtain β|γ|_|_|q:=hl i hi;exact dM.congr (λc=>(q c).symm) (dM.lin β γ (E.back i hi) (E.back k hk))
theorem ot.done (E:ot a m k n p l d) (ha:∀i,i < m->∀c,n<=c->a i c=0):Fu m n a k p (λi c=>l i c / d) where
 inc:=E.inc
 low:=E.low
 unit i hi j hj:=by
  have d0:=E.d0;have km:=E.km;rw[E.unit i () j hj]
  split
  ·grind
  ·grind
 lead i hi c hc:=by
  rw[E.lead i hi c hc];grind
 span i hi:=by
  have d0:=E.d0;refine dM.trans (λs hs=>?_) (E.there i hi);by_cases z:s < k
  ·refine dM.congr (λc=>?_) (dM.lin d 0 (dM.row (a:=λi c=>l i c / d) z) (dM.row (a:=λi c=>l i c / d) z));grind
  ·refine dM.zero λc=>?_
   by_cases hc:c < n
   ·exact E.zero s () hs c hc
   ·obtain w|hw:=E.back s hs;rw[hw c,bZ λt ht=>by rw[ha t ht c ()];grind]
 back i hi:=by
  have km:=E.km;have d0:=E.d0;refine dM.congr (λc=>?_) (dM.lin (1 / d) 0 (E.back i ()) (E.back i ()));grind
end
def fB (ls:List (List Int)) (i c:Nat):Rat:=(((ls.getD i []).getD c 0:Int):Rat)
def aS (rows:LR9) (i c:Nat):Rat:=(rows.getD i []).getD c 0
def rA (ls:List (List Int)) (k t:Nat):List (List Int):=(ls.set k (ls.getD t [])).set t (ls.getD k [])
def HL (ls:List (List Int)) (k c:Nat) (b:Int):List (List Int):=(ls.map λzs=>W0 (λx y=>((ls.getD k []).getD c 0*x - zs.getD c 0*y).fdiv b) zs (ls.getD k [])).set k (ls.getD k [])
section
variable {b d:Int}
theorem nI {α:Type} {l:List α} {x e:α} (hi:i < l.9):(l.set i x).getD j e=if j=i then x else l.getD j e:=by
 rw[aa,aa,List.getElem?_set];by_cases h:j=i
 ·subst h;rw[if_pos rfl,if_pos hi,if_pos rfl];rfl
 ·rw[if_neg (λz=>h z.symm),if_neg h]
theorem xp:(rA ls k t).9=ls.9:=by unfold rA;rw[cS,cS]
theorem Pn:(HL ls k c b).9=ls.9:=by unfold HL;rw[cS,af]
theorem getD_in {α:Type} {l:List α} {e:α} (h:i < l.9):l.getD i e∈l:=by
 rw[aa,ae h];exact az h
theorem Kk (w:∀zs∈ls,zs.9=n) (hk:k < ls.9) (ht:t < ls.9):∀zs∈rA ls k t,zs.9=n:=λzs hz=>by
 unfold rA at hz;rcases cZ hz with h | h
 ·rcases cZ h with h | h
  ·exact w zs h
  ·rw[h];exact w _ (getD_in ht)
 ·rw[h];exact w _ (getD_in hk)
theorem Lb (w:∀zs∈ls,zs.9=n) (hk:k < ls.9):∀zs∈HL ls k c b,zs.9=n:=λzs hz=>by
 unfold HL at hz;rcases cZ hz with h | h
 ·obtain y|hy|rfl:=au.mp h;rw[aT,w y hy,w _ (getD_in hk)]
  lia
 ·rw[h];exact w _ (getD_in hk)
theorem wJ (hk:k < ls.9) (ht:t < ls.9) (i c:Nat):fB (rA ls k t) i c=fB ls (jJ k t i) c:=by
 unfold fB rA jJ;rw[nI (by rw[cS];exact ht),nI hk];by_cases h1:i=t
 ·rw[if_pos h1];by_cases h2:i=k
  ·rw[if_pos h2,<- h1,<- h2]
  ·rw[if_neg h2,if_pos h1]
 ·rw[if_neg h1];by_cases h2:i=k
  ·rw[if_pos h2,if_pos h2]
  ·rw[if_neg h2,if_neg h2,if_neg h1]
theorem ye (w:∀zs∈ls,zs.9=n) (hc:n<=c):fB ls i c=0:=by
 unfold fB;by_cases h:i < ls.9
 ·have:=w _ (getD_in (e:=[]) h);rw[aa (l:=ls.getD i []),aG ()];rfl
 ·rw[aa (l:=ls),aG ()];rfl
theorem pS {x:Int} (h:(x:Rat)=0):x=0:=by
 have:(x:Rat)=((0:Int):Rat):=h;exact dO.mp this
theorem Jv {x b:Int} (hb:b≠0) (hq:∃z:Int,q=(z:Rat)) (e:(x:Rat)=(b:Rat)*q):((x.fdiv b:Int):Rat)=q:=by
 obtain z|rfl:=hq;rw[<- aL] at e;have:=dO.mp e;rw[this,VV _ hb]
theorem wI (h:Fr 1 W q):∃z:Int,q=(z:Rat):=by
 obtain z|e|_:=h;exact #[z,by rw[<- e];simp]
theorem vC {z:Int} (h:Fr 1 W (z:Rat)):z.natAbs<=W:=by
 obtain y|e|b:=h;have:(z:Rat)=(y:Rat):=by rw[<- e];simp
 rw[dO.mp this];simpa using b
theorem O2 (w:∀zs∈ls,zs.9=n) (hk:k < ls.9) (hb:b≠0) (hi:i < ls.9) (hz:∀c,∃z:Int,(fB ls k P*fB ls i c - fB ls i P*fB ls k c) / (b:Rat)=(z:Rat)) (c:Nat) :
  fB (HL ls k P b) i c=if i=k then fB ls k c else (fB ls k P*fB ls i c - fB ls i P*fB ls k c) / (b:Rat):=by
 by_cases e:i=k
 ·rw[if_pos e];unfold fB HL;rw[nI (by rw[af];exact hk),if_pos e]
 ·rw[if_neg e];by_cases hc:c < n
  ·have hb':(b:Rat)≠0:=λz=>hb (pS z)
   have lk:=w _ (getD_in (e:=[]) hk);have li:=w _ (getD_in (e:=[]) hi)
   have e1:fB (HL ls k P b) i c=(((((ls.getD k []).getD P 0*(ls.getD i []).getD c 0 - (ls.getD i []).getD P 0*(ls.getD k []).getD c 0).fdiv b:Int)):Rat):=by
    unfold HL;rw[fB,nI (by rw[af];exact hk),if_neg e];rw[aa (l:=YO _ ls),aw,ae hi];show ((((W0 _ ls[i] (ls.getD k [])).getD c 0:Int)):Rat)=_
    have ei:ls.getD i []=ls[i]:=by rw[aa,ae hi];rfl
    rw[<- ei];rw[aa (l:=W0 _ _ _),bV,aa (l:=ls.getD i []) (i:=c),aa (l:=ls.getD k []) (i:=c),ae (show c < (ls.getD i []).9 by lia),ae (show c < (ls.getD k []).9 by lia)];rfl
   rw[e1];refine Jv hb (hz c) ?_;rw[Bi,aL,aL];show _=(b:Rat)*((fB ls k P*fB ls i c - fB ls i P*fB ls k c) / (b:Rat))
   show fB ls k P*fB ls i c - fB ls i P*fB ls k c=_
   grind
  ·rw[ye (Lb w hk) (show n<=c by lia),ye w (i:=i) (show n<=c by lia),ye w (i:=k) (show n<=c by lia)];grind
end
section
variable {m k n P:Nat} {a l l2:Nat->Nat->Rat} {pm p p2:Nat->Nat} {d:Rat}
theorem yZ.congr (B:yZ a m k pm p l d) (hp:∀j,j < k->p2 j=p j) (hl:∀i,i < m->∀c,l2 i c=l i c):yZ a m k pm p2 l2 d where
 inj:=B.inj
 rng:=B.rng
 km:=B.km
 d0:=B.d0
 det:=by rw[B.det,cw_congr (f:=λj r=>a r (p j)) (g:=λj r=>a r (p2 j)) λj hj=>by rw[hp j hj]]
 eqs i hi c:=by
  have km:=B.km;rw[B.eqs i hi c,hl i hi c];congr 1;exact aA λj hj=>by rw[hp j hj,hl j () c]
 unit i hi j hj:=by rw[hp j hj,hl i hi];exact B.unit i hi j hj
theorem dM.rows (h:∀i,i < m->∀c,l2 i c=l i c) (hx:dM m l x):dM m l2 x:=by obtain w|hw:=hx;exact #[w,λc=>by rw[hw c];exact aA λt ht=>by rw[h t ht c]]
theorem ot.congr (E:ot a m k P p l d) (hp:∀j,j < k->p2 j=p j) (hl:∀i,i < m->∀c,l2 i c=l i c):ot a m k P p2 l2 d where
 km:=E.km
 d0:=E.d0
 unit i hi j hj:=by rw[hp j hj,hl i hi];exact E.unit i hi j hj
 inc i j hij hj:=by rw[hp i (),hp j hj];exact E.inc i j hij hj
 low j hj:=by rw[hp j hj];exact E.low j hj
 zero i h1 h2 c hc:=by rw[hl i h2];exact E.zero i h1 h2 c hc
 lead j hj c hc:=by
  have km:=E.km;rw[hp j hj] at hc;rw[hl j ()];exact E.lead j hj c hc
 there i hi:=(E.there i hi).rows hl
 back i hi:=(E.back i hi).congr λc=>(hl i hi c).symm
theorem ot.kP (E:ot a m k P p l d):k<=P:=by
 have:∀j,j < k->j<=p j:=by
  intro j
  induction j with
  | zero=>intro _;exact a8 _
  | succ j ih =>
   intro hj;have:=ih ();have:=E.inc j (j+1) () hj
   lia
 rcases eJ k with z | z
 ·lia
 ·have h1:=this (k - 1) ();have h2:=E.low (k - 1) ()
  lia
end
structure Dk (ls0:List (List Int)) (n P:Nat) (ls:List (List Int)) (ps:List Nat) (d:Int):Prop where
 len:ls.9=ls0.9
 wide:∀zs∈ls,zs.9=n
 bar:∃pm,yZ (fB ls0) ls0.9 ps.9 pm (λj=>ps.getD j 0) (fB ls) d
 el:ot (fB ls0) ls0.9 ps.9 P (λj=>ps.getD j 0) (fB ls) d
theorem Dk.start (w:∀zs∈ls0,zs.9=n):Dk ls0 n 0 ls0 [] 1:=#[rfl,w,#[λi=>i,yZ.start λ_ _=>rfl],ot.start]
theorem Dk.d0 (h:Dk ls0 n P ls ps d):d≠0:=λz=>h.el.d0 (by rw[z];rfl)
theorem Dk.skip (h:Dk ls0 n P ls ps d) (hz:∀i,ps.9<=i->i < ls.9->fB ls i P=0):Dk ls0 n (P+1) ls ps d:=#[h.len,h.wide,h.bar,h.el.skip λi h1 h2=>hz i h1 (by rw[h.len];exact h2)]
theorem getD_snoc (hj:j < l.9+1):(l++[x]).getD j 0=if j=l.9 then x else l.getD j 0:=by
 rw[aa,aa];by_cases e:j=l.9
 ·rw[if_pos e,e,bE (ah _),jo];rfl
 ·rw[if_neg e,bM ()]
theorem Dk.int (h:Dk ls0 n P ls ps d) (hW:1<=W) (h0:∀i,i < ls0.9->∀c,Fr 1 W (fB ls0 i c)) (ht:ps.9<=t) (ht2:t < ls.9) (hne:fB ls t P≠0) :
  ∀i,i < ls.9->i≠ps.9->∀c,∃z:Int,(fB (rA ls ps.9 t) ps.9 P*fB (rA ls ps.9 t) i c - fB (rA ls ps.9 t) i P*fB (rA ls ps.9 t) ps.9 c) / (d:Rat)=(z:Rat):=λi hi ne c=>by
 obtain pm|B:=h.bar;have hl:=h.len;have hk:ps.9 < ls.9:=()
 have B1:=(B.swap ht ()).congr (p2:=λj=>ps.getD j 0) (l2:=fB (rA ls ps.9 t)) (λ_ _=>rfl) (λi _ c=>wJ hk ht2 i c)
 have h1:fB (rA ls ps.9 t) ps.9 P≠0:=by
  rw[wJ hk ht2];unfold jJ;rw[if_pos rfl];exact hne
 have B2:=B1.step (c0:=P) () h1;have:=B2.fr (W:=W) (N:=ps.9+2) () hW h0 (i:=i) (c:=c) ();rw[if_neg ne] at this;exact wI this
theorem Dk.step (h:Dk ls0 n P ls ps d) (hW:1<=W) (h0:∀i,i < ls0.9->∀c,Fr 1 W (fB ls0 i c)) (ht:ps.9<=t) (ht2:t < ls.9) (hne:fB ls t P≠0) :
  Dk ls0 n (P+1) (HL (rA ls ps.9 t) ps.9 P d) (ps++[P]) (((HL (rA ls ps.9 t) ps.9 P d).getD ps.9 []).getD P 0):=by
 obtain pm|B:=h.bar;have hl:=h.len;have hk:ps.9 < ls.9:=()
 have hz:=h.int hW h0 ht ht2 hne;have w1:=Kk h.wide hk ht2;have k1:ps.9 < (rA ls ps.9 t).9:=by rw[xp];exact hk
 have B1:=(B.swap ht ()).congr (p2:=λj=>ps.getD j 0) (l2:=fB (rA ls ps.9 t)) (λ_ _=>rfl) (λi _ c=>wJ hk ht2 i c);have E1:=(h.el.swap ht ()).congr (p2:=λj=>ps.getD j 0) (l2:=fB (rA ls ps.9 t)) (λ_ _=>rfl) (λi _ c=>wJ hk ht2 i c)
 have h1:fB (rA ls ps.9 t) ps.9 P≠0:=by
  rw[wJ hk ht2];unfold jJ;rw[if_pos rfl];exact hne
 have B2:=B1.step (c0:=P) () h1
 have fc:∀i,i < ls0.9->∀c,fB (HL (rA ls ps.9 t) ps.9 P d) i c=if i=ps.9 then fB (rA ls ps.9 t) ps.9 c else (fB (rA ls ps.9 t) ps.9 P*fB (rA ls ps.9 t) i c - fB (rA ls ps.9 t) i P*fB (rA ls ps.9 t) ps.9 c) / (d:Rat):=λi hi c=>by
  by_cases e:i=ps.9
  ·rw[if_pos e];unfold fB HL;rw[nI (by rw[af];exact k1),if_pos e]
  ·have:=O2 w1 k1 h.d0 (i:=i) (by rw[xp];lia) (hz i () e) c;rw[this]
 have ed:(((((HL (rA ls ps.9 t) ps.9 P d).getD ps.9 []).getD P 0:Int)):Rat)=fB (rA ls ps.9 t) ps.9 P:=by
  have:=fc ps.9 () P;rw[if_pos rfl] at this;exact this
 have lp:(ps++[P]).9=ps.9+1:=by rw[ao];rfl
 have hp:∀j,j < ps.9+1->(ps++[P]).getD j 0=if j=ps.9 then P else ps.getD j 0:=λj hj=>getD_snoc hj
 refine #[by rw[Pn,xp];exact hl,Lb w1 k1,#[λi=>pm (jJ ps.9 t i),?_],?_]
 ·rw[ed,lp];exact B2.congr hp fc
 ·rw[ed,lp];refine ot.congr (E1.step (d':=fB (rA ls ps.9 t) ps.9 P) (l':=λi c=>if i=ps.9 then fB (rA ls ps.9 t) ps.9 c else (fB (rA ls ps.9 t) ps.9 P*fB (rA ls ps.9 t) i c - fB (rA ls ps.9 t) i P*fB (rA ls ps.9 t) ps.9 c) / (d:Rat)) () h1 B2.unit λi hi=>?_) hp fc;have d0:=h.el.d0;by_cases e:i=ps.9
  ·refine #[1,0,(),λ_=>rfl,λc=>?_];rw[if_pos e,e];grind
  ·refine #[fB (rA ls ps.9 t) ps.9 P / (d:Rat),-(fB (rA ls ps.9 t) i P) / (d:Rat),?_,λz=>absurd z e,λc=>?_]
   ·intro z;apply h1;grind
   ·rw[if_neg e];grind
theorem Dk.sz (h:Dk ls0 n P ls ps d) (hW:1<=W) (h0:∀i,i < ls0.9->∀c,Fr 1 W (fB ls0 i c)) (hP:P<=n) (hr:min ls0.9 n<=r) (r15:r<=15):(d.natAbs<=(16*W)^r)/\∀zs∈ls,∀z∈zs,z.natAbs<=(16*W)^r:=by
 obtain pm|B:=h.bar;have kP:=h.el.kP;have km:=B.km;have hl:=h.len;have mono:∀{s t:Nat},s<=t->(16*W)^s<=(16*W)^t:=λhs=>ar (b8 () hW) hs
 refine #[ag (vC (B.dfr (W:=W) (N:=16) () h0)) (mono ()),λzs hz z hz'=>?_];obtain i|hi|rfl:=bN hz;obtain c|hc|rfl:=bN hz';have hw:=h.wide _ (az hi)
 have ez:fB ls i c=(((ls[i])[c]:Int):Rat):=by
  unfold fB;rw[aa (l:=ls),ae hi];show ((ls[i].getD c 0:Int):Rat)=_
  rw[aa,ae hc];rfl
 by_cases hk:i < ps.9
 ·have:Fr 1 ((16*W)^ps.9) (fB ls i c):=by
   have hd:=B.d0;rw[B.old hk]
   have:=AU (W:=W) (N:=16) (rs:=xM pm ps.9) (vs:=M5 (λj r=>fB ls0 r (ps.getD j 0)) i ps.9++(λr=>fB ls0 r c) :: sH (λj r=>fB ls0 r (ps.getD j 0)) i) (by
    have:=congrArg Zs (cw_split (v:=λj r=>fB ls0 r (ps.getD j 0)) hk);rw[ao,bL,cw_len] at this;rw[ao,bL]
    lia) (by
    intro v hv r hr
    have hr':∀c,Fr 1 W (fB ls0 r c):=λc=>by
     obtain t|ht|rfl:=rV hr;exact h0 _ (B.rng t ()) c
    rcases aB.mp hv with hv | hv
    ·obtain t|_|rfl:=HI hv;exact hr' _
    ·rcases ay.mp hv with rfl | hv
     ·exact hr' _
     ·obtain t|_|rfl:=cw_in hv;exact hr' _)
   rwa [tZ] at this
  rw[ez] at this;exact ag (vC this) (mono ())
 ·by_cases hn:ps.9 < n
  ·have:=B.fr (W:=W) (N:=16) () hW h0 (i:=i) (c:=c) ();rw[ez] at this;exact ag (vC this) (mono ())
  ·have:=h.el.zero i () () c ();rw[ez] at this;rw[pS this];exact a8 _
def Tp (M W:Nat) (q:Rat):Prop:=∃z:Int,q*(M:Rat)=(z:Rat)/\z.natAbs<=W
theorem Tp.of {M V W:Nat} (h:Fr M V q) (hW:V*M<=W):Tp M W q:=by obtain z|a|b:=h;exact #[z,a,ag b hW]
theorem Tp.mono (h:Tp M W q) (hW:W<=W'):Tp M W' q:=by obtain z|a|b:=h;exact #[z,a,ag b hW]
theorem Tp.fr (h:Tp M W q) (h0:0 < M):Fr M W q:=by obtain z|a|b:=h;exact #[z,a,ag b (eU _ h0)]
def Ck (rows:LR9) (n w:Nat):Prop:=∃M W:Nat,0 < M/\M<=2^4300000/\1<=W/\W<=2^w/\(∀xs∈rows,∀x∈xs,Tp M W x)/\w<=4300000/\min rows.9 n<=15/\min rows.9 n*(w+4)<=8900000
def jt (xs:List Rat):List Int:=dJ (xs.map nm) (fD (xs.map nm))
theorem td:(jt xs).9=xs.9:=by unfold jt dJ;rw[af,af]
theorem qV {xs:List Rat}:0 < fD (xs.map nm):=AL () λb hb=>by
 obtain n|hn|rfl:=au.mp hb;obtain x|_|rfl:=au.mp hn;exact gZ x
theorem Qh:(((jt xs).getD c 0:Int):Rat)=xs.getD c 0*((fD (xs.map nm):Int):Rat):=by
 unfold jt dJ;rw[aa,aa,aw,aw];cases e:xs[c]? with
 | none=>show ((0:Int):Rat)=0*_;rw[cA];rfl
 | some x=>exact qM (oZ (au.mpr #[x,ai e,rfl]))
section
variable {xs:List Rat}
theorem Cm (hi:i < rows.9):fB (rows.map jt) i c=((fD ((rows.getD i []).map nm):Int):Rat)*aS rows i c:=by
 unfold fB aS
 have e:(rows.map jt).getD i []=jt (rows.getD i []):=by
  rw[aa,aa,aw,ae hi];rfl
 rw[e,Qh,de]
theorem Jt (hw:∀xs∈rows,xs.9=n) (hc:n<=c):aS rows i c=0:=by
 unfold aS;by_cases h:i < rows.9
 ·have:=hw _ (getD_in (e:=[]) h);rw[aa (l:=rows.getD i []),aG ()];rfl
 ·rw[aa (l:=rows),aG ()];rfl
theorem Ds (i:Nat) (hi:i < rows.9):dM rows.9 (fB (rows.map jt)) (aS rows i):=by
 have h0:((fD ((rows.getD i []).map nm):Int):Rat)≠0:=λz=>by
  have:=qV (xs:=rows.getD i []);have:=pS z
  lia
 refine dM.congr (λc=>?_) (dM.lin (1 / ((fD ((rows.getD i []).map nm):Int):Rat)) 0 (dM.row (a:=fB (rows.map jt)) hi) (dM.row (a:=fB (rows.map jt)) hi));rw[Cm hi];grind
theorem Dq (i:Nat) (hi:i < rows.9):dM rows.9 (aS rows) (fB (rows.map jt) i):=by
 refine dM.congr (λc=>?_) (dM.lin ((fD ((rows.getD i []).map nm):Int):Rat) 0 (dM.row (a:=aS rows) hi) (dM.row (a:=aS rows) hi));rw[Cm hi];grind
theorem rn (h:Tp M W x):(nm x).2∣(M:Int):=by
 obtain z|e|b:=h
 exact Fr.den (V:=z.natAbs) (M:=M) #[z,e,by
  rcases eJ M with h | h
  ·subst h;have:(z:Rat)=0:=by rw[<- e];simp
   rw[pS this];simp
  ·exact eU _ h]
theorem uY (h:Tp M W x) (h0:0 < M) (hB:0 < B) (d1:(nm x).2∣B) (d2:B∣(M:Int)):∃t:Int,x*(B:Rat)=(t:Rat)/\t.natAbs<=W:=by
 obtain z|e|b:=h;obtain s|es:=d2;refine #[(nm x).1*(B / (nm x).2),(qM d1).symm,?_]
 have s0:0 < s:=by
  rcases Int.lt_trichotomy s 0 with h | h | h
  ·have:=vJ hB h
   lia
  ·rw[h] at es;lia
  ·exact h
 have e2:(((nm x).1*(B / (nm x).2)*s:Int):Rat)=(z:Rat):=by
  rw[aL,qM d1,<- e,<- aJ,es,aL];grind
 have e3:=dO.mp e2;have:((nm x).1*(B / (nm x).2)).natAbs*s.natAbs=z.natAbs:=by rw[<- eC,e3]
 have h1:1<=s.natAbs:=()
 have:=eU ((nm x).1*(B / (nm x).2)).natAbs h1
 lia
theorem zz (h0:0 < M) (h:∀x∈xs,Tp M W x):fD (xs.map nm)∣(M:Int):=zo () (Int.one_dvd _) λb hb=>by
 obtain n|hn|rfl:=au.mp hb;obtain x|hx|rfl:=au.mp hn;exact #[gZ x,rn (h x hx)]
theorem Ck.rowM (F:Ck rows n w) (hx:xs∈rows):∃M,vH M (xs.map nm):=by
 obtain M|W|h0|h1|hW|h2|h3|h4|_:=F;refine #[M,(),?_,λy hy=>?_]
 ·show ((M:Nat):Int).natAbs < 2^4400000
  rw[b9];exact aZ h1 (dm () ())
 ·obtain x|hx'|rfl:=au.mp hy;have t:=h3 xs hx x hx';refine #[gZ x,rn t,?_];obtain s|e|b:=uY t h0 (gZ x) (zF _) (rn t);have e2:(((nm x).1:Int):Rat)=(s:Rat):=by rw[<- e];exact mS x
  rw[dO.mp e2];exact aZ (ag b h2) (dm () ())
theorem Ck.ent (F:Ck rows n w):∃W:Nat,1<=W/\W<=2^w/\∀i,i < (rows.map jt).9->∀c,Fr 1 W (fB (rows.map jt) i c):=by
 obtain M|W|h0|h1|hW|h2|h3|h4|_:=F;refine #[W,hW,h2,λi hi c=>?_];rw[af] at hi;have hx:=getD_in (e:=[]) hi;rw[Cm hi];unfold aS;generalize rows.getD i []=xs at hx ⊢;by_cases hc:c < xs.9
 ·have t:=h3 xs hx _ (getD_in (e:=0) hc);obtain s|e|b:=uY t h0 (qV (xs:=xs)) (oZ (au.mpr #[_,getD_in (e:=0) hc,rfl])) (zz h0 (h3 xs hx));rw[de,e];exact Fr.int b
 ·rw[aa,aG ()];show Fr 1 W (_*0)
  rw[du];exact Fr.zero
end
def bX (rows:LR9) (n:Nat) (R:LR9) (ps:List Nat):Prop:=R.9=ps.9/\(∀xs∈R,xs.9=n)/\Fu rows.9 n (aS rows) ps.9 (λj=>ps.getD j 0) (aS R)
structure Yg (rows:LR9) (n w:Nat) (R:LR9) (ps:List Nat) (d:Int) (ls:List (List Int)):Prop where
 rr:bX rows n R ps
 d0:d≠0
 len:ls.9=ps.9
 wide:∀zs∈ls,zs.9=n
 val:∀i c,fB ls i c=(d:Rat)*aS R i c
 dsz:d.natAbs<=2^(min rows.9 n*(w+4))
 zsz:∀zs∈ls,∀z∈zs,z.natAbs<=2^(min rows.9 n*(w+4))
 tp:∀xs∈R,∀x∈xs,Tp d.natAbs (2^(min rows.9 n*(w+4))) x
 km:ps.9<=rows.9
theorem Fu.congrR {a R R2:Nat->Nat->Rat} (h:Fu m n a k p R) (hr:∀i,i < k->∀c,R2 i c=R i c):Fu m n a k p R2 :=
 #[h.inc,h.low,λi hi j hj=>by rw[hr i hi];exact h.unit i hi j hj,λi hi c hc=>by rw[hr i hi];exact h.lead i hi c hc,λi hi=>(h.span i hi).rows hr,λi hi=>(h.back i hi).congr λc=>(hr i hi c).symm]
theorem Fu.other (h:Fu m n a k p R) (s1:∀i,i < m->dM m' a' (a i)) (s2:∀i,i < m'->dM m a (a' i)):Fu m' n a' k p R :=
 #[h.inc,h.low,h.unit,h.lead,λi hi=>dM.trans h.span (s2 i hi),λi hi=>dM.trans s1 (h.back i hi)]
theorem xS (h:W<=2^w):(16*W)^r<=2^(r*(w+4)):=by
 calc (16*W)^r<=(2^(w+4))^r:=nM (by rw[bG];lia) _
  _=2^(r*(w+4)):=by rw[<- w5,bu]
theorem Dk.done (h:Dk (rows.map jt) n n ls ps d) (hw:∀xs∈rows,xs.9=n) (F:Ck rows n w) :
  ∃R,Yg rows n w R ps d (ls.take ps.9):=by
 obtain W|hW|W2|ent:=F.ent;obtain _|_|_|_|_|_|_|_|r15|_:=F;have hl:=h.len;have d0:=h.d0;have d0':(d:Rat)≠0:=λz=>d0 (pS z)
 have km:=h.el.km;have hm:(rows.map jt).9=rows.9:=af ..;obtain s1|s2:=h.sz (r:=min rows.9 n) hW ent (ah _) (by rw[hm];exact ah _) r15;have s2':∀zs∈ls,∀z∈zs,z.natAbs<=2^(min rows.9 n*(w+4)):=λzs hz z hz'=>ag (s2 zs hz z hz') (xS W2)
 have er:∀i c,aS ((ls.take ps.9).map λzs=>zs.map λ(z:Int)=>(z:Rat) / (d:Rat)) i c=fB (ls.take ps.9) i c / (d:Rat):=λi c=>by
  unfold aS fB;rw[aa (l:=YO _ _),aw,aa (l:=List.take _ _)];cases e:(ls.take ps.9)[i]? with
  | none=>show (0:Rat)=((0:Int):Rat) / _;grind
  | some zs =>
   show (zs.map λ(z:Int)=>(z:Rat) / (d:Rat)).getD c 0=((zs.getD c 0:Int):Rat) / (d:Rat)
   rw[aa,aa,aw];cases e2:zs[c]? with
   | none=>show (0:Rat)=((0:Int):Rat) / _;grind
   | some z=>rfl
 have et:∀i,i < ps.9->∀c,fB (ls.take ps.9) i c=fB ls i c:=λi hi c=>by
  unfold fB;rw[aa (l:=List.take _ _),eB hi,<- aa]
 have RR:=(h.el.done λi hi c hc=>ye (n:=n) (λzs hz=>by
  obtain xs|hx|rfl:=au.mp hz;rw[td];exact hw xs hx) hc).congrR (R2:=aS ((ls.take ps.9).map λzs=>zs.map λ(z:Int)=>(z:Rat) / (d:Rat))) λi hi c=>by rw[er,et i hi]
 rw[hm] at RR;refine #[(ls.take ps.9).map λzs=>zs.map λ(z:Int)=>(z:Rat) / (d:Rat),#[by rw[af,bf];lia,λxs hx=>?_,RR.other Dq Ds],d0,by rw[bf];lia,λzs hz=>h.wide zs (ck hz),λi c=>?_,ag s1 (xS W2),λzs hz=>s2' zs (ck hz),λxs hx x hx'=>?_,()]
 ·obtain zs|hz|rfl:=au.mp hx;rw[af];exact h.wide zs (ck hz)
 ·rw[er];grind
 ·obtain zs|hz|rfl:=au.mp hx;obtain z|hz'|rfl:=au.mp hx';have b:=s2' zs (ck hz) z hz';rcases Iv d with e | e
  ·refine #[z,?_,b];have:((d.natAbs:Nat):Rat)=(d:Rat):=by rw[<- aJ,<- e]
   rw[this];grind
  ·refine #[-z,?_,by rw[mi];exact b];have:((d.natAbs:Nat):Rat)=-(d:Rat):=by rw[<- aJ,<- cO];congr 1;lia
   rw[this,cO];grind
theorem O1 (hl:R.9=R'.9) (w1:∀xs∈R,xs.9=n) (w2:∀xs∈R',xs.9=n) (h:∀i,i < R.9->∀c,aS R i c=aS R' i c):R=R':=by
 apply cz hl;intro i h1 h2;apply cz (by rw[w1 _ (az h1),w2 _ (az h2)]);intro c h3 h4;have:=h i h1 c;unfold aS at this;rw[aa (l:=R),aa (l:=R'),ae h1,ae h2] at this;have this:(R[i]).getD c 0=(R'[i]).getD c 0:=this;rw[aa,aa,ae h3,ae h4] at this;exact this
theorem bX.uniq (h:bX rows n R ps) (h':bX rows' n R' ps') (s1:∀i,i < rows.9->dM rows'.9 (aS rows') (aS rows i)) (s2:∀i,i < rows'.9->dM rows.9 (aS rows) (aS rows' i)):R=R'/\ps=ps':=by
 obtain l1|w1|r1:=h;obtain l2|w2|r2:=h';obtain ek|ep|eR:=r1.uniq r2 s1 s2;refine #[O1 () w1 w2 λi hi c=>eR i () c,?_];apply cz ek;intro j h1 h2;have:=ep j h1;rw[aa,aa,ae h1,ae h2] at this;exact this
theorem bX.same (h:bX rows n R ps) (h':bX rows n R' ps'):R=R'/\ps=ps':=h.uniq h' (λ_ hi=>dM.row hi) (λ_ hi=>dM.row hi)
open PySem PySem.Spec PyProof.Rows
def Lh (l:Addr) (H:Hp) (zs:List Int) (v:V):Prop:=∃q,v=V.ref q/\q≠l/\H q=some (.lst (zs.map V.int))
def ux (l:Addr) (H:Hp) (p:Addr) (ls:List (List Int)):Prop:=p≠l/\∃xs,H p=some (.lst xs)/\Yt (Lh l H) ls xs
theorem Lh.same (h:Lh l H zs v) (e:aE H H'):Lh l H' zs v:=by obtain q|a|n|b:=h;exact #[q,a,n,e _ _ b]
theorem Lh.upd {l:Addr} {H:Hp} {zs:List Int} {v:V} {o:HO} (h:Lh l H zs v):Lh l (upd H l o) zs v:=by obtain q|a|n|b:=h;exact #[q,a,n,by rw[aY n];exact b]
theorem ux.upd {l:Addr} {H:Hp} {p:Addr} {ls:List (List Int)} {o:HO} (h:ux l H p ls):ux l (upd H l o) p ls:=by obtain n|xs|a|b:=h;exact #[n,xs,by rw[aY n];exact a,ce (λ_ _ z=>z.upd) b]
theorem ne_old {H:Hp} (h:H l≠none) (n:H r=none):r≠l:=λz=>h (by rw[<- z];exact n)
theorem gY {α β:Type} {F:α->β->Prop}:∀{l1:List α} {l2:List β} (_:Yt F l1 l2) (i:Nat) {x:α} {y:β},F x y->Yt F (l1.set i x) (l2.set i y)
 | _,_,.nil,_,_,_,_=>.nil
 | _,_,.cons _ r,0,_,_,h=>.cons h r
 | _,_,.cons a r,i+1,_,_,h=>.cons a (gY r i h)
theorem TY (h:ls[i]?=some zs):fB ls i c=((zs.getD c 0:Int):Rat):=by
 unfold fB;rw[aa (l:=ls),h];rfl
theorem XS:((z:Int):Rat)≠0↔z≠0:=#[λh e=>h (by rw[e];rfl),λh e=>h (pS e)]
theorem Fx {zs:List Int} (h:c < zs.9):Iz (zs.map V.int) (c:Int)=some (V.int (zs.getD c 0)):=dC (by rw[aw,aa,ae h];rfl)
inductive CK (vs:List V) (H:Hp) (Q:VK) (E9:XK):Prop
 | mk (l p:Addr) (ls:List (List Int)) (b c:Nat):vs=[.ref p,.int b,.int c]->ux l H p ls->ls.9<=1000->b<=1000->(∀zs∈ls,c < zs.9)->(∀t:Nat,b<=t->t < ls.9->fB ls t c≠0->Q (.int t) H)->((∀t,b<=t->t < ls.9->fB ls t c=0)->Q .non H)->CK  vs H Q E9
inductive yx (vs:List V) (H:Hp) (Q:VK) (E9:XK):Prop
 | mk (l p:Addr) (ls:List (List Int)) (t k:Nat):vs=[.ref p,.int t,.int k]->H l≠none->ux l H p ls->ls.9<=1000->t < ls.9->k < ls.9->(∀r H',H r=none->aE H H'->ux l H' r (rA ls k t)->Q (.ref r) H')->yx  vs H Q E9
inductive CM (vs:List V) (H:Hp) (Q:VK) (E9:XK):Prop
 | mk (l p:Addr) (ls:List (List Int)) (k c n:Nat) (b:Int):vs=[.ref p,.int k,.int c,.int b]->H l≠none->ux l H p ls->ls.9<=1000->k < ls.9->(∀zs∈ls,zs.9=n)->n<=1000->c < n->b≠0->Sz 8999000 b->(∀zs∈ls,∀z∈zs,Sz 8999000 z)->(∀r H',H r=none->aE H H'->ux l H' r (HL ls k c b)->Q (.ref r) H')->CM  vs H Q E9
theorem Of (K:FG9) {X:Cx} {a b:Expr} {ta:TA} {p pos tpos:Pos} {elts:List Expr} {kk:Nat} (hg:Gl X "zip") (hm:X.mg "zip"=none) (ha:PA X [a,b] ta) (hK:X.K=K:=by rfl) (hs:Yu [a,b] X.env=[(false,eval a X.env),(false,eval b X.env)]:=by rfl) (hs2:Yu [b] X.env=[(false,eval b X.env)]:=by rfl) :
  PI X (.Tuple elts kk tpos) (.Call (.Name "zip" p) [a,b] [] pos) (Vf K ta):=by subst hK;exact pN hg hm ha hs hs2
def eI (ps:List Nat):List V:=ps.map λ(j:Nat)=>V.int (j:Int)
inductive Cw (K:FG9) (vs:List V) (H:Hp) (Q:VK) (E9:XK):Prop
 | mk (p:Addr) (n w:Nat) (H0:Hp) (rows:LR9):vs=[.ref p,.int n]->bg K H0 H p rows->rows.9<=100->n<=100->(∀xs∈rows,xs.9=n)->Ck rows n w->(∀t lp qp R ps d ls H',H' t=some (.tup [.ref lp,.ref qp])->H' qp=some (.lst (eI ps))->ux qp H' lp ls->aE H H'->Yg rows n w R ps d ls->Q (.ref t) H')->Cw K vs H Q E9
inductive yv (K:FG9) (vs:List V) (H:Hp) (Q:VK) (E9:XK):Prop
 | mk (p:Addr) (n w:Nat) (H0:Hp) (rows:LR9):vs=[.ref p,.int n]->bg K H0 H p rows->rows.9<=100->n<=100->(∀xs∈rows,xs.9=n)->Ck rows n w->(∀r R ps M H',H r=none->aE H H'->bg K H H' r R->bX rows n R ps->ps.9<=rows.9->0 < M->M<=2^(min rows.9 n*(w+4))->(∀xs∈R,∀x∈xs,Tp M (2^(min rows.9 n*(w+4))) x)->Q (.ref r) H')->yv K vs H Q E9
def yV (rows:LR9) (i:Nat):Rat:=((fD ((rows.getD i []).map nm):Int):Rat)
theorem zy:yV rows i≠0:=λz=>by
 have:=qV (xs:=rows.getD i []);have:=pS z
 lia
structure Im (rows:LR9) (n P:Nat) (rs:LR9) (ps:List Nat):Prop where
 len:rs.9=rows.9
 wide:∀xs∈rs,xs.9=n
 ex:∃pm l d,yZ (fB (rows.map jt)) rows.9 ps.9 pm (λj=>ps.getD j 0) l d/\ot (fB (rows.map jt)) rows.9 ps.9 P (λj=>ps.getD j 0) l d/\∀i,i < rows.9->∀c,aS rs i c=l i c / (d*if i < ps.9 then 1 else yV rows (pm i))
section
variable {rows rs rs':LR9} {n P w a:Nat} {ps:List Nat}
theorem OF {k i j:Nat} (h:d≠0):d*(if i < k then 1 else yV rows j)≠0:=by
 have:=zy (rows:=rows) (i:=j)
 split <;> grind
theorem Im.start (hw:∀xs∈rows,xs.9=n):Im rows n 0 rows []:=#[rfl,hw,λi=>i,fB (rows.map jt),1,yZ.start λ_ _=>rfl,ot.start,λi hi c=>by
 rw[Cm hi,if_neg (by show ¬i < 0;lia)];have:=zy (rows:=rows) (i:=i);show aS rows i c=yV rows i*aS rows i c / (1*yV rows i)
 grind]
theorem Im.skip (h:Im rows n P rs ps) (hz:∀i,ps.9<=i->i < rs.9->aS rs i P=0):Im rows n (P+1) rs ps:=by
 obtain len|wide|pm|l|d|B|E|v:=h;refine #[len,wide,pm,l,d,B,E.skip λi h1 h2=>?_,v];have:=v i h2 P;rw[hz i h1 ()] at this;have ne:=OF (rows:=rows) (i:=i) (j:=pm i) (k:=ps.9) B.d0;generalize d*(if i < ps.9 then 1 else yV rows (pm i))=D at this ne;grind
theorem Im.km (h:Im rows n P rs ps):ps.9<=rows.9/\ps.9<=P:=by obtain _|_|_|_|_|_|E|_:=h;exact #[E.km,E.kP]
theorem Im.step (h:Im rows n P rs ps) (ht:ps.9<=t) (ht2:t < rs.9) (hne:aS rs t P≠0) (l':rs'.9=rows.9) (w':∀xs∈rs',xs.9=n)
  (hv:∀i,i < rows.9->∀c,aS rs' i c=if i=ps.9 then 1 / aS rs t P*aS rs t c else aS rs (jJ ps.9 t i) c - aS rs (jJ ps.9 t i) P*(1 / aS rs t P*aS rs t c)):Im rows n (P+1) rs' (ps++[P]):=by
 obtain len|wide|pm|l|d|B|E|v:=h;have hk:ps.9 < rows.9:=()
 have B1:=B.swap ht ();have E1:=E.swap ht ();have d0:=B.d0
 have v1:∀i,i < rows.9->∀c,aS rs (jJ ps.9 t i) c=l (jJ ps.9 t i) c / (d*if i < ps.9 then 1 else yV rows (pm (jJ ps.9 t i))):=λi hi c=>by
  rw[v _ (pH hk () hi) c];by_cases z:i < ps.9
  ·rw[uZ ht z,if_pos z]
  ·rw[if_neg z,if_neg (by have:=vP ht (show ps.9<=i by lia);lia)]
 have sk:jJ ps.9 t ps.9=t:=by unfold jJ;rw[if_pos rfl]
 have vt:∀c,aS rs t c=l (jJ ps.9 t ps.9) c / (d*yV rows (pm (jJ ps.9 t ps.9))):=λc=>by
  have:=v1 ps.9 hk c;rw[if_neg (),sk] at this;rw[sk];exact this
 have bt:=zy (rows:=rows) (i:=pm (jJ ps.9 t ps.9));have h1:l (jJ ps.9 t ps.9) P≠0:=λz=>hne (by rw[vt P,z];grind)
 have B2:=B1.step (c0:=P) hk h1;have lp:(ps++[P]).9=ps.9+1:=by rw[ao];rfl
 have hp:∀j,j < ps.9+1->(ps++[P]).getD j 0=if j=ps.9 then P else ps.getD j 0:=λj hj=>getD_snoc hj
 refine #[l',w',λi=>pm (jJ ps.9 t i),_,_,by rw[lp];exact B2.congr (l2:=λi c=>if i=ps.9 then l (jJ ps.9 t ps.9) c else (l (jJ ps.9 t ps.9) P*l (jJ ps.9 t i) c - l (jJ ps.9 t i) P*l (jJ ps.9 t ps.9) c) / d) hp (λ_ _ _=>rfl),?_,λi hi c=>?_]
 ·rw[lp];refine ot.congr (E1.step (d':=l (jJ ps.9 t ps.9) P) (l':=λi c=>if i=ps.9 then l (jJ ps.9 t ps.9) c else (l (jJ ps.9 t ps.9) P*l (jJ ps.9 t i) c - l (jJ ps.9 t i) P*l (jJ ps.9 t ps.9) c) / d) hk h1 B2.unit λi hi=>?_) hp (λ_ _ _=>rfl);by_cases e:i=ps.9
  ·refine #[1,0,(),λ_=>rfl,λc=>?_];rw[if_pos e,e];grind
  ·refine #[l (jJ ps.9 t ps.9) P / d,-(l (jJ ps.9 t i) P) / d,?_,λz=>absurd z e,λc=>?_]
   ·intro z;apply h1;grind
   ·rw[if_neg e];grind
 ·rw[hv i hi c,lp,vt c,vt P];by_cases e:i=ps.9
  ·rw[if_pos e,if_pos e,if_pos ()];grind
  ·rw[if_neg e,if_neg e,v1 i hi c,v1 i hi P];have ne:=OF (rows:=rows) (i:=i) (j:=pm (jJ ps.9 t i)) (k:=ps.9) d0;by_cases z:i < ps.9
   ·rw[if_pos z,if_pos ()];grind
   ·have bi:=zy (rows:=rows) (i:=pm (jJ ps.9 t i));rw[if_neg z,if_neg ()];grind
theorem Im.done (h:Im rows n n rs ps) (hw:∀xs∈rows,xs.9=n):bX rows n (rs.take ps.9) ps:=by
 obtain len|wide|pm|l|d|B|E|v:=h;have km:=E.km;refine #[by rw[bf];lia,λxs hx=>wide xs (ck hx),Fu.other ((E.done λi hi c hc=>?_).congrR λi hi c=>?_) Dq Ds]
 ·exact ye (n:=n) (λzs hz=>by
   obtain xs|hx|rfl:=au.mp hz;rw[td];exact hw xs hx) hc
 ·have e:aS (rs.take ps.9) i c=aS rs i c:=by
   unfold aS;rw[aa (l:=List.take _ _),eB hi,<- aa]
  rw[e,v i () c,if_pos hi,ji]
def TN (rows:LR9) (n w a:Nat):Prop:=∃M W:Nat,0 < M/\M<=2^a/\1<=W/\W<=2^w/\(∀xs∈rows,∀x∈xs,Tp M W x)/\min rows.9 n<=15/\2*(min rows.9 n*(w+4)+a)<=3990000
theorem TN.ent (F:TN rows n w a):∃W:Nat,1<=W/\W<=2^w/\∀i,i < rows.9->∀c,Fr 1 W (fB (rows.map jt) i c):=by
 obtain M|W|h0|h1|hW|h2|h3|_:=F;refine #[W,hW,h2,λi hi c=>?_];have hx:=getD_in (e:=[]) hi;rw[Cm hi];unfold aS;generalize rows.getD i []=xs at hx ⊢;by_cases hc:c < xs.9
 ·have t:=h3 xs hx _ (getD_in (e:=0) hc);obtain s|e|b:=uY t h0 (qV (xs:=xs)) (oZ (au.mpr #[_,getD_in (e:=0) hc,rfl])) (zz h0 (h3 xs hx));rw[de,e];exact Fr.int b
 ·rw[aa,aG ()];show Fr 1 W (_*0)
  rw[du];exact Fr.zero
theorem TN.bot (F:TN rows n w a) (hi:i < rows.9):∃b:Nat,0 < b/\b<=2^a/\yV rows i=(b:Rat):=by
 obtain M|W|h0|h1|hW|h2|h3|_:=F;have hx:=getD_in (e:=[]) hi;have p:=qV (xs:=rows.getD i []);have dv:=zz h0 (h3 _ hx);refine #[(fD ((rows.getD i []).map nm)).natAbs,(),ag (kG h0 ?_) h1,?_]
 ·have:=fU.mpr dv;rwa [b9] at this
 ·unfold yV;rw[<- aJ];congr 1
  lia
theorem T9 {z y:Int} (hl:l=(z:Rat)) (hD:D=(y:Rat)) (h0:D≠0) (hz:z.natAbs<=W):Tp y.natAbs W (l / D):=by
 rcases Iv y with e | e
 ·refine #[z,?_,hz];have:((y.natAbs:Nat):Rat)=D:=by rw[<- aJ,<- e,hD]
  rw[this,hl];grind
 ·refine #[-z,?_,by rw[mi];exact hz];have:((y.natAbs:Nat):Rat)=-D:=by rw[<- aJ,hD,<- cO];congr 1;lia
  rw[this,hl,cO];grind
theorem Im.sz (h:Im rows n P rs ps) (F:TN rows n w a) (hP:P<=n) (hi:i < rows.9):∃D:Nat,0 < D/\D<=2^(min rows.9 n*(w+4)+a)/\∀c,Tp D (2^(min rows.9 n*(w+4))) (aS rs i c):=by
 obtain len|wide|pm|l|d|B|E|v:=h;obtain W|hW|W2|ent:=F.ent;obtain _|_|_|_|_|_|_|r15|_:=id F;have kP:=E.kP;have km:=B.km;have mono:∀{s t:Nat},s<=t->(16*W)^s<=(16*W)^t:=λhs=>ar (b8 () hW) hs
 obtain y|ey:=wI (B.dfr (W:=W) (N:=16) () ent);have hy:=B.dfr (W:=W) (N:=16) () ent;rw[ey] at hy;have yb:y.natAbs<=2^(min rows.9 n*(w+4)):=ag (vC hy) (ag (mono (show ps.9<=min rows.9 n by lia)) (xS W2));have y0:y≠0:=λz=>B.d0 (by rw[ey,z];rfl)
 have lb:∀c,∃z:Int,l i c=(z:Rat)/\z.natAbs<=2^(min rows.9 n*(w+4)):=λc=>by
  by_cases hk:i < ps.9
  ·have f:Fr 1 ((16*W)^ps.9) (l i c):=by
    rw[B.old hk]
    have:=AU (W:=W) (N:=16) (rs:=xM pm ps.9) (vs:=M5 (λj r=>fB (rows.map jt) r (ps.getD j 0)) i ps.9++(λr=>fB (rows.map jt) r c) :: sH (λj r=>fB (rows.map jt) r (ps.getD j 0)) i) (by
     have:=congrArg Zs (cw_split (v:=λj r=>fB (rows.map jt) r (ps.getD j 0)) hk);rw[ao,bL,cw_len] at this;rw[ao,bL]
     lia) (by
     intro v hv r hr
     have hr':∀c,Fr 1 W (fB (rows.map jt) r c):=λc=>by
      obtain t|ht|rfl:=rV hr;exact ent _ (B.rng t ()) c
     rcases aB.mp hv with hv | hv
     ·obtain t|_|rfl:=HI hv;exact hr' _
     ·rcases ay.mp hv with rfl | hv
      ·exact hr' _
      ·obtain t|_|rfl:=cw_in hv;exact hr' _)
    rwa [tZ] at this
   obtain z|ez:=wI f;rw[ez] at f;exact #[z,ez,ag (vC f) (ag (mono ()) (xS W2))]
  ·by_cases hn:ps.9 < n
   ·have f:=B.fr (W:=W) (N:=16) () hW ent (i:=i) (c:=c) hi;obtain z|ez:=wI f;rw[ez] at f;exact #[z,ez,ag (vC f) (ag (mono ()) (xS W2))]
   ·refine #[0,?_,a8 _];by_cases hc:c < n
    ·rw[E.zero i () hi c ()];rfl
    ·have:=v i hi c;rw[Jt wide ()] at this;have ne:=OF (rows:=rows) (i:=i) (j:=pm i) (k:=ps.9) B.d0;generalize d*(if i < ps.9 then 1 else yV rows (pm i))=D at this ne;show l i c=0
     grind
 obtain ⟨b,b0,b1,eb⟩:∃b:Nat,0 < b/\b<=2^a/\(if i < ps.9 then 1 else yV rows (pm i))=(b:Rat):=by
  by_cases hk:i < ps.9
  ·exact #[1,(),bC,by rw[if_pos hk];rfl]
  ·obtain b|x1|x2|x3:=F.bot (B.rng i hi);exact #[b,x1,x2,by rw[if_neg hk,x3]]
 have eD:d*(b:Rat)=((y*b:Int):Rat):=by rw[aL,ey,aJ]
 refine #[(y*b).natAbs,?_,?_,λc=>?_]
 ·rw[eC,b9];exact b8 () b0
 ·rw[eC,b9,bG];exact aP yb b1
 ·obtain z|ez|bz:=lb c;rw[v i hi c,eb];refine T9 ez eD (λq=>?_) bz;rw[eD] at q;have:=pS q;rcases Int.mul_eq_zero.mp this with q | q
  ·exact y0 q
  ·lia
end
theorem j7 (h:Tp M W x) (h0:0 < M) (h1:M<=2^3995000) (h2:W<=2^3995000):jV x:=by
 refine #[?_,?_]
 ·obtain s|e|b:=uY h h0 (gZ x) (zF _) (rn h);have e2:(((nm x).1:Int):Rat)=(s:Rat):=by rw[<- e];exact mS x
  rw[dO.mp e2];exact aZ (ag b h2) (dm () ())
 ·have:=kG h0 (o9.mp (rn h));show ((x.den:Nat):Int).natAbs < _
  rw[b9];exact aZ (ag this h1) (dm () ())
theorem Tp.mul (h:Tp M W x) (h':Tp M' W' y):Tp (M*M') (W*W') (x*y):=by
 obtain z|e|b:=h;obtain z'|e'|b':=h';refine #[z*z',?_,by rw[eC];exact aP b b'];rw[aL,<- e,<- e',sW];grind
theorem Qj (h:jV x) (h0:x≠0):jV (1 / x):=by
 have n0:x.num≠0:=λz=>h0 (Rat.num_eq_zero.mp z)
 have e:=mS x;have e1:(1 / x)*(x.num:Rat)=(x.den:Rat):=by rw[e];grind
 have t:Tp x.num.natAbs x.den (1 / x):=by
  rcases Iv x.num with q | q
  ·refine #[x.den,?_,by simp];have:((x.num.natAbs:Nat):Rat)=(x.num:Rat):=by rw[<- aJ,<- q]
   rw[this,e1,aJ]
  ·refine #[-(x.den:Int),?_,by simp];have:((x.num.natAbs:Nat):Rat)=-(x.num:Rat):=by rw[<- aJ,<- cO];congr 1;lia
   rw[this,cO,aJ,<- e1];grind
 obtain h1|h2:=h;have h1:x.num.natAbs < 2^4000000:=h1;have h2:((x.den:Nat):Int).natAbs < 2^4000000:=h2;rw[b9] at h2;refine #[?_,?_]
 ·obtain s|e|b:=uY t () (gZ (1 / x)) (zF _) (rn t);have e2:(((nm (1 / x)).1:Int):Rat)=(s:Rat):=by rw[<- e];exact mS (1 / x)
  rw[dO.mp e2];exact aZ b h2
 ·have:=kG (show 0 < x.num.natAbs by lia) (o9.mp (rn t));show (((1 / x).den:Nat):Int).natAbs < _
  rw[b9];exact aZ this h1
theorem Kt {K:FG9} {H H':Hp} {L:Addr}:∀{rows:LR9} {ys:List V},Yt (cC K H H') rows ys->V.ref L∉ys->Yt (λxs x=>∃q,x=V.ref q/\H q=none/\q≠L/\df K H' q xs) rows ys
 | _,_,.nil,_=>.nil
 | _,_,.cons ⟨q,a,b,c⟩ r,n=>.cons #[q,a,b,λz=>n (by rw[a,z];exact .head _),c] (Kt r λz=>n (.tail _ z))
def gK (K:FG9) (H:Hp) (l:Addr) (H':Hp) (xs:List Rat) (x:V):Prop:=∃q,x=V.ref q/\H q=none/\q≠l/\df K H' q xs
section
variable {K:FG9} {H H' H2:Hp} {l:Addr} {xs:List Rat} {x:V}
theorem gK.same (h:gK K H l H' xs x) (e:aE H' H2):gK K H l H2 xs x:=by obtain q|a|b|c|d:=h;exact #[q,a,b,c,d.same e]
theorem gK.upd {ys:List V} {o:HO} (h:gK K H l H' xs x) (hl:H' l=some (.lst ys)):gK K H l (upd H' l o) xs x:=by obtain q|a|b|c|d:=h;exact #[q,a,b,c,d.updL hl c]
theorem gK.rowF (h:gK K H l H' xs x):cC K H H' xs x:=by obtain q|a|b|_|d:=h;exact #[q,a,b,d]
end
inductive zN (K:FG9) (vs:List V) (H:Hp) (Q:VK) (E9:XK):Prop
 | mk (u v:V) (x y:Rat):vs=[u,v]->bY K H x u->bY K H y v->jV x->jV y->y≠0->(∀r H',aE H H'->bY K H' (x / y) (.ref r)->Q (.ref r) H')->zN K vs H Q E9
theorem Gi {K:FG9} (h:zN K vs H Q E):Qn K vs H Q E:=by
 obtain u|v|x|y|rfl|⟨p,rfl,hp⟩|⟨q,rfl,hq⟩|⟨s1,s2⟩|⟨s3,s4⟩|y0|k:=h;have n0:(nm y).1≠0:=λz=>y0 (Rat.num_eq_zero.mp z)
 have px:=gZ x;have py:=gZ y;have e1:=qJ x;have e2:=qJ y;have dx:(((nm x).2:Int):Rat)≠0:=λz=>by have:=pS z;lia
 have dy:(((nm y).2:Int):Rat)≠0:=λz=>by have:=pS z;lia
 refine #[p,q,_,_,_,_,rfl,hp,hq,px,py,n0,s1,s2,s3,s4,λr H' s g=>k r H' s (bY.mk g ?_)];by_cases hc:(nm y).1 < 0
 ·rw[if_pos hc,if_pos hc];refine oi (by have:=vJ px hc;lia) ?_;rw[Bi,Bi,aL,aL,e1,e2];show x / y*(((0:Int):Rat) - _)=((0:Int):Rat) - _
  grind
 ·rw[if_neg hc,if_neg hc];refine oi (eY px ()) ?_;rw[aL,aL,e1,e2];grind
inductive xu (K:FG9) (vs:List V) (H:Hp) (Q:VK) (E9:XK):Prop
 | mk (p q:Addr) (xs ys:List Rat):vs=[.ref p,.ref q]->df K H p xs->df K H q ys->ys.9=xs.9->xs.9<=1000->(∀x∈xs,jV x)->(∀y∈ys,jV y)->(∀r H',H r=none->aE H H'->df K H' r (W0 (λx y=>x - y) xs ys)->Q (.ref r) H')->xu K vs H Q E9
def Cq (xs:List Rat) (P:Nat):List Rat:=xs.map λy=>1 / xs.getD P 0*y
def GP (rs:LR9) (k t P:Nat):LR9:=(Yq rs.9).map λi=>if i=k then Cq (rs.getD t []) P else W0 (λx y=>x - y) (rs.getD (jJ k t i) []) ((Cq (rs.getD t []) P).map λy=>(rs.getD (jJ k t i) []).getD P 0*y)
theorem Vj {xs ys:List Rat} (h:xs.9=ys.9):(W0 (λx y=>x - y) xs ys).getD c 0=xs.getD c 0 - ys.getD c 0:=by
 rw[aa,aa,aa,bV];by_cases hc:c < xs.9
 ·rw[ae hc,ae (show c < ys.9 by lia)];rfl
 ·rw[aG (),aG ()];show (0:Rat)=0 - 0
  grind
theorem OX {xs:List Rat}:(xs.map λy=>q*y).getD c 0=q*xs.getD c 0:=by
 rw[aa,aa,aw];cases xs[c]? with
 | none=>show (0:Rat)=q*0;grind
 | some x=>rfl
theorem Vs:(GP rs k t P).9=rs.9:=by unfold GP;rw[af,aN]
theorem Tq (hi:i < rs.9):(GP rs k t P).getD i []=if i=k then Cq (rs.getD t []) P else W0 (λx y=>x - y) (rs.getD (jJ k t i) []) ((Cq (rs.getD t []) P).map λy=>(rs.getD (jJ k t i) []).getD P 0*y):=by
 unfold GP;rw[aa,aw,bI hi];rfl
theorem RN (w:∀xs∈rs,xs.9=n) (hk:k < rs.9) (ht:t < rs.9):∀xs∈GP rs k t P,xs.9=n:=λxs hx=>by
 obtain i|hi|rfl:=au.mp hx;have hi:=dh.mp hi;have wt:=w _ (getD_in (e:=[]) ht)
 split
 ·unfold Cq;rw[af];exact wt
 ·rw[aT,af,w _ (getD_in (pH hk ht hi))];unfold Cq;rw[af,wt]
  lia
theorem Vr (w:∀xs∈rs,xs.9=n) (hk:k < rs.9) (ht:t < rs.9) (hi:i < rs.9) (c:Nat):aS (GP rs k t P) i c=if i=k then 1 / aS rs t P*aS rs t c else aS rs (jJ k t i) c - aS rs (jJ k t i) P*(1 / aS rs t P*aS rs t c):=by
 unfold aS;rw[Tq hi];have wt:=w _ (getD_in (e:=[]) ht);have wi:=w _ (getD_in (e:=[]) (pH hk ht hi))
 split
 ·unfold Cq;rw[OX]
 ·rw[Vj (by rw[wi,af];unfold Cq;rw[af,wt]),OX];unfold Cq;rw[OX]
inductive CI (K:FG9) (vs:List V) (H:Hp) (Q:VK) (E9:XK):Prop
 | mk (p:Addr) (n w a:Nat) (H0:Hp) (rows:LR9):vs=[.ref p,.int n]->bg K H0 H p rows->rows.9<=100->n<=100->(∀xs∈rows,xs.9=n)->TN rows n w a->(∀r R ps H',H r=none->aE H H'->bg K H H' r R->bX rows n R ps->ps.9<=rows.9->Q (.ref r) H')->CI K vs H Q E9
inductive FQ (K:FG9) (vs:List V) (H:Hp) (Q:VK) (E9:XK):Prop
 | mk (p:Addr) (n:Nat) (H0:Hp) (R:LR9) (ps:List Nat):vs=[.ref p]->bg K H0 H p R->R.9<=100->n<=100->(∃rows,bX rows n R ps)->(∀r H',H r=none->aE H H'->H' r=some (.lst (eI ps))->Q (.ref r) H')->FQ K vs H Q E9
theorem IJ {xs ys:List Rat} (h:ys.9=xs.9):W0 (λx y=>x - y) xs ys=(Yq xs.9).map λi=>xs.getD i 0 - ys.getD i 0:=by
 apply pZ;intro i;rw[bV,aw];by_cases hi:i < xs.9
 ·rw[bI hi,ae hi,ae (show i < ys.9 by lia)];simp [aa,ae hi,ae (show i < ys.9 by lia)]
 ·rw[aG (show (Yq xs.9).9<=i by simp;lia),aG (show xs.9<=i by lia)];rfl
theorem Ui {rs:LR9} (hk:k < rs.9) (ht:t < rs.9) (i:Nat):((rs.set k (rs.getD t [])).set t (rs.getD k [])).getD i []=rs.getD (jJ k t i) []:=by
 unfold jJ;rw[nI (by rw[cS];exact ht),nI hk];by_cases h1:i=t
 ·rw[if_pos h1];by_cases h2:i=k
  ·rw[if_pos h2,<- h1,<- h2]
  ·rw[if_neg h2,if_pos h1]
 ·rw[if_neg h1];by_cases h2:i=k
  ·rw[if_pos h2,if_pos h2]
  ·rw[if_neg h2,if_neg h2,if_neg h1]
theorem FC {α:Type} {B A:List α} (h:A.9=B.9):(B.take s++A.drop s)[i]?=if i < s then B[i]? else A[i]?:=by
 by_cases hs:s<=B.9
 ·by_cases hi:i < s
  ·rw[if_pos hi,bM (by rw[bf];lia),eB hi]
  ·rw[if_neg hi,bE (by rw[bf];lia),bf,uW];congr 1
   lia
 ·rw[aF (),List.drop_eq_nil_of_le (),fK];by_cases hi:i < s
  ·rw[if_pos hi]
  ·rw[if_neg hi,aG (),aG ()]
theorem Qf {α:Type} {B A:List α} (h:A.9=B.9) {x:α} (hb:B[s]?=some x):(B.take s++A.drop s).set s x=B.take (s+1)++A.drop (s+1):=by
 apply pZ;intro i;have hs:s < B.9:=(aI.mp hb).1;rw[List.getElem?_set,FC h,FC h];by_cases e:s=i
 ·subst e;rw[if_pos rfl,if_pos (by rw[ao,bf,eV];lia),if_pos (),hb]
 ·rw[if_neg e];by_cases hi:i < s
  ·rw[if_pos hi,if_pos ()]
  ·rw[if_neg hi,if_neg ()]
theorem Kh {α:Type} {B A:List α} (h:A.9=B.9) (e:A[s]?=B[s]?):B.take s++A.drop s=B.take (s+1)++A.drop (s+1):=by
 apply pZ;intro i;rw[FC h,FC h];by_cases q:i=s
 ·subst q;rw[if_neg (),if_pos (),e]
 ·by_cases hi:i < s
  ·rw[if_pos hi,if_pos ()]
  ·rw[if_neg hi,if_neg ()]
theorem XR {xs ys:List Rat} (h:xs.9=ys.9):W0 (λx y=>x - y) xs (ys.map λy=>0*y)=xs:=by
 apply cz (by rw[aT,af];lia);intro i h1 h2;rw[dn,cK];grind
theorem CY {K:FG9} {rows:LR9} (pr:Yt (cC K H0 H) rows vs) (s:aE H H') (n:H q=none) (g:H' q=some (.lst vs)):bg K H0 H' q rows :=
 #[vs,g,ce (λ_ _ z=>z.same s) pr,λz=>by
  obtain _|_|q'|e|_|_|g'|_:=eO pr z;cases e;rw[n] at g';cases g']
theorem EC (h:rs.getD i []=xs) (hx:x∈xs):∃c,aS rs i c=x:=by
 obtain c|hc|rfl:=bN hx;refine #[c,?_];unfold aS;rw[h,aa,ae hc];rfl
theorem Qi:jV 1:=j7 (M:=1) (W:=1) #[1,by simp,()] () bC bC
def V4 (K:FG9) (te:TE) (ts:TO):TE:=λσ H Q=>te σ H λx H1=>ts σ H1 λo H2=>o=some (-1)/\∃a xs,x=.ref a/\br K H2 a xs/\∀p,H2 p=none->Q (.ref p) (upd H2 p (.lst xs.reverse))
theorem LP {e st:Expr} (he:PE X e te) (hst:PO X (some st) ts):PE X (.Subscript e (.Slice none none (some st) p2) pos) (V4 X.K te ts):=by
 intro pins s σ H Q I h;refine Subscript_ (ib (he pins s σ H _ I h) λv s1 #[x,H1,I1,r1,q1]=>?_);refine wpAny_Slice ?_;rw[evalPart_none];refine Yp (Yp (ib (hst pins s1 σ H1 _ I1 q1) λvs s3 #[o,H3,I3,ps,eo,a,xs,ex,hx,q]=>?_));subst eo ex;cases r1;have I4:Inv X pins σ H3 { s3 with heap:=s3.heap.push { cls:=.type "slice",data:=.fields [.none,.none,vs].toArray } }:=I3.kept (t':=s3.toks) λb ob q=>Ym _ q
 obtain its|r|ht|hz:=I4.list hx;have hlen:=r.9;show Yy (model X.prog X.w) X.A (subscriptTail e (.Slice none none (some st) p2) (.ref a) (.ref s3.6)) (EP X pins σ Q) X.xe { s3 with heap:=s3.heap.push { cls:=.type "slice",data:=.fields [.none,.none,vs].toArray } }
 refine tail_any (ops:=[.ref a,.ref s3.6]) ht.isList.typeIs slot_list_getitem.lookup ?_ (by with_unfolding_all rfl);refine wpAny_getItem_list_slice ht.isList (Heap.IsSliceOf.new ..) .none .none ps (by simp) ?_ (by rw[aM];lia);rw[PySem.W.krv_pick];refine #[.ref _,_,I4.laid (t':=s3.toks) (o:=.lst xs.reverse) (λb ob q=>Ym _ q) (ah _) ?_,rfl,q _ (I4.hok.fresh (ah _))];exact #[by rw[Fw];exact hz,_,0,r.reverse,Yw _ rfl]
theorem bX.le (h:bX rows n R ps):ps.9<=n:=by
 obtain _|_|rr:=h;rcases aR n ps.9 with z | z
 ·have inc:∀j,j < ps.9->j<=ps.getD j 0:=by
   intro j
   induction j with
   | zero=>intro _;exact a8 _
   | succ j ih =>
    intro hj;have:=ih ();have:=rr.inc j (j+1) () hj
    lia
  have h1:=inc (ps.9 - 1) ();have h2:=rr.low (ps.9 - 1) ()
  lia
 ·exact z
theorem Tp.zero:Tp M W 0:=#[0,by simp,by simp]
theorem Tp.add (h:Tp M W x) (h':Tp M W' y):Tp M (W+W') (x+y):=by
 obtain z|e|b:=h;obtain z'|e'|b':=h';refine #[z+z',?_,ag (Int.natAbs_add_le _ _) (Nat.add_le_add b b')];rw[kE,<- e,<- e'];grind
theorem Tp.sum {M W:Nat} {f:Nat->Rat}:∀{k:Nat},(∀j,j < k->Tp M W (f j))->Tp M (k*W) (aK k f)
 | 0,_=>Tp.zero
 | k+1,h=>by
  have:=(Tp.sum (k:=k) λj hj=>h j ()).add (h k ());exact this.mono (by rw[dG];exact ah _)
theorem pC {xs:List Rat} (h:∀x∈xs,Tp M W x) (c:Nat):Tp M W (xs.getD c 0):=by
 by_cases hc:c < xs.9
 ·exact h _ (getD_in hc)
 ·rw[aa,aG ()];exact Tp.zero
theorem SH (h:∀xs∈R,∀x∈xs,Tp M W x) (i c:Nat):Tp M W (aS R i c):=by
 unfold aS;by_cases hi:i < R.9
 ·exact pC (h _ (getD_in hi)) c
 ·rw[aa (l:=R),aG ()];exact Tp.zero
theorem Al {α β:Type} {F:α->β->Prop}:∀{l1:List α} {l2:List β},Yt F l1 l2->Yt F l1.reverse l2.reverse
 | _,_,.nil=>.nil
 | _,_,.cons a r=>by rw[xg,xg];exact bT (Al r) (.cons a .nil)
theorem MF {K:FG9} {g:TG} (Pv:Nat->List V->Hp->Prop) (hz:xs.9<=YB) (h0:Pv 0 [] H) (hl:∀i ys H,i<=xs.9->Pv i ys H->br K H l xs)
  (hs:∀i x ys H p,xs[i]?=some x->ys.9<=i->Pv i ys H->H p=none->qN σ₀ g tf te (.ref p) (upd H p (.tup [.int i,x])) (λy H'=>Pv (i+1) (ys++[y]) H') (λH'=>Pv (i+1) ys H'))
  (hd:∀ys H,ys.9<=xs.9->Pv xs.9 ys H->∀p,H p=none->Q (.ref p) (upd H p (.lst ys))):qX (VJ K l) σ₀ g tf te Q H:=by
 refine #[λi m ys H=>m=xs.9 - i/\i<=xs.9/\ys.9<=i/\Pv i ys H,#[xs.9,by simp,a8 _,a8 _,h0],?_];rintro i m ys H ⟨rfl,hi,hy,p⟩;have q1:=hl i ys H hi p;by_cases hlt:i < xs.9
 ·refine .inr #[#[xs,xs[i],q1,by simp [hlt]],(),λy H'=>Pv (i+1) (ys++[y]) H',λH'=>Pv (i+1) ys H',λy H' p'=>#[xs.9 - (i+1),(),rfl,hlt,by rw[ao,aQ];lia,p'],λH' p'=>#[xs.9 - (i+1),(),rfl,hlt,(),p'],λx H' y=>?_];obtain r|x'|rfl|hr|rfl|e1:=y;exact hs i x' ys _ r (e1 xs q1) hy p hr
 ·have e:i=xs.9:=()
  subst e;exact .inl #[#[xs,q1,ah _],(),hd ys H hy p]
theorem C9 (hc:X.calm=true):sT X (.builtin "min") (λxs H Q=>∃(p:Addr) (ns:List Int),xs=[.ref p]/\br X.K H p (ns.map V.int)/\0 < ns.9/\∀M,M∈ns->(∀a,a∈ns->M<=a)->Q (.int M) H):=by
 intro pins s σ H xs us Q I r h;obtain p|ns|rfl|hp|hne|q:=h;obtain u|rfl|ru:=vals1 r;cases ru;obtain its|r2|pl|_:=I.list hp;have hi:=intsAre_of r2;have hl:=pl.isList;obtain xs|e:=hi.allInts.items
 have hns:ns=xs.toList.map (·.1):=by
  rw[<- hi.numsOf,<- nums_intItems,<- e]
 have hsz:0 < xs.7:=by
  have h3:=hne;rw[hns,af,Zo] at h3;exact h3
 rw[e] at hl;refine min_intList (I.ok.hd hc) hl hsz λv h' tk hv hk=>?_
 obtain t|rfl:=intItems_at hv;obtain h1|h2:=argBest_lt (numAt xs) (xs.7 - 1);refine #[.int _,H,I.kept hk,#[_,rfl],q _ ?_ λa ha=>?_]
 ·rw[hns,numAt_eq];exact getD_in (by rw[af,Zo];lia)
 ·rw[hns] at ha;obtain j|hj|rfl:=mem_getD ha;rw[af,Zo] at hj;rw[<- numAt_eq];exact h2 j ()
theorem Bx (K:FG9) (hK:X.K=K):yF X (Zh .NotIn) (rIn K true):=by subst hK;exact Ec
theorem OQ {j:Nat}:XN (.int (j:Int)) (eI ps)=decide (j∈ps):=by
 unfold XN eI;rw[List.any_map,oy,List.any_eq_true,decide_eq_true_iff];constructor
 ·rintro ⟨x,hx,e⟩;have e:((x:Int) == (j:Int))=true:=e;have:(x:Int)=j:=by simpa using e
  have:x=j:=()
  rw[<- this];exact hx
 ·intro h;exact #[j,h,by show ((j:Int) == (j:Int))=true;simp]
theorem L5:(eI ps).all wK=true:=by
 unfold eI;rw[List.all_map];exact rh.mpr λ_ _=>rfl
theorem AE:(eI ps).9=ps.9:=af ..
def KJ (ps:List Nat):List Int:=ps.map λ(j:Nat)=>(j:Int)
theorem L4:eI ps=(KJ ps).map V.int:=by unfold eI KJ;rw[gI];rfl
theorem Ky {i:Nat} (h:(eI ps)[i]?=some v):∃j,ps[i]?=some j/\v=V.int (j:Int):=by
 unfold eI at h;rw[aw] at h;cases e:ps[i]? with
 | none=>rw[e] at h;cases h
 | some x=>rw[e] at h;exact #[x,rfl,(bP h).symm]
def MX (xs:List Rat) (i:Nat):List Nat:=(Yq i).filter λc=>decide (xs.getD c 0≠0)
theorem Kx:MX xs (i+1)=if xs.getD i 0≠0 then MX xs i++[i] else MX xs i:=by
 unfold MX;rw[i8,IH];by_cases h:xs.getD i 0≠0
 ·rw[if_pos h,XC (by simpa using h)];rfl
 ·rw[if_neg h,XD (by simpa using h)];simp
def Iy (ps:List Nat) (i:Nat):List Nat:=(Yq i).filter λc=>decide (c∉ps)
theorem AR:Iy ps (i+1)=if i∉ps then Iy ps i++[i] else Iy ps i:=by
 unfold Iy;rw[i8,IH];by_cases h:i∉ps
 ·rw[if_pos h,XC (by simpa using h)];rfl
 ·rw[if_neg h,XD (by simpa using h)];simp
theorem Vo:(Iy ps i).9<=i:=by
 unfold Iy;exact ag (List.length_filter_le ..) (by rw[aN];exact ah _)
inductive FP (K:FG9) (vs:List V) (H:Hp) (Q:VK) (E9:XK):Prop
 | mk (p:Addr) (xs:List Rat) (j:Nat):vs=[.ref p]->df K H p xs->xs.9<=1000->j < xs.9->xs.getD j 0≠0->(∀c,c < j->xs.getD c 0=0)->(∀H',aE H H'->Q (.int (j:Int)) H')->FP K vs H Q E9
inductive FR (K:FG9) (vs:List V) (H:Hp) (Q:VK) (E9:XK):Prop
 | mk (p:Addr) (n:Nat) (H0:Hp) (R:LR9) (ps:List Nat):vs=[.ref p,.int n]->bg K H0 H p R->R.9<=100->n<=100->(∃rows,bX rows n R ps)->(∀r H',H r=none->aE H H'->H' r=some (.lst (eI (Iy ps n)))->Q (.ref r) H')->FR K vs H Q E9
def MY (R:LR9) (ps:List Nat) (n at_ j:Nat):List Rat:=(Yq n).map λc=>if c=at_ then 1 else aK j λi=>if ps.getD i 0=c then -(aS R i at_) else 0
def WG (R:LR9) (ps:List Nat) (n at_:Nat):List Rat:=MY R ps n at_ ps.9
def jN (R:LR9) (ps:List Nat) (n:Nat):LR9:=(Iy ps n).map (WG R ps n)
theorem xX:(MY R ps n a j).9=n:=by unfold MY;rw[af,aN]
theorem Rg:MY R ps n a 0=jP n a:=by
 unfold MY jP;refine cF λc _=>?_
 by_cases e:c=a
 ·subst e;simp
 ·rw[if_neg e];show (0:Rat)=_
  have:¬(c:Int)=(a:Int):=()
  simp [this]
theorem Ri (RR:bX rows n R ps) (hj:j < ps.9) (ha:a∉ps):(MY R ps n a j).set (ps.getD j 0) (-(aS R j a))=MY R ps n a (j+1):=by
 obtain _|_|rr:=RR;have low:=rr.low j hj;have pm:ps.getD j 0∈ps:=getD_in hj;apply cz (by rw[cS,xX,xX]);intro c h1 h2;rw[xX] at h2;have e1:(MY R ps n a j)[c]'(by rw[xX];exact h2)=if c=a then 1 else aK j λi=>if ps.getD i 0=c then -(aS R i a) else 0:=by simp only[MY,cK,oC]
 have e2:(MY R ps n a (j+1))[c]'(by rw[xX];exact h2)=if c=a then 1 else aK (j+1) λi=>if ps.getD i 0=c then -(aS R i a) else 0:=by simp only[MY,cK,oC]
 rw[M8,e2];have es:aK (j+1) (λi=>if ps.getD i 0=c then -(aS R i a) else 0)=aK j (λi=>if ps.getD i 0=c then -(aS R i a) else 0)+if ps.getD j 0=c then -(aS R j a) else 0:=rfl
 by_cases q:ps.getD j 0=c
 ·rw[if_pos q,if_neg (λz=>ha (by rw[<- z,<- q];exact pm)),es,if_pos q,bZ λi hi=>?_,uK];rw[if_neg];intro z;have:=rr.inc i j hi hj
  lia
 ·rw[if_neg q,e1];by_cases z:c=a
  ·rw[if_pos z,if_pos z]
  ·rw[if_neg z,if_neg z,es,if_neg q,jk]
theorem iO:∀{xs ys:List Rat},xs.9=ys.9->fX xs ys=aK xs.9 λc=>xs.getD c 0*ys.getD c 0:=by
 intro xs ys h
 have key:∀k,k<=xs.9->fX (xs.take k) (ys.take k)=aK k λc=>xs.getD c 0*ys.getD c 0:=by
  intro k
  induction k with
  | zero=>intro _;rfl
  | succ k ih =>
   intro hk;rw[C4 () (),ih ()];rfl
 have:=key xs.9 (ah _);rwa [aF (ah _),aF ()] at this
theorem WE (h0:0 < M) (hW:M<=W) (tp:∀xs∈R,∀x∈xs,Tp M W x) (RR:bX rows n R ps):∀x∈WG R ps n a,Tp M W x:=λx hx=>by
 obtain _|_|rr:=RR;obtain c|hc|rfl:=au.mp hx
 split
 ·exact #[M,by rw[wZ,aJ],by simpa using hW]
 ·by_cases hp:∃j,j < ps.9/\ps.getD j 0=c
  ·obtain j|hj|e:=hp;rw[eH hj λi hi ne=>if_neg λz=>?_,if_pos e]
   ·obtain z|ez|b:=SH tp j a;exact #[-z,by rw[cO,<- ez];grind,by rw[mi];exact b]
   ·rcases pX i j with q | q | q
    ·have:=rr.inc i j q hj;lia
    ·exact ne q
    ·have:=rr.inc j i q hi;lia
  ·rw[bZ λj hj=>if_neg λz=>hp #[j,hj,z]];exact Tp.zero
theorem EB:c∈Iy ps n↔c < n/\c∉ps:=by
 unfold Iy;rw[ja,dh,decide_eq_true_iff]
inductive CC (K:FG9) (vs:List V) (H:Hp) (Q:VK) (E9:XK):Prop
 | mk (p:Addr) (n a:Nat) (H0:Hp) (R:LR9) (ps:List Nat):vs=[.ref p,.int n,.int a]->bg K H0 H p R->R.9<=100->n<=100->(∃rows,bX rows n R ps)->a < n->a∉ps->(∀xs∈R,∀x∈xs,jV x)->(∀r H',H r=none->aE H H'->df K H' r (WG R ps n a)->Q (.ref r) H')->CC K vs H Q E9
theorem zH:jV 0:=j7 (M:=1) (W:=1) Tp.zero () bC bC
theorem LV (h:xs∈jN R ps n):∃a,a < n/\a∉ps/\xs=WG R ps n a:=by
 obtain a|ha|rfl:=au.mp h;obtain h1|h2:=EB.mp ha;exact #[a,h1,h2,rfl]
def WK:Kind Str where
 R:=λ_ _ x i=>x=.str i
 d:=0
 inj:=λ_ h1 h2=>by rw[h1] at h2;cases h2;rfl
 rc:=λ{X pins σ H s x y v u a b A} I rx ry h1 h2 _=>by
  subst h1 h2;obtain t|rfl:=rx;obtain t'|rfl:=ry;have q:=Zu.str_str (A:=A) (s:=s) a t b t';rwa [iM] at q
 ne:=λ{X pins σ H s x y v u a b A} I rx ry h1 h2 _=>by
  subst h1 h2;obtain t|rfl:=rx;obtain t'|rfl:=ry;have q:=Zv.str_str (A:=A) (s:=s) a t b t';rwa [iM] at q
 eq:=λ{X pins σ H s x y v u a b A} I rx ry h1 h2 _=>by
  subst h1 h2;obtain t|rfl:=rx;obtain t'|rfl:=ry;have q:=YF.str_str (A:=A) (s:=s) a t b t';rwa [iM] at q
theorem RS {q:Rat} (h:q.den<=9):q.den∣2520:=by
 have:=q.den_pos;generalize q.den=d at h this;have:d=1\/d=2\/d=3\/d=4\/d=5\/d=6\/d=7\/d=8\/d=9:=()
 rcases this with rfl | rfl | rfl | rfl | rfl | rfl | rfl | rfl | rfl <;> decide
theorem Vv (h:Dr 9 q) (hM:2520∣M):Fr M 9 q:=(Fr.own q h.1).dvd (Iu (RS h.2) hM)
theorem GB:((Yq n).map λ_=>(0:Rat))=Mg n 0:=by rw[List.map_const',aN]
def Ul (K:FG9):Sp:=λvs H Q _=>∃m:Nat,vs=[.int m]/\m<=100/\∀r H',H r=none->aE H H'->df K H' r (Mg m 0)->Q (.ref r) H'
theorem bg.any {K:FG9} (h:bg K H0 H p rows):bg K (λ_=>none) H p rows:=by obtain xs|g|r|n:=h;exact #[xs,g,ce (λ_ _ #[q,a,_,c]=>#[q,a,rfl,c]) r,n]
def XH (rows:LR9) (ws:List Rat) (n j:Nat):List Rat:=(Yq n).map λc=>aK j λi=>ws.getD i 0*aS rows i c
def VX (rows:LR9) (ws:List Rat) (n:Nat):List Rat:=XH rows ws n ws.9
theorem T4:(XH rows ws n j).9=n:=by unfold XH;rw[af,aN]
theorem Ke (hc:c < n):(VX rows ws n).getD c 0=aK ws.9 λi=>ws.getD i 0*aS rows i c:=by
 unfold VX XH;rw[aa,aw,bI hc];rfl
theorem sZ (hc:c < n):(cx rows n)[c]?=some (rows.map λxs=>xs.getD c 0):=by
 unfold cx;rw[aw,bI hc];rfl
theorem OB:(rows.map λxs=>xs.getD c 0).getD i 0=aS rows i c:=by
 unfold aS;rw[aa,aw,aa (l:=rows)];cases rows[i]? with
 | none=>rfl
 | some y=>rfl
theorem Fr.up {M V M' V':Nat} (h:Fr M V x) (hd:M∣M') (hv:V<=V'):Fr M' V' x:=(h.dvd hd).mono hv
theorem RP {M V D B:Nat} (h:ys.9=xs.9) (hx:∀x∈xs,Fr M V x) (hy:∀y∈ys,Fr D B y):Fr (M*D) (xs.9*(V*B)) (fX xs ys):=by
 rw[iO h.symm]
 have key:∀j,j<=xs.9->Fr (M*D) (j*(V*B)) (aK j λc=>xs.getD c 0*ys.getD c 0):=by
  intro j
  induction j with
  | zero=>intro _;exact Fr.zero
  | succ j ih =>
   intro hj;exact ((ih ()).add ((hx _ (getD_in ())).mul (hy _ (getD_in ())))).mono (Lp (dG j (V*B)).symm)
 exact key _ (ah _)
def qW (K:FG9) (P:Addr->Prop) (H:Hp) (xs:List Rat) (v:V):Prop:=∃q,v=.ref q/\P q/\df K H q xs
section
variable {K:FG9}
theorem qW.same (h:qW K P H xs v) (s:aE H H'):qW K P H' xs v:=by obtain q|a|c|d:=h;exact #[q,a,c,d.same s]
theorem qW.updL (h:qW K P H xs v) (hl:H l=some (.lst ys)) (nb:∀q,P q->q≠l):qW K P (upd H l o) xs v:=by obtain q|a|c|d:=h;exact #[q,a,c,d.updL hl (nb q c)]
theorem bg.ofE {rows:LR9} (g:H l=some (.lst us)) (h:Yt (qW K P H) rows us) (h0:∀q,P q->H0 q=none) (hn:∀q,P q->q≠l):bg K H0 H l rows :=
 #[us,g,ce (λ_ _ #[q,a,c,d]=>#[q,a,h0 q c,d]) h,λz=>by
  obtain _|_|q|e|c|_:=eO h z;cases e;exact hn _ c rfl]
end
section
variable {rows rows' R R':LR9}
theorem Cr (hw:∀xs∈rows,xs.9=n) (hW:1<=W) (ent:∀i,i < (rows.map jt).9->∀c,Fr 1 W (fB (rows.map jt) i c)):∀P,P<=n->∃ls ps d,Dk (rows.map jt) n P ls ps d:=by
 intro P
 induction P with
 | zero=>intro _;exact #[_,_,_,Dk.start λzs hz=>by obtain x|hx|rfl:=au.mp hz;rw[td];exact hw x hx]
 | succ P ih =>
  intro hP;obtain ls|ps|d|I:=ih ();by_cases e:∃t,ps.9<=t/\t < ls.9/\fB ls t P≠0
  ·obtain t|h1|h2|h3:=e;exact #[_,_,_,I.step hW ent h1 h2 h3]
  ·exact #[_,_,_,I.skip λi h1 h2=>by
    by_cases z:fB ls i P=0
    ·exact z
    ·exact absurd #[i,h1,h2,z] e]
theorem xK (hw:∀xs∈rows,xs.9=n) (F:Ck rows n w):∃R ps d ls,Yg rows n w R ps d ls:=by
 obtain W|hW|W2|ent:=F.ent;obtain ls|ps|d|I:=Cr hw hW ent n (ah _);obtain R|S:=I.done hw F;exact #[R,ps,d,_,S]
theorem SX (hw:∀xs∈rows,xs.9=n) (F:Ck rows n w) (RR:bX rows n R ps):ps.9<=rows.9/\∃M,0 < M/\M<=2^(min rows.9 n*(w+4))/\∀xs∈R,∀x∈xs,Tp M (2^(min rows.9 n*(w+4))) x:=by
 obtain R2|ps2|d|ls|S:=xK hw F;obtain rfl|rfl:=S.rr.same RR;exact #[S.km,d.natAbs,Int.natAbs_pos.mpr S.d0,S.dsz,S.tp]
theorem Mh {p q:Nat->Nat} (hp:∀i j,i < j->j < k->p i < p j) (hq:∀i j,i < j->j < k->q i < q j) (hs:∀i,i < k->∃j,j < k/\q j=p i):∀i,i < k->p i=q i:=by
 have hqm:∀i j,i<=j->j < k->q i<=q j:=λi j h hj=>by
  rcases aR i j with z | z
  ·exact dH (hq i j z hj)
  ·have:i=j:=()
   rw[this];exact ah _
 have hqi:∀i j,i < k->j < k->q i < q j->i < j:=λi j hi hj h=>by
  rcases aR i j with z | z
  ·exact z
  ·have:=hqm j i z hi
   lia
 have key:∀i,i < k->∀j,j < k->q j=p i->i<=j:=by
  intro i
  induction i with
  | zero=>intro _ j _ _;exact a8 _
  | succ i ih =>
   intro hi j hj e;obtain j'|hj'|e':=hs i ();have h1:=ih () j' hj' e';have h2:=hp i (i+1) () hi;have:=hqi j' j hj' hj ()
   lia
 have key2:∀t i,i+t+1=k->∀j,j < k->q j=p i->j<=i:=by
  intro t
  induction t with
  | zero=>intro i e j hj _;lia
  | succ t ih =>
   intro i e j hj ej;obtain j'|hj'|e':=hs (i+1) ();have h1:=ih (i+1) () j' hj' e';have h2:=hp i (i+1) () ();have:=hqi j j' hj hj' ()
   lia
 intro i hi;obtain j|hj|e:=hs i hi;have h1:=key i hi j hj e;have h2:=key2 (k - 1 - i) i () j hj e;have:j=i:=()
 rw[<- e,this]
theorem LH (h:bX rows n R ps) (h':bX rows' n R' ps') (hl:ps.9=ps'.9) (hs:∀i,i < ps.9->dM ps'.9 (aS R') (aS R i)):R=R'/\ps=ps':=by
 obtain l1|w1|r1:=h;obtain l2|w2|r2:=h'
 have ep:∀i,i < ps.9->ps.getD i 0=ps'.getD i 0:=Mh r1.inc (by rw[hl];exact r2.inc) λi hi=>by
  have u:=r1.unit i hi i hi;rw[if_pos rfl] at u;obtain j|hj|e:=r2.lead_in (hs i hi) (c:=ps.getD i 0) (by rw[u];decide) (λc hc=>r1.lead i hi c hc);exact #[j,(),e]
 have eps:ps=ps':=by
  apply cz hl;intro i a b;have:=ep i a;rw[aa,aa,ae a,ae b] at this;exact this
 refine #[O1 (n:=n) () w1 w2 λi hi c=>?_,eps];rw[l1] at hi;rw[r2.coef (hs i hi) c,<- hl,eH hi λj hj hj'=>?_]
 ·rw[<- ep i hi];have u:=r1.unit i hi i hi;rw[if_pos rfl] at u;rw[u];grind
 ·rw[<- ep j hj];have u:=r1.unit i hi j hj;rw[if_neg (YI hj')] at u;rw[u];grind
end
def oS (mv:LR9) (x:List Rat):List Rat:=mv.map λxs=>fX xs x
def iX (mv pt:LR9):Nat->LR9
 | 0=>[]
 | t+1=>pt++(iX mv pt t).map (oS mv)
section
variable {mv pt R R' S X Y:LR9} {n t m i c:Nat} {ps ps':List Nat} {a:Nat->Nat->Rat}
theorem uf:(oS mv x).9=mv.9:=af ..
theorem CO (lm:mv.9=n) (wm:∀xs∈mv,xs.9=n) (wR:∀xs∈R,xs.9=n) (hi:i < R.9) (c:Nat):aS (R.map (oS mv)) i c=aK n λj=>aS mv c j*aS R i j:=by
 have wi:=wR _ (az hi);have e1:(R.map (oS mv)).getD i []=oS mv R[i]:=by rw[aa,aw,ae hi];rfl
 have e2:R.getD i []=R[i]:=by rw[aa,ae hi];rfl
 by_cases hc:c < n
 ·have wc:=wm _ (az (show c < mv.9 by lia));have e3:mv.getD c []=mv[c]'():=by rw[aa,ae ()];rfl
  have e4:(oS mv R[i]).getD c 0=fX (mv[c]'()) R[i]:=by
   unfold oS;rw[aa,aw,ae ()];rfl
  unfold aS;rw[e1,e2,e3,e4,iO (),wc]
 ·have e3:mv.getD c []=[]:=by rw[aa,aG ()];rfl
  unfold aS
  rw[e1,e3,aa,aG (by rw[uf];lia),bZ λj _=>by
   show ([]:List Rat).getD j 0*_=0
   rw[aa];show (0:Rat)*_=0
   grind]
  rfl
theorem zJ (lm:mv.9=n) (wm:∀xs∈mv,xs.9=n) (wR:∀xs∈R,xs.9=n) (wS:∀xs∈S,xs.9=n) (hi:i < R.9) (h:dM S.9 (aS S) (aS R i)):dM (S.map (oS mv)).9 (aS (S.map (oS mv))) (aS (R.map (oS mv)) i):=by
 obtain w|hw:=h;refine #[w,λc=>?_];rw[CO lm wm wR hi,af]
 have e1:aK n (λj=>aS mv c j*aS R i j)=aK n (λj=>aK S.9 λs=>w s*(aS mv c j*aS S s j)):=aA λj _=>by
  rw[hw j,<- bW];exact aA λs _=>by grind
 rw[e1,fV];exact aA λs hs=>by rw[bW,CO lm wm wS hs]
theorem A5 (h:i < X.9):aS (X++Y) i=aS X i:=by
 funext c;unfold aS;rw[aa (l:=X++Y),bM h,<- aa]
theorem JR:aS (X++Y) (X.9+i)=aS Y i:=by
 funext c;unfold aS;rw[aa (l:=X++Y),bE (),show X.9+i - X.9=i by lia,<- aa]
theorem uD (h1:∀i,i < X.9->dM m a (aS X i)) (h2:∀i,i < Y.9->dM m a (aS Y i)):∀i,i < (X++Y).9->dM m a (aS (X++Y) i):=λi hi=>by
 rw[ao] at hi;by_cases h:i < X.9
 ·rw[A5 h];exact h1 i h
 ·obtain ⟨j,rfl⟩:∃j,i=X.9+j:=#[i - X.9,()];rw[JR];exact h2 j ()
theorem tm (h:i < X.9):dM (X++Y).9 (aS (X++Y)) (aS X i):=by
 have:=dM.row (a:=aS (X++Y)) (m:=(X++Y).9) (i:=i) (by rw[ao];lia);rwa [A5 h] at this
theorem qO (h:dM Y.9 (aS Y) x):dM (X++Y).9 (aS (X++Y)) x:=dM.trans (λs hs=>by
 have:=dM.row (a:=aS (X++Y)) (m:=(X++Y).9) (i:=X.9+s) (by rw[ao];lia);rwa [JR] at this) h
theorem jB (lm:mv.9=n) (wp:∀xs∈pt,xs.9=n):∀t,∀xs∈iX mv pt t,xs.9=n:=by
 intro t
 induction t with
 | zero=>intro xs hx;cases hx
 | succ t ih =>
  intro xs hx;rcases aB.mp hx with hx | hx
  ·exact wp xs hx
  ·obtain y|_|rfl:=au.mp hx;rw[uf,lm]
theorem wD (lm:mv.9=n) (wm:∀xs∈mv,xs.9=n) (wp:∀xs∈pt,xs.9=n) (RR:bX (iX mv pt t) n R ps) (RR':bX (pt++R.map (oS mv)) n R' ps'):bX (iX mv pt (t+1)) n R' ps':=by
 have wk:=jB (mv:=mv) lm wp t;refine #[RR'.1,RR'.2.1,RR'.2.2.other ?_ ?_]
 ·refine uD (λi hi=>tm hi) λi hi=>qO ?_
  rw[af] at hi;exact zJ lm wm RR.2.1 wk hi (RR.2.2.back i (by rw[<- RR.1];exact hi))
 ·refine uD (λi hi=>tm hi) λi hi=>qO ?_
  rw[af] at hi;have:=RR.2.2.span i hi;rw[<- RR.1] at this;exact zJ lm wm wk RR.2.1 hi this
theorem OM (lm:mv.9=n) (wm:∀xs∈mv,xs.9=n) (wp:∀xs∈pt,xs.9=n):∀t i,i < (iX mv pt t).9->dM (iX mv pt (t+1)).9 (aS (iX mv pt (t+1))) (aS (iX mv pt t) i):=by
 intro t
 induction t with
 | zero=>intro i hi;cases hi
 | succ t ih =>
  refine uD (λi hi=>tm hi) λi hi=>qO ?_
  rw[af] at hi;exact zJ lm wm (jB lm wp t) (jB lm wp (t+1)) hi (ih i hi)
theorem AN (lm:mv.9=n) (wm:∀xs∈mv,xs.9=n) (wp:∀xs∈pt,xs.9=n) (RR:bX (iX mv pt t) n R ps) (RR':bX (iX mv pt (t+1)) n R' ps'):∀i,i < ps.9->dM ps'.9 (aS R') (aS R i):=λi hi =>
 dM.trans (λs hs=>RR'.2.2.span s hs) (dM.trans (OM lm wm wp t) (RR.2.2.back i hi))
theorem CV (lm:mv.9=n) (wm:∀xs∈mv,xs.9=n) (wp:∀xs∈pt,xs.9=n) (RR:bX (iX mv pt t) n R ps) (RR':bX (pt++R.map (oS mv)) n R' ps') (hl:ps'.9=ps.9):∀s,bX (iX mv pt (t+s)) n R ps:=by
 have K1:=wD lm wm wp RR RR';obtain e1|e2:=LH RR K1 hl.symm (AN lm wm wp RR K1);subst e1 e2;intro s
 induction s with
 | zero=>exact RR
 | succ s ih=>exact wD lm wm wp ih RR'
theorem GJ (lm:mv.9=n) (wm:∀xs∈mv,xs.9=n) (wp:∀xs∈pt,xs.9=n) (RR:bX (iX mv pt t) n R ps) (RR':bX (iX mv pt (t+1)) n R' ps'):ps.9<=ps'.9:=by
 have h:=AN lm wm wp RR RR'
 have hs:∀i,i < ps.9->∃j,j < ps'.9/\ps'.getD j 0=ps.getD i 0:=λi hi=>by
  have u:=RR.2.2.unit i hi i hi;rw[if_pos rfl] at u;exact RR'.2.2.lead_in (h i hi) (c:=ps.getD i 0) (by rw[u];decide) (λc hc=>RR.2.2.lead i hi c hc)
 rcases aR ps'.9 ps.9 with z | z
 ·exfalso
  have key:∀i,i < ps.9->∀j,j < ps'.9->ps'.getD j 0=ps.getD i 0->i<=j:=by
   intro i
   induction i with
   | zero=>intro _ j _ _;exact a8 _
   | succ i ih =>
    intro hi j hj e;obtain j'|hj'|e':=hs i ();have h1:=ih () j' hj' e';have h2:=RR.2.2.inc i (i+1) () hi;rcases aR j' j with y | y
    ·lia
    ·rcases aR j j' with x | x
     ·have:=RR'.2.2.inc j j' x hj'
      lia
     ·have:j=j':=()
      rw[this] at e
      lia
  obtain j|hj|e:=hs (ps.9 - 1) ();have:=key (ps.9 - 1) () j hj e
  lia
 ·exact z
theorem Et {M V c:Nat} (lm:mv.9=n) (wm:∀xs∈mv,xs.9=n) (wp:∀xs∈pt,xs.9=n) (hc:(n+1)*V<=2^c) (fm:GF M V mv) (fp:GF M V pt):∀t,∀xs∈iX mv pt t,∀x∈xs,Fr (M^t) (2^(c*t)) x:=by
 intro t
 induction t with
 | zero=>intro xs hx;cases hx
 | succ t ih =>
  intro xs hx x hx';have hV:V<=2^c:=ag (cG _ ()) hc;rcases aB.mp hx with hx | hx
  ·refine Fr.up (fp xs hx x hx') (by rw[c7];exact iE _ _) (ag hV (ar () (eU _ ())))
  ·obtain y|hy|rfl:=au.mp hx;unfold oS at hx';obtain r|hr|rfl:=au.mp hx';have wr:=wm r hr;have wy:=jB (mv:=mv) lm wp t y hy;have f:=RP () (fm r hr) (ih y hy);rw[c7,bu (M^t)];refine f.mono ?_;rw[o8,Nat.mul_one,bG,bu (2^(c*t)),<- cD,wr];exact ax _ (ag (ax _ ()) hc)
def mM (mv pt:LR9) (a c:Nat):Prop:=∃M V:Nat,0 < M/\M<=2^a/\(mv.9+1)*V<=2^c/\GF M V mv/\GF M V pt/\a<=400/\c<=40/\mv.9*(mv.9*(a+c)+4)<=1740/\mv.9*(mv.9*(mv.9*(a+c)+4)+a+c+4)<=8900000
theorem mM.swf {a c:Nat} (F:mM mv pt a c) (D:mv.9<=8) (wm:∀xs∈mv,xs.9=mv.9) (wp:∀xs∈pt,xs.9=mv.9) (ht:t<=mv.9):Ck (iX mv pt t) mv.9 (mv.9*(a+c)):=by
 obtain M|V|M0|Ma|hV|fm|fp|a3|c3|e14|e89:=F;have f:=Et rfl wm wp hV fm fp t;have h1:mv.9*(a+c)<=8*440:=aP D ();have hM:M^t<=2^(a*mv.9):=ag (nM Ma _) (by rw[<- w5];exact ar () (cY _ ht));have h2:a*mv.9<=mv.9*(a+c):=by rw[bu];exact cY _ ()
 have h3:mv.9=0\/mv.9*(a+c)<=1740:=by
  rcases eJ mv.9 with z | z
  ·exact .inl z
  ·right
   have:=cG (mv.9*(a+c)+4) z
   lia
 have h4:mv.9*(a+c)<=1740:=by
  rcases h3 with z | z
  ·rw[z];lia
  ·exact z
 refine #[M^t,2^(mv.9*(a+c)),jW M0,ag hM (ar () ()),bC,ah _,λxs hx x hx'=>Tp.of (f xs hx x hx') ?_,(),(),?_]
 ·refine ag (aP (ar () (cY c ht)) hM) ?_;rw[<- bG];refine ar () ?_;rw[bu c,bu a,<- o8,ij c];exact ah _
 ·exact ag (ax _ (rf _ _)) ()
theorem mM.tp {a c:Nat} (F:mM mv pt a c) (D:mv.9<=8) (wm:∀xs∈mv,xs.9=mv.9) (wp:∀xs∈pt,xs.9=mv.9) (ht:t<=mv.9) (RR:bX (iX mv pt t) mv.9 R ps):∃M,0 < M/\M<=2^(mv.9*(mv.9*(a+c)+4))/\∀xs∈R,∀x∈xs,Tp M (2^(mv.9*(mv.9*(a+c)+4))) x:=by
 obtain _|M|h0|h1|h2:=SX (jB rfl wp t) (F.swf D wm wp ht) RR;have le:2^(min (iX mv pt t).9 mv.9*(mv.9*(a+c)+4))<=2^(mv.9*(mv.9*(a+c)+4)):=ar () (ax _ (rf _ _));exact #[M,h0,ag h1 le,λxs hx x hx'=>(h2 xs hx x hx').mono le]
theorem mM.step {a c:Nat} (F:mM mv pt a c) (D:mv.9<=8) (wm:∀xs∈mv,xs.9=mv.9) (wp:∀xs∈pt,xs.9=mv.9) (ht:t<=mv.9) (RR:bX (iX mv pt t) mv.9 R ps):Ck (pt++R.map (oS mv)) mv.9 (mv.9*(mv.9*(a+c)+4)+a+c):=by
 obtain N|N0|N1|tN:=F.tp D wm wp ht RR;obtain M|V|M0|Ma|hV|fm|fp|a3|c3|e14|e89:=F;generalize mv.9*(mv.9*(a+c)+4)=e at *
 have V1:V<=2^c:=ag (cG _ ()) hV;have eW:(2:Nat)^(e+a+c)=2^c*(2^a*2^e):=by rw[<- bG,<- bG];congr 1;lia
 refine #[N*M,2^(e+a+c),b8 N0 M0,?_,bC,ah _,λxs hx x hx'=>?_,(),(),?_]
 ·exact ag (aP N1 Ma) (by rw[<- bG];exact ar () ())
 ·rcases aB.mp hx with hx | hx
  ·refine Tp.of ((fp xs hx x hx').scaleL N) ?_;rw[eW,bu N];exact aP V1 (aP Ma N1)
  ·obtain y|hy|rfl:=au.mp hx;unfold oS at hx';obtain r|hr|rfl:=au.mp hx';have wr:=wm r hr;have wy:=RR.2.1 y hy;rw[iO (),wr];have t1:∀j,Tp M (V*M) (r.getD j 0):=λj=>pC (λx hx=>Tp.of (fm r hr x hx) (ah _)) j
   have t2:∀j,Tp N (2^e) (y.getD j 0):=λj=>pC (tN y hy) j
   have:=Tp.sum (k:=mv.9) (M:=N*M) (W:=V*M*2^e) (f:=λj=>r.getD j 0*y.getD j 0) λj _=>by
    have:=(t1 j).mul (t2 j);rwa [bu M N] at this
   refine this.mono ?_;rw[eW,cD V,<- cD mv.9];exact aP (ag (ax _ ()) hV) (ax _ Ma)
 ·exact ag (ax _ (rf _ _)) (by rw[show e+a+c+4=e+a+c+4 from rfl];exact e89)
theorem mM.fit {a c:Nat} (F:mM mv pt a c) (D:mv.9<=8) (wm:∀xs∈mv,xs.9=mv.9) (wp:∀xs∈pt,xs.9=mv.9) (ht:t<=mv.9) (RR:bX (iX mv pt t) mv.9 R ps):∀xs∈mv,∀r∈R,yr xs r:=λxs hx r hr=>by
 obtain N|N0|N1|tN:=F.tp D wm wp ht RR;obtain M|V|M0|Ma|hV|fm|fp|a3|c3|e14|e89:=F;have V1:V<=2^c:=ag (cG _ ()) hV;have p14:=ar (show 0 < 2 by decide) e14;exact #[400,40,1740,1740,#[M,V,M0,ag Ma (ar () a3),ag V1 (ar () c3),fm xs hx],#[N,2^1740,N0,ag N1 p14,ah _,λx hx=>((tN r hr x hx).mono p14).fr N0],()]
end
inductive CD (K:FG9) (C:Addr) (vs:List V) (H:Hp) (Q:VK) (E9:XK):Prop
 | mk (x p:Addr) (H0 H1:Hp) (mv pt lk R:LR9):vs=[.ref x,.ref p]->oo K H0 H C x mv pt lk->js mv pt lk->bg K H1 H p R->R.9<=100->(∀r∈R,r.9=mv.9)->(∀xs∈mv,∀r∈R,yr xs r)->(∀r H',H r=none->aE H H'->bg K H H' r (R.map (oS mv))->Q (.ref r) H')->CD K C vs H Q E9
structure Bg (mv pt:LR9) (Rs:List (LR9)):Prop where
 ne:Rs≠[]
 rr:∀t R,Rs[t]?=some R->∃ps,bX (iX mv pt t) mv.9 R ps
 up:∀t R R',Rs[t]?=some R->Rs[t+1]?=some R'->R.9 < R'.9
def GrL (K:FG9) (H0 H:Hp) (l:Addr) (Rs:List (LR9)):Prop:=∃us,H l=some (.lst us)/\Yt (λR v=>∃q,v=V.ref q/\H0 q=none/\q≠l/\bg K H0 H q R) Rs us
inductive CJ (K:FG9) (C:Addr) (vs:List V) (H:Hp) (Q:VK) (E9:XK):Prop
 | mk (x:Addr) (a c st:Nat) (H0:Hp) (mv pt lk:LR9):vs=[.ref x,.int st]->st<=1000->oo K H0 H C x mv pt lk->js mv pt lk->mM mv pt a c->(∀r Rs H',H r=none->aE H H'->GrL K H H' r Rs->Bg mv pt Rs->Rs.9<=st+1->(∀R,Rs.getLast?=some R->∀s,(Rs.9 - 1=st/\s=st\/Rs.9 - 1 < st/\Rs.9 - 1<=s)->∃ps,bX (iX mv pt s) mv.9 R ps)->Q (.ref r) H')->CJ K C vs H Q E9
inductive Cy (K:FG9) (C:Addr) (vs:List V) (H:Hp) (Q:VK) (E9:XK):Prop
 | mk (x:Addr) (a c st:Nat) (H0:Hp) (mv pt lk:LR9):vs=[.ref x,.int st]->st<=1000->oo K H0 H C x mv pt lk->js mv pt lk->mM mv pt a c->(∀r R ps H',H r=none->aE H H'->bg K H H' r R->bX (iX mv pt st) mv.9 R ps->Q (.ref r) H')->Cy K C vs H Q E9
section
variable {K:FG9}
theorem bg.weakN (h:bg K H0 H p rows) (hn:∀q,H0 q=none->H1 q=none):bg K H1 H p rows:=by obtain xs|g|r|n:=h;exact #[xs,g,ce (λ_ _ #[q,a,b,c]=>#[q,a,hn q b,c]) r,n]
theorem bg.updL (h:bg K H0 H p rows) (hl:H l=some (.lst ys)) (nl:H0 l≠none) (pl:p≠l):bg K H0 (upd H l o) p rows:=by obtain xs|g|r|n:=h;exact #[xs,by rw[aY pl];exact g,ce (λ_ _ z=>cC.updL z hl nl) r,n]
theorem IY:bX [] n [] []:=#[rfl,(λ_ h=>by cases h),(λ_ _ _ h=>absurd h (cP _)),(λ_ h=>absurd h (cP _)),(λ_ h=>absurd h (cP _)),(λ_ h=>absurd h (cP _)),(λ_ h=>absurd h (cP _)),(λ_ h=>absurd h (cP _))]
theorem Bg.len (h:Bg mv pt Rs):∀(t:Nat) (R:LR9),Rs[t]?=some R->t<=R.9:=by
 intro t
 induction t with
 | zero=>intro R _;exact a8 _
 | succ t ih =>
  intro R e;have ht:=(aI.mp e).1;have e0:=ae (show t < Rs.9 by lia);have:=ih _ e0;have:=h.up t _ R e0 e
  lia
theorem Bg.snoc (h:Bg mv pt (Rs++[R])) (h1:bX (iX mv pt (Rs.9+1)) mv.9 R' ps') (h2:R.9 < R'.9):Bg mv pt ((Rs++[R])++[R']):=by
 have l1:(Rs++[R]).9=Rs.9+1:=by rw[ao];rfl
 refine #[by simp,λt S e=>?_,λt S S' e e'=>?_]
 ·rcases aR t (Rs.9+1) with z | z
  ·rw[bM ()] at e;exact h.rr t S e
  ·have ht:=(aI.mp e).1;rw[ao,aQ] at ht;have:t=Rs.9+1:=()
   subst this;rw[bE (),l1,jo] at e;cases e;exact #[ps',h1]
 ·have ht:=(aI.mp e').1;rw[ao,aQ] at ht;rw[bM ()] at e;rcases aR (t+1) (Rs.9+1) with z | z
  ·rw[bM ()] at e';exact h.up t S S' e e'
  ·have:t=Rs.9:=()
   subst this;rw[bE (),l1,jo] at e';cases e';rw[bE (ah _),jo] at e;cases e;exact h2
end
theorem CP {α:Type} {v:α}:∀{l:List α},l.Nodup->v∉l->∀j,(l.set j v).Nodup
 | [],_,_,_=>iH
 | a :: l,h,hn,0=>by
  rw[cQ] at h;rw[List.set_cons_zero,cQ];exact #[λz=>hn (.tail _ z),h.2]
 | a :: l,h,hn,j+1=>by
  rw[cQ] at h;rw[List.set_cons_succ,cQ];refine #[λz=>?_,CP h.2 (λz=>hn (.tail _ z)) j];rcases cZ z with z | z
  ·exact h.1 z
  ·exact hn (by rw[z];exact .head _)
structure lW (K:FG9) (A:Addr->Prop) (H:Hp) (n:Nat) (C:V->Rat->Prop) (m p l b q0:Addr) (us ws vs:List V):Prop where
 bag:kH H b
 inn:Inner H b q0
 gm:H m=some (.lst us)
 gp:H p=some (.lst ws)
 gl:H l=some (.lst vs)
 lm:us.9=n
 row:∀x∈us++vs++ws,iP K A H n (C x) x
 nd:(us++vs++ws).Nodup
section
variable {K:FG9}
theorem lW.same (h:lW K A H n C m p l b q0 us ws vs) (e:aE H H'):lW K A H' n C m p l b q0 us ws vs :=
 #[h.bag.same e,(e.upto (p:=b)).2 _ h.inn,e _ _ h.gm,e _ _ h.gp,e _ _ h.gl,h.lm,λx hx=>(h.row x hx).same e,h.nd]
theorem lW.upto (h:lW K A H n C m p l b q0 us ws vs) (M:J9 A m p l b q0) (u:dD b H H') (B':kH H' b):lW K A H' n C m p l b q0 us ws vs :=
 #[B',u.2 _ h.inn,u.other M.mb h.gm,u.other M.pb h.gp,u.other M.lb h.gl,h.lm,λx hx=>(h.row x hx).upto u h.bag M.ab,h.nd]
theorem lW.weak (h:lW K A H n C m p l b q0 us ws vs) (w:∀x∈us++vs++ws,∀y,C x y->C' x y):lW K A H n C' m p l b q0 us ws vs :=
 #[h.bag,h.inn,h.gm,h.gp,h.gl,h.lm,λx hx=>(h.row x hx).weak (λ_ z=>z) (w x hx),h.nd]
theorem lW.put (h:lW K A H n C m p l b q0 us ws vs) (M:J9 A m p l b q0) (aq:A q) (hq:H q=some (.lst zs)) (hv:bY K H y v) (hc:C (.ref q) y) (j:Nat):lW K A (upd H q (.lst (zs.set j v))) n C m p l b q0 us ws vs:=by
 have ne:∀{z},¬A z->z≠q:=λh e=>h (by rw[e];exact aq)
 refine #[h.bag.upd h.inn (ne M.ab).symm (ne M.aq).symm,h.inn.upd (ne M.ab).symm,by rw[aY (ne M.am)];exact h.gm,by rw[aY (ne M.ap)];exact h.gp,by rw[aY (ne M.al)];exact h.gl,h.lm,λx hx=>?_,h.nd];by_cases e:x=.ref q
 ·subst e;exact (h.row _ hx).put hq hv hc j
 ·obtain q1|qs|rfl|a1|r1|l1|c1:=h.row x hx;exact #[q1,qs,rfl,a1,r1.updL hq (λz=>e (by rw[z])),l1,c1]
theorem lW.set (h:lW K A H n C m p l b q0 us ws vs) (M:J9 A m p l b q0) (hx:iP K A H n (C v) v) (hn:v∉us++vs++ws) (j:Nat):lW K A (upd H m (.lst (us.set j v))) n C m p l b q0 (us.set j v) ws vs:=by
 have mem:∀x∈us.set j v++vs++ws,x=v\/x∈us++vs++ws:=λx hx=>by
  rcases aB.mp hx with hx | hx
  ·rcases aB.mp hx with hx | hx
   ·rcases cZ hx with hx | hx
    ·exact .inr (by simp [hx])
    ·exact .inl hx
   ·exact .inr (by simp [hx])
  ·exact .inr (by simp [hx])
 refine #[h.bag.upd h.inn M.mb M.mq,h.inn.upd M.mb,aD,by rw[aY M.mp.symm];exact h.gp,by rw[aY M.ml.symm];exact h.gl,by rw[cS];exact h.lm,λx hx'=>?_,?_]
 ·rcases mem x hx' with rfl | hx'
  ·exact hx.other h.gm M.am
  ·exact (h.row x hx').other h.gm M.am
 ·have nd:=h.nd;rw[cy] at nd hn ⊢;obtain n1|n2|n3:=d5.mp nd;refine d5.mpr #[?_,n2,λa ha c hc=>?_]
  ·rcases aR j us.9 with z | z
   ·exact CP n1 (λz'=>hn (aB.mpr (.inl z'))) j
   ·rw[List.set_eq_of_length_le z];exact n1
  ·rcases cZ ha with ha | rfl
   ·exact n3 a ha c hc
   ·exact λz=>hn (aB.mpr (.inr (by rw[z];exact hc)))
end
theorem KY (h0:0 < M) (h1:M<=2^800) (hW:W<=2^140) (h:Fr M W x):jV x :=
 Ez h0 (ag h1 (ar () ())) (ag hW (ar () ())) h
theorem QY {t V c:Nat} (ht:t<=3) (hV:V<=2^20) (hc:c<=9):c*(9^t*V)<=2^140:=by
 have h1:9^t<=9^3:=ar () ht;have h2:c*(9^t*V)<=9*(9^3*2^20):=aP hc (aP h1 hV);exact ag h2 (ag (show 9*(9^3*2^20)<=2^40 by decide) (ar () ()))
theorem AD {α:Type} {l:List α} {v:α} (h:l.Nodup) (hn:v∉l):(l++[v]).Nodup:=d5.mpr #[h,by simp,λa ha c hc=>by rw[aU.mp hc];exact λz=>hn (by rw[<- z];exact ha)]
section
variable {g:TG}
theorem C6 (G:Hp->β->V->Prop) (C:β->Prop) (hB:kH H b) (hl:n<=1000) (hG:∀{H' H'' c x},G H' c x->dD b H' H''->kH H' b->G H'' c x)
  (hA:∀{H' c x},G H' c x->∃q,x=V.ref q/\H' q≠none)
  (hs:∀(i:Nat) H' NY NN,i < n->dD b H H'->kH H' b->(∀y c H2,dD b H' H2->kH H2 b->C c->G H2 c y->(∃q,y=V.ref q/\H' q=none)->NY y H2)->qN σ₀ g tf te (.int i) H' NY NN)
  (hd:∀ys cs H' p,H p=none->dD b H H'->kH H' b->H' p=some (.lst ys)->cs.9=n->ys.Nodup->(∀c∈cs,C c)->Yt (G H') cs ys->(∃H2,H2 p=none/\Yt (G H2) cs ys)->Q (.ref p) H'):qX (Io 0 n) σ₀ g tf te Q H:=by
 refine oY (λi ys H'=>dD b H H'/\kH H' b/\∃cs,cs.9=i/\ys.Nodup/\(∀c∈cs,C c)/\Yt (G H') cs ys) ko #[(aE.refl _).upto,hB,[],rfl,iH,(λ_ z=>nomatch z),.nil] ?_ ?_
 ·rintro i ys H' hi hlen ⟨u,B,cs,lc,nd,hc,pr⟩;rw[uL];refine hs i H' _ _ hi u B λy c H2 u2 B2 cc gy #[q,ey,nq]=>#[u.trans u2,B2,cs++[c],by simp [lc],AD nd (λz=>by obtain c'|_|gc:=eO pr z;obtain q'|e'|h':=hA gc;rw[ey] at e';cases e';exact h' nq),Ld hc cc,bT (ce (λ_ _ z=>hG z u2 B) pr) (.cons gy .nil)]
 ·rintro ys H' hy ⟨u,B,cs,lc,nd,hc,pr⟩ p hp;have s:aE H' (upd H' p (.lst ys)):=aE.new hp;exact hd ys cs _ p (u.none B hp) (u.same s) (B.same s) aD lc nd hc (ce (λ_ _ z=>hG z s.upto B) pr) #[H',hp,pr]
end
structure J7 (K:FG9) (A:Addr->Prop) (n:Nat) (C:Rat->Prop) (m p l b q0:Addr) (us ws vs:List V) (H0 H:Hp):Prop where
 mix:lW K A H n (λ_=>C) m p l b q0 us ws vs
 gp:H p=some (.lst ws)
 gl:H l=some (.lst vs)
 kp:jL A b m H0 H
section
variable {K:FG9}
theorem J7.same (h:J7 K A n C m p l b q0 us ws vs H0 H) (e:aE H H'):J7 K A n C m p l b q0 us ws vs H0 H':=#[h.mix.same e,e _ _ h.gp,e _ _ h.gl,h.kp.same e]
theorem J7.upto (h:J7 K A n C m p l b q0 us ws vs H0 H) (M:J9 A m p l b q0) (u:dD b H H') (B:kH H' b):J7 K A n C m p l b q0 us ws vs H0 H':=#[h.mix.upto M u B,u.other M.pb h.gp,u.other M.lb h.gl,h.kp.upto u]
theorem J7.row (h:J7 K A n C m p l b q0 us ws vs H0 H) (hx:x∈ws\/x∈vs):iP K A H n C x:=h.mix.row x (by rcases hx with hx | hx <;> simp [hx])
theorem J7.put (h:J7 K A n C m p l b q0 us ws vs H0 H) (M:J9 A m p l b q0) (hx:V.ref q∈ws\/V.ref q∈vs) (hv:bY K H y v) (hc:C y) (j:Nat):∃zs,H q=some (.lst zs)/\zs.9=n/\J7 K A n C m p l b q0 us ws vs H0 (upd H q (.lst (zs.set j v))):=by
 obtain q'|zs|qs|e|a|g|lz|_:=(h.row hx).at;cases e;have ne:∀{z},¬A z->z≠q:=λh e=>h (by rw[e];exact a)
 exact #[zs,g,lz,h.mix.put M a g hv hc j,by rw[aY (ne M.ap)];exact h.gp,by rw[aY (ne M.al)];exact h.gl,h.kp.upd (.inl a)]
end
inductive FO (K:FG9) (vs:List V) (H:Hp) (Q:VK) (E9:XK):Prop
 | mk (b:Addr) (n w:Nat) (way first:Int):vs=[.ref b,.int n,.int way,.int first,.int w]->kH H b->n<=8->1<=w->w<=1000000->(∀r us H',H r=none->H' r=some (.lst us)->us.9=n->us.Nodup->(∀x∈us,iP K (λq=>H q=none/\q≠r) H' n (Dr (max w 6)) x)->kH H' b->dD b H H'->Q (.ref r) H')->FO K vs H Q E9
theorem ON (lm:mv.9=n) (wm:∀xs∈mv,xs.9=n) (wp:∀xs∈pt,xs.9=n) (RR:bX (iX mv pt t) n R ps) (RR':bX (iX mv pt (t+1)) n R' ps'):bX (pt++R.map (oS mv)) n R' ps':=by
 have wk:=jB (mv:=mv) lm wp t;refine #[RR'.1,RR'.2.1,RR'.2.2.other ?_ ?_]
 ·refine uD (λi hi=>tm hi) λi hi=>qO ?_
  rw[af] at hi;have:=RR.2.2.span i hi;rw[<- RR.1] at this;exact zJ lm wm wk RR.2.1 hi this
 ·refine uD (λi hi=>tm hi) λi hi=>qO ?_
  rw[af] at hi;exact zJ lm wm RR.2.1 wk hi (RR.2.2.back i (by rw[<- RR.1];exact hi))
theorem S4 {F G:List kC->Rat} {r:Nat} {σ:Nat->Nat} (hF:∀ws:List kC,F (ws.map λv i=>v (σ i))=G ws):∀(post pre:List kC) (s:Rat),Bl F r (pre.map λv i=>v (σ i)) (post.map λv i=>v (σ i)) s=Bl G (σ r) pre post s
 | [],_,_=>rfl
 | v :: post,pre,s=>by
  have i1:=hF (pre++post);have i2:=S4 (r:=r) hF post (pre++[v]) (-s);simp only[cR,iB,List.map_nil,Bl] at i1 i2 ⊢;rw[i1,i2]
theorem Tr {σ:Nat->Nat}:∀(rs:List Nat) (vs:List kC),sV rs (vs.map λv i=>v (σ i))=sV (rs.map σ) vs
 | [],[]=>rfl
 | [],_ :: _=>rfl
 | r :: rs,vs=>S4 (λws=>Tr rs ws) vs [] 1
theorem NW {σ:Nat->Nat}:∀{k:Nat},(xM (λi=>i) k).map σ=xM σ k
 | 0=>rfl
 | k+1=>by show σ k :: _=_;rw[NW];rfl
theorem cw_map {τ:kC->kC} {v:Nat->kC}:∀{k:Nat},(sH v k).map τ=sH (λj=>τ (v j)) k
 | 0=>rfl
 | k+1=>by show τ (v k) :: _=_;rw[cw_map];rfl
theorem Vt:sV (xM σ k) (sH v k)=sV (xM (λi=>i) k) (sH (λj i=>v j (σ i)) k):=by
 rw[<- NW,<- Tr,cw_map]
structure Vb (r n:Nat) (Pm Y Z:Nat->Nat->Rat) (d:Rat) (W:Nat):Prop where
 d0:d≠0
 det:d=sV (xM (λi=>i) r) (sH (λj i=>Pm i j) r)
 eq:∀i,i < r->∀c,c < n->Z i c=aK r λs=>Pm i s*Y s c
 pf:∀i,i < r->∀s,s < r->Fr 1 W (Pm i s)
 zf:∀i,i < r->∀c,c < n->Fr 1 W (Z i c)
section
variable {rows R R1 R2 mv pt:LR9} {n r M V1 W W' Wv Wb k P:Nat} {Pm Y Z B E a:Nat->Nat->Rat} {d:Rat} {ps ps1 ps2:List Nat} {rs:LR9}
theorem T8 (h0:0 < M) (h3:∀xs∈rows,∀x∈xs,Tp M W x):∀i,i < rows.9->∀c,Fr 1 W (fB (rows.map jt) i c):=λi hi c=>by
 have hx:=getD_in (e:=[]) hi;rw[Cm hi];unfold aS;generalize rows.getD i []=xs at hx ⊢;by_cases hc:c < xs.9
 ·have t:=h3 xs hx _ (getD_in (e:=0) hc);obtain s|e|b:=uY t h0 (qV (xs:=xs)) (oZ (au.mpr #[_,getD_in (e:=0) hc,rfl])) (zz h0 (h3 xs hx));rw[de,e];exact Fr.int b
 ·rw[aa,aG ()];show Fr 1 W (_*0)
  rw[du];exact Fr.zero
theorem Vb.of (hw:∀xs∈rows,xs.9=n) (hW:1<=W) (h0:0 < M) (h3:∀xs∈rows,∀x∈xs,Tp M W x) (RR:bX rows n R ps):∃Pm Z d,Vb ps.9 n Pm (aS R) Z d W:=by
 have ent:=T8 h0 h3;obtain ls|ps2|d|I:=Cr hw hW (by rw[af];exact ent) n (ah _);obtain _|_|⟨pm,B⟩|E:=I;rw[af] at B E
 have RF:Fu rows.9 n (aS rows) ps2.9 (λj=>ps2.getD j 0) (λi c=>fB ls i c / d):=Fu.other (E.done λi hi c hc=>ye (n:=n) (λzs hz=>by
  obtain xs|hx|rfl:=au.mp hz;rw[td];exact hw xs hx) hc) Dq Ds
 obtain e1|e2|e3:=RF.uniq RR.2.2 (λ_ hi=>dM.row hi) (λ_ hi=>dM.row hi);refine #[λi s=>fB (rows.map jt) (pm i) (ps2.getD s 0),λi c=>fB (rows.map jt) (pm i) c,d,?_];rw[<- e1];have km:=B.km;refine #[B.d0,?_,λi hi c hc=>?_,λi hi s hs=>ent _ (B.rng i ()) _,λi hi c hc=>ent _ (B.rng i ()) _]
 ·rw[B.det];exact Vt
 ·have:=B.coef (i:=i) (c:=c) ();rw[if_pos hi,jk] at this;rw[this];exact aA λs hs=>by rw[<- e3 s hs c];exact de _ _
theorem uC {f:Nat->Rat} {a:Nat}:∀{b:Nat},aK (a+b) f=aK a f+aK b λt=>f (a+t)
 | 0=>by show aK a f=aK a f+0;grind
 | b+1=>by
  show aK (a+b) f+f (a+b)=_+(aK b _+f (a+b))
  rw[uC];grind
end
theorem Ks (RR:bX rows n R ps):bX R n R ps:=#[RR.1,RR.2.1,RR.2.2.other (λi hi=>by rw[RR.1];exact RR.2.2.span i hi) (λi hi=>RR.2.2.back i (by rw[<- RR.1];exact hi))]
theorem D4 (RR:bX rows n R ps) (e:ps.9=n) (hi:i < n) (c:Nat):aS R i c=if c=i then 1 else 0:=by
 have lo:∀j,j < n->j<=ps.getD j 0:=by
  intro j
  induction j with
  | zero=>intro _;exact a8 _
  | succ j ih =>
   intro hj;have:=ih ();have:=RR.2.2.inc j (j+1) () ()
   lia
 have hi2:∀s j,j+s+1=n->ps.getD j 0<=j:=by
  intro s
  induction s with
  | zero =>
   intro j hj;have:=RR.2.2.low j ()
   lia
  | succ s ih =>
   intro j hj;have:=ih (j+1) ();have:=RR.2.2.inc j (j+1) () ()
   lia
 have ep:∀j,j < n->ps.getD j 0=j:=λj hj=>ou (hi2 (n - 1 - j) j ()) (lo j hj)
 by_cases hc:c < n
 ·have:=RR.2.2.unit i () c ();rw[ep c hc] at this;rw[this];by_cases z:i=c
  ·rw[if_pos z,if_pos z.symm]
  ·rw[if_neg z,if_neg (YI z)]
 ·rw[Jt RR.2.1 (),if_neg ()]
theorem KZ (h:∀i,i < rows.9->∀c,Tp M W (aS rows i c)):∀xs∈rows,∀x∈xs,Tp M W x:=λxs hx x hx'=>by
 obtain i|hi|rfl:=bN hx;obtain c|hc|rfl:=bN hx';have:=h i hi c;unfold aS at this;rw[aa (l:=rows),ae hi] at this;have e:(some rows[i]).getD []=rows[i]:=rfl;rw[e,aa,ae hc] at this;exact this
theorem mM.vb (F:mM mv pt a c) (wm:∀xs∈mv,xs.9=mv.9) (wp:∀xs∈pt,xs.9=mv.9) (ht:t<=ps.9) (RR:bX (iX mv pt t) mv.9 R ps):∃Pm Z d w,Vb ps.9 mv.9 Pm (aS R) Z d (2^w)/\(ps.9 < mv.9/\w=(mv.9 - 1)*(a+c)\/ps.9=mv.9/\w=0):=by
 have le:=RR.le;rcases aR ps.9 mv.9 with z | z
 ·obtain M|V|M0|Ma|hV|fm|fp|_:=F;have f:=Et rfl wm wp hV fm fp t
  obtain Pm|Z|d|vb:=Vb.of (jB rfl wp t) (bC (n:=(mv.9 - 1)*(a+c))) (jW M0 (n:=t)) (λxs hx x hx'=>Tp.of (f xs hx x hx') (by
   refine ag (cY _ (nM Ma t)) ?_;rw[<- w5,<- bG];refine ar () ?_;rw[<- PU,bu,ij c];exact ax _ ())) RR
  exact #[Pm,Z,d,_,vb,.inl #[z,rfl]]
 ·have e:ps.9=mv.9:=()
  obtain Pm|Z|d|vb:=Vb.of (W:=2^0) (M:=1) RR.2.1 () () (KZ λi hi c=>by
   rw[RR.1,e] at hi;rw[D4 RR e hi c]
   split
   ·exact #[1,by rw[wZ];rfl,()]
   ·exact #[0,by rw[cA];rfl,()]) (Ks RR)
  exact #[Pm,Z,d,0,vb,.inr #[e,rfl]]
def Gd (mv pt:LR9) (i:Nat) (R:LR9) (ps:List Nat):Prop:=bX (iX mv pt i) mv.9 R ps/\∃t,t<=ps.9/\t<=i/\bX (iX mv pt t) mv.9 R ps/\(t=i\/∀s,bX (iX mv pt (t+s)) mv.9 R ps)
theorem Gd.start:Gd mv pt 0 [] []:=#[IY,0,ah _,ah _,IY,.inl rfl]
theorem NT (wm:∀xs∈mv,xs.9=mv.9) (wp:∀xs∈pt,xs.9=mv.9) (h:bX (iX mv pt i) mv.9 R ps) (h':bX (iX mv pt (i+1)) mv.9 R' ps') (e:ps'.9=ps.9):∀s,bX (iX mv pt (i+s)) mv.9 R ps:=CV rfl wm wp h (ON rfl wm wp h h') e
theorem Gd.step (wm:∀xs∈mv,xs.9=mv.9) (wp:∀xs∈pt,xs.9=mv.9) (h:Gd mv pt i R ps) (h':bX (iX mv pt (i+1)) mv.9 R' ps'):Gd mv pt (i+1) R' ps'/\(mv.9<=i->R'=R):=by
 obtain h0|t|t1|t2|ht|hs:=h
 have st:(∀s,bX (iX mv pt (t+s)) mv.9 R ps)->Gd mv pt (i+1) R' ps'/\(mv.9<=i->R'=R):=λhs=>by
  have:=hs (i+1 - t);rw[show t+(i+1 - t)=i+1 by lia] at this;obtain rfl|rfl:=this.same h';exact #[#[h',t,t1,(),ht,.inr hs],λ_=>rfl]
 rcases hs with rfl | hs
 ·have gr:=GJ rfl wm wp h0 h';by_cases e:ps'.9=ps.9
  ·exact st (NT wm wp h0 h' e)
  ·refine #[#[h',t+1,(),ah _,h',.inl rfl],λhn=>?_];have:=h'.le
   lia
 ·exact st hs
theorem O8 (hl:vs.9<=N) (h:∀v∈vs,∀r∈rs,Fr 1 Wx (v r)):∃z:Int,sV rs vs=(z:Rat)/\z.natAbs<=(N*Wx)^rs.9:=by
 have f:=AU hl h;obtain z|ez:=wI f;rw[ez] at f;exact #[z,ez,vC f]
def jr (mv:LR9):Nat->List Rat->List Rat
 | 0,x=>x
 | t+1,x=>oS mv (jr mv t x)
section
variable {mv pt lk pus:LR9} {st pu go:List Rat} {n t T c:Nat}
theorem D5 (h:st.9=mv.9):∀t,(jr mv t st).9=mv.9
 | 0=>h
 | _+1=>uf
theorem Js {x y:List Rat} (h:x.9=y.9) (e:∀c,c < x.9->x.getD c 0=y.getD c 0):x=y:=by
 apply cz h;intro c h1 h2;have:=e c h1;rwa [aa,aa,ae h1,ae h2] at this
theorem Oz (D:js mv pt lk) (h:st.9=mv.9) (hp:pu.9=pt.9) (hc:c < mv.9):(kg mv pt st pu).getD c 0=aK mv.9 (λj=>aS mv c j*st.getD j 0)+aK pt.9 λi=>pu.getD i 0*aS pt i c:=by
 have wc:=D.mw _ (az hc)
 have e:(kg mv pt st pu).getD c 0=fX (mv[c]++pt.map λxs=>xs.getD c 0) (st++pu):=by
  unfold kg;rw[aa,bV,ae hc,sZ hc];rfl
 rw[e,Pa (),iO (),iO (by rw[af];lia),wc,af];congr 1
 ·refine aA λj _=>?_
  unfold aS;rw[aa (l:=mv),ae hc];rfl
 ·refine aA λi hi=>?_
  rw[de];congr 1;unfold aS;rw[aa,aw,aa (l:=pt),ae hi];rfl
theorem zu:∀t,(iX mv pt t).9=t*pt.9
 | 0=>by rw[Ln];rfl
 | t+1=>by
  show (pt++(iX mv pt t).map (oS mv)).9=_
  rw[ao,af,zu t,dG,ij]
end
theorem Nf {x y:List Rat} (h:x.9=y.9) (hc:c < x.9):(W0 (λx y=>x - y) x y).getD c 0=x.getD c 0 - y.getD c 0:=by
 rw[aa,bV,aa (l:=x),aa (l:=y),ae hc,ae ()];rfl
def WD (l:Addr):Hp:=λq=>if q=l then some (.lst []) else none
theorem UX (h:q≠l):WD l q=none:=by unfold WD;rw[if_neg h]
section
variable {K:FG9} {H0 H H':Hp} {l p q:Addr} {R:LR9} {v:V} {mv pt:LR9} {u T:Nat}
def VC (mv pt:LR9) (u:Nat):List (LR9):=(Yq u).map λs=>pt.map (jr mv s)
theorem Sl:VC mv pt (u+1)=VC mv pt u++[pt.map (jr mv u)]:=by unfold VC;rw[i8,cR];rfl
theorem Le:∀u,(VC mv pt u).flatten=iX mv pt u
 | 0=>rfl
 | u+1=>by
  have e:VC mv pt (u+1)=pt :: (VC mv pt u).map (YO (oS mv)):=by
   unfold VC;rw[List.range_succ_eq_map,iB,gI];congr 1
   ·exact PV pt
   ·rw[gI];refine cF λs _=>?_
    show pt.map (jr mv (s+1))=(pt.map (jr mv s)).map (oS mv)
    rw[gI];rfl
  rw[e,lV,<- List.map_flatten,Le u];rfl
theorem VB (h:xs∈pt.map (jr mv s)):xs∈iX mv pt (s+1):=by
 rw[<- Le,Sl,List.flatten_append];exact b6 _ (by simpa using h)
theorem mM.fitP (F:mM mv pt a c) (wm:∀xs∈mv,xs.9=mv.9) (wp:∀xs∈pt,xs.9=mv.9) (hs:s+1<=mv.9):∀xs∈mv,∀r∈pt.map (jr mv s),yr xs r:=λxs hx r hr=>by
 obtain M|V|M0|Ma|hV|fm|fp|a3|c3|e14|_:=F;have f:=Et rfl wm wp hV fm fp (s+1) r (VB hr);have V1:V<=2^c:=ag (cG _ ()) hV;have e1:(s+1)*(a+c)<=mv.9*(a+c):=ax _ hs;have e2:mv.9*(a+c)+4<=mv.9*(mv.9*(a+c)+4):=cG _ ();have e3:(s+1)*(a+c)=a*(s+1)+c*(s+1):=by rw[o8,bu,bu c]
 refine #[a,c,a*(s+1),c*(s+1),#[M,V,M0,Ma,V1,fm xs hx],#[M^(s+1),2^(c*(s+1)),jW M0,?_,ah _,f],()];exact ag (nM Ma _) (by rw[<- w5];exact ah _)
end
theorem Tp.up (h:Tp M W q) (k:Nat) (hx:W*k<=x):Tp (M*k) x q:=by
 obtain z|e|b:=h;exact #[z*k,by rw[sW,aL,<- e,aJ];grind,by rw[eC,b9];exact ag (ax _ b) hx]
theorem Vb.tp (V:Vb r n Pm Y Z d W) (r15:r<=15) (w1:1<=W):∃q:Nat,0 < q/\q<=(16*W)^r/\∀s,s < r->∀c,c < n->Tp q ((16*W)^r) (Y s c):=by
 have rlt:∀i∈xM (λi=>i) r,i < r:=λi hi=>by
  obtain t|ht|e:=rV hi;have e:i=t:=e
  lia
 obtain q|eq|bq:=O8 (N:=16) (Wx:=W) (rs:=xM (λi=>i) r) (vs:=sH (λj i=>Pm i j) r) (by rw[cw_len];lia) λw hw i hi=>by
  obtain s|hs|rfl:=cw_in hw;exact V.pf i (rlt i hi) s hs
 rw[tZ] at bq;rw[<- V.det] at eq;have q0:q≠0:=λz=>V.d0 (by rw[eq,z];rfl)
 refine #[q.natAbs,(),bq,λs hs c hc=>?_]
 have cr:=C2 (rs:=xM (λi=>i) r) (v:=λj i=>Pm i j) (c:=λj=>Y j c) (W:=λi=>Z i c) hs (λi hi=>by
  rw[V.eq i (rlt i hi) c hc];exact aA λj _=>de _ _)
 obtain z|ez|bz:=O8 (N:=16) (Wx:=W) (rs:=xM (λi=>i) r) (vs:=M5 (λj i=>Pm i j) s r++(λi=>Z i c) :: sH (λj i=>Pm i j) s) (by
  have:=congrArg Zs (cw_split (v:=λj i=>Pm i j) hs);rw[ao,bL,cw_len] at this;rw[ao,bL]
  lia) λw hw i hi=>by
   rcases aB.mp hw with hw | hw
   ·obtain s'|hs'|rfl:=HI hw;exact V.pf i (rlt i hi) s' hs'
   ·rcases ay.mp hw with rfl | hw
    ·exact V.zf i (rlt i hi) c hc
    ·obtain s'|hs'|rfl:=cw_in hw;exact V.pf i (rlt i hi) s' ()
 rw[tZ] at bz;rw[ez,<- V.det,eq] at cr;have key:Y s c*(q:Rat)=(z:Rat):=cr.symm;rcases Iv q with h | h
 ·have hq:((q.natAbs:Nat):Rat)=(q:Rat):=by rw[<- aJ,<- h]
  exact #[z,by rw[hq,key],bz]
 ·have hq:((q.natAbs:Nat):Rat)=-(q:Rat):=by rw[<- aJ,<- cO];congr 1;lia
  exact #[-z,by rw[hq,cO,<- key];grind,by rw[mi];exact bz]
theorem Vk (F:mM mv pt a c) (D8:mv.9<=8) (wm:∀xs∈mv,xs.9=mv.9) (wp:∀xs∈pt,xs.9=mv.9):∀T,∃R ps,Gd mv pt T R ps:=by
 intro T
 induction T with
 | zero=>exact #[_,_,Gd.start]
 | succ T ih =>
  obtain R|ps|G:=ih;obtain RR|t|t1|t2|RRt|hs:=id G;have le:=RR.le
  obtain R'|ps'|d|ls|S:=xK (n:=mv.9) (rows:=pt++R.map (oS mv)) (λxs hx=>by
   rcases aB.mp hx with hx | hx
   ·exact wp xs hx
   ·obtain y|_|rfl:=au.mp hx;exact uf) (F.step D8 wm wp (t:=t) () RRt)
  have RR':=wD rfl wm wp RR S.rr;exact #[R',ps',(G.step wm wp RR').1]
theorem WW (F:mM mv pt a c) (D8:mv.9<=8) (wm:∀xs∈mv,xs.9=mv.9) (wp:∀xs∈pt,xs.9=mv.9) (RR:bX (iX mv pt T) mv.9 R ps):Gd mv pt T R ps:=by
 obtain R'|ps'|G:=Vk F D8 wm wp T;obtain rfl|rfl:=RR.same G.1;exact G
theorem mM.rtp (F:mM mv pt a c) (D8:mv.9<=8) (wm:∀xs∈mv,xs.9=mv.9) (wp:∀xs∈pt,xs.9=mv.9) (RR:bX (iX mv pt T) mv.9 R ps):∃q,0 < q/\q<=2^(ps.9*((mv.9 - 1)*(a+c)+4))/\∀xs∈R,∀x∈xs,Tp q (2^(ps.9*((mv.9 - 1)*(a+c)+4))) x:=by
 obtain _|t|t1|_|RRt|_:=WW F D8 wm wp RR;obtain Pm|Z|d|w|vb|hw:=F.vb wm wp t1 RRt;have le:=RR.le;obtain q|q0|q1|q2:=vb.tp () bC
 have up:(16*2^w)^ps.9<=2^(ps.9*((mv.9 - 1)*(a+c)+4)):=by
  have e:(16*2^w)^ps.9=2^(ps.9*(w+4)):=by rw[show (16:Nat)=2^4 from rfl,<- bG,<- w5,bu ps.9,ij w]
  rw[e];refine ar () (cY _ ?_);rcases hw with ⟨_,rfl⟩ | ⟨_,rfl⟩ <;> lia
 refine #[q,q0,ag q1 up,KZ λi hi e=>?_];by_cases he:e < mv.9
 ·exact (q2 i (by rw[<- RR.1];exact hi) e he).mono up
 ·rw[Jt RR.2.1 ()];exact Tp.zero
theorem Vn (h1:∀i j,i < j->j < ps.9->ps.getD i 0 < ps.getD j 0) (h2:∀j,j < ps.9->ps.getD j 0 < n):(Iy ps n).9+ps.9=n:=by
 have key:∀i,∃k,k<=ps.9/\(Iy ps i).9+k=i/\(∀j,j < k->ps.getD j 0 < i)/\∀j,k<=j->j < ps.9->i<=ps.getD j 0:=by
  intro i
  induction i with
  | zero=>exact #[0,a8 _,rfl,λj hj=>absurd hj (cP _),λj _ _=>a8 _]
  | succ i ih =>
   obtain k|k1|k2|k3|k4:=ih;rw[AR];by_cases hk:k < ps.9/\ps.getD k 0=i
   ·have hm:i∈ps:=by rw[<- hk.2];exact getD_in hk.1
    rw[if_neg (λz=>z hm)];refine #[k+1,hk.1,(),λj hj=>?_,λj hj hl=>?_]
    ·rcases aR j k with z | z
     ·have:=k3 j z;lia
     ·rw[show j=k by lia,hk.2];lia
    ·have:=h1 k j () hl
     lia
   ·have hm:i∉ps:=λz=>by
     obtain j|hj|ej:=bN z;have ej':ps.getD j 0=i:=by rw[aa,ae hj];exact ej
     rcases aR j k with y | y
     ·have:=k3 j y;lia
     ·rcases aR k j with x | x
      ·have:=h1 k j x hj;have:=k4 k (ah _) ()
       lia
      ·exact hk #[(),by rw[show k=j by lia];exact ej']
    rw[if_pos hm];refine #[k,k1,by rw[ao,aQ];lia,λj hj=>by have:=k3 j hj;lia,λj hj hl=>?_];have:=k4 j hj hl;rcases aR i (ps.getD j 0) with y | y
    ·exact y
    ·exact absurd (by rw[show i=ps.getD j 0 by lia];exact getD_in hl) hm
 obtain k|k1|k2|k3|k4:=key n;rcases aR k ps.9 with z | z
 ·have:=k4 k (ah _) z;have:=h2 k z
  lia
 ·lia
theorem LX (RR:bX rows n R ps):(jN R ps n).9+ps.9=n:=by
 unfold jN;rw[af];exact Vn RR.2.2.inc RR.2.2.low
structure Bd (mv pt:LR9) (M1 M2 V a1 a2 c:Nat):Prop where
 m1:0 < M1
 m2:0 < M2
 b1:M1<=2^a1
 b2:M2<=2^a2
 gm:GF M1 V mv
 gp:GF M2 V pt
 vc:(mv.9+4)*V<=2^c
section
variable {M1 M2 V a1 a2 c N Np p t T ν:Nat}
theorem Bd.v1 (B:Bd mv pt M1 M2 V a1 a2 c):V<=2^c:=ag (cG _ ()) B.vc
theorem yc (h0:0 < M) (h1:M<=2^a) (h2:W<=2^b) (hab:a+b<=3990000) (h:Fr M W x):jV x:=by
 refine j7 (Tp.of h (ah _)) h0 (ag h1 (ar () ())) ?_;refine ag (aP h2 h1) ?_;rw[<- bG];exact ar () ()
end
theorem Oy (ws vs:List V) (M1 M2 M3:Nat):∃μ:V->Nat,(∀x∈ws,μ x=M2)/\(∀x∈vs,x∉ws->μ x=M3)/\(∀x,x∉ws->x∉vs->μ x=M1)/\∀x,μ x=M1\/μ x=M2\/μ x=M3:=by
 classical
 refine #[λx=>if x∈ws then M2 else if x∈vs then M3 else M1,λx h=>if_pos h,λx h h'=>?_,λx h h'=>?_,λx=>?_]
 ·show (if x∈ws then M2 else if x∈vs then M3 else M1)=M3
  rw[if_neg h',if_pos h]
 ·show (if x∈ws then M2 else if x∈vs then M3 else M1)=M1
  rw[if_neg h,if_neg h']
 ·show (if x∈ws then M2 else if x∈vs then M3 else M1)=M1\/(if x∈ws then M2 else if x∈vs then M3 else M1)=M2\/(if x∈ws then M2 else if x∈vs then M3 else M1)=M3
  by_cases h:x∈ws
  ·rw[if_pos h];exact .inr (.inl rfl)
  ·rw[if_neg h];by_cases h':x∈vs
   ·rw[if_pos h'];exact .inr (.inr rfl)
   ·rw[if_neg h'];exact .inl rfl
theorem lW.apart {K:FG9} (h:lW K A H n C m p l b q0 us ws vs):(∀x∈us,x∉ws/\x∉vs)/\∀x∈vs,x∉ws:=by
 obtain n1|n2|n3:=d5.mp h.nd;obtain n4|n5|n6:=d5.mp n1;exact #[λx hx=>#[λz=>n3 x (aB.mpr (.inl hx)) x z rfl,λz=>n6 x hx x z rfl],λx hx z=>n3 x (aB.mpr (.inr hx)) x z rfl]
theorem lW.fr3 {K:FG9} (h:lW K A H n (λ_=>Dr (2^c)) m p l b q0 us ws vs):∃M1 M2 M3,0 < M1/\0 < M2/\0 < M3/\M1<=2^(c*(n*n))/\M2<=2^(c*(ws.9*n))/\M3<=2^(c*(vs.9*n))/\(∀x∈us,iP K A H n (Fr M1 (2^c)) x)/\(∀x∈ws,iP K A H n (Fr M2 (2^c)) x)/\∀x∈vs,iP K A H n (Fr M3 (2^c)) x:=by
 have one:∀l:List V,(∀x∈l,x∈us++vs++ws)->∃M,0 < M/\M<=2^(c*(l.9*n))/\∀x∈l,iP K A H n (Fr M (2^c)) x:=λl hl=>by
  obtain ra|pa|la|ha:=Ae λx hx=>h.row x (hl x hx)
  obtain M|m0|m1|m2:=Qr (c:=c) (n:=n) (rows:=ra) ha;exact #[M,m0,by rw[la] at m1;exact m1,IZ pa λqs hq=>#[(ha qs hq).1,m2 qs hq]]
 obtain M1|a1|a2|a3:=one us λx hx=>by simp [hx]
 obtain M2|b1|b2|b3:=one ws λx hx=>by simp [hx]
 obtain M3|c1|c2|c3:=one vs λx hx=>by simp [hx]
 rw[h.lm] at a2;exact #[M1,M2,M3,a1,b1,c1,a2,b2,c2,a3,b3,c3]
inductive CG (K:FG9) (xs:List V) (H:Hp) (Q:VK) (E9:XK):Prop
 | mk (b m p l q0:Addr) (n V1:Nat) (μ:V->Nat) (A:Addr->Prop) (us ws vs:List V):xs=[.ref b,.ref m,.ref p,.ref l]->J9 A m p l b q0->lW K A H n (λx=>Fr (μ x) V1) m p l b q0 us ws vs->n<=8->ws.9<=4->vs.9<=4->(∀x,0 < μ x)->(∀x,μ x<=2^800)->(∃M,∀x,x∉ws->x∉vs->μ x=M)->V1<=2^20->(∀q,H q=none->A q)->(∀r us' H',H' r=some (.tup [.ref m,.ref p,.ref l])->lW K A H' n (λx=>Fr (μ x) (9^3*V1)) m p l b q0 us' ws vs->jL A b m H H'->Q (.ref r) H')->CG K xs H Q E9
def Yi (n i o w c:Nat) (mv pt lk:LR9):Prop:=∃M1 M2 M3 V1:Nat,0 < M1/\0 < M2/\0 < M3/\GF M1 V1 mv/\GF M2 V1 pt/\GF M3 V1 lk/\((w<=9/\M1=2520/\M2=2520/\M3=2520/\V1=9^3*9)\/(9 < w/\M1<=2^(c*(n*n))/\M2<=2^(c*(i*n))/\M3<=2^(c*(o*n))/\V1=9^3*2^c))
inductive CA (K:FG9) (vs:List V) (H:Hp) (Q:VK) (E9:XK):Prop
 | mk (b:Addr) (n i o w c:Nat):vs=[.ref b,.int n,.int i,.int o,.int w]->kH H b->n<=8->i<=4->o<=4->1<=w->w<=1000000->max w 6<=2^c->c<=20->c*((n+i+o)*n)<=800->(∀r mv pt lk H',o6 K H H' r mv pt lk->mv.9=n->pt.9=i->lk.9=o->js mv pt lk->Yi n i o w c mv pt lk->kH H' b->dD b H H'->Q (.ref r) H')->CA K vs H Q E9
open PySem.MeetsSeq
theorem Tp.neg (h:Tp M W x):Tp M W (-x):=by
 obtain z|e|b:=h;exact #[-z,by rw[Rat.neg_mul,e];exact (cO z).symm,by rw[mi];exact b]
inductive CB (K:FG9) (vs:List V) (H:Hp) (Q:VK) (E9:XK):Prop
 | mk (p:Addr) (n w:Nat) (H0:Hp) (rows R:LR9) (ps:List Nat):vs=[.ref p,.int n]->bg K H0 H p R->R.9<=100->n<=100->bX rows n R ps->Ck R n w->(∀xs∈R,∀x∈xs,jV x)->(∀r H',H r=none->aE H H'->bg K H H' r (jN R ps n)->Q (.ref r) H')->CB K vs H Q E9
structure Ye (A lk:LR9) (e:Nat):Prop where
 n8:A.9<=8
 wm:∀xs∈A,xs.9=A.9
 wp:∀xs∈lk,xs.9=A.9
 kf:∃a c,mM A lk a c/\A.9*((A.9 - 1)*(a+c)+4)<=900/\∀p,p<=A.9->(A.9 - p)*(p*((A.9 - 1)*(a+c)+4)+4)<=e
 e1:e<=1650
theorem Ye.sw (h:Ye A lk e) (RR:bX (iX A lk T) A.9 R ps):(∃w,Ck R A.9 w)/\(∀xs∈R,∀x∈xs,jV x)/\∃w,Ck (jN R ps A.9) A.9 w/\min (jN R ps A.9).9 A.9*(w+4)<=e/\∃q,0 < q/\∀xs∈jN R ps A.9,∀x∈xs,Tp q (2^w) x:=by
 obtain a|c|KF|b1|b2:=h.kf;obtain q|q0|q1|q2:=KF.rtp h.n8 h.wm h.wp RR;have n8:=h.n8;have le:=RR.le;have lR:=RR.1;have cnt:=LX RR;have e1:=h.e1;have bp:=b2 ps.9 le;generalize (A.9 - 1)*(a+c)+4=E at b1 b2 q1 q2 bp;have pE:ps.9*E<=900:=ag (ax _ le) b1;have up:∀{m:Nat},900<=m->2^(ps.9*E)<=2^m:=λh=>ar () ()
 have tn:∀xs∈jN R ps A.9,∀x∈xs,Tp q (2^(ps.9*E)) x:=λxs hx x hx'=>by
  obtain a|_|_|rfl:=LV hx;exact WE q0 q1 q2 RR x hx'
 have bn:min (jN R ps A.9).9 A.9*(ps.9*E+4)<=e:=ag (ax _ (show min (jN R ps A.9).9 A.9<=A.9 - ps.9 by lia)) bp;refine #[#[ps.9*E,q,2^(ps.9*E),q0,ag q1 (up ()),bC,ah _,q2,(),(),?_],λxs hx x hx'=>j7 (q2 xs hx x hx') q0 (ag q1 (up ())) (up ()),ps.9*E,#[q,2^(ps.9*E),q0,ag q1 (up ()),bC,ah _,tn,(),(),()],bn,q,q0,tn];have:min R.9 A.9*(ps.9*E+4)<=8*904:=aP () ()
 lia
section
variable {K:FG9} {g:TG}
theorem JN (f:Nat->List Rat) (hl:n<=1000)
  (hs:∀(i:Nat) H' NY NN,i < n->aE H H'->(∀q H2,aE H' H2->H' q=none->df K H2 q (f i)->NY (.ref q) H2)->qN σ₀ g tf te (.int i) H' NY NN)
  (hd:∀ys H' p,H p=none->aE H H'->H' p=some (.lst ys)->ys.Nodup->Yt (cC K H H') ((Yq n).map f) ys->V.ref p∉ys->Q (.ref p) H'):qX (Io 0 n) σ₀ g tf te Q H:=by
 refine oY (λi ys H'=>aE H H'/\Yt (cC K H H') ((Yq i).map f) ys/\ys.Nodup/\∀y∈ys,∃q,y=V.ref q/\H' q≠none) ko #[aE.refl _,.nil,iH,(λ_ h=>nomatch h)] ?_ ?_
 ·rintro i ys H' hi hlen ⟨s,pr,nd,ne⟩;rw[uL];refine hs i H' _ _ hi s λq H2 s2 nq R=>#[s.trans s2,?_,?_,λy hy=>?_]
  ·rw[i8,cR];exact bT (ce (λ_ _ z=>cC.same z s2) pr) (.cons #[q,rfl,s.none nq,R] .nil)
  ·refine d5.mpr #[nd,by simp,λa ha b hb z=>?_];rw[aU.mp hb] at z;obtain q'|e|h:=ne a ha;rw[z] at e;cases e;exact h nq
  ·rcases aB.mp hy with hy | hy
   ·obtain q'|e|h:=ne y hy;exact #[q',e,λz=>h (s2.none z)]
   ·obtain _|gg|_:=R;exact #[q,aU.mp hy,by rw[gg];exact λz=>nomatch z]
 ·rintro ys H' hy ⟨s,pr,nd,ne⟩ p hp;refine hd ys _ p (s.none hp) (s.trans (aE.new hp)) aD nd (ce (λ_ _ z=>cC.same z (aE.new hp)) pr) λz=>?_
  obtain q|e|h:=ne _ z;cases e;exact h hp
end
section
theorem zd {M V:Nat} {f:Nat->Rat}:∀k,(∀i,i < k->Fr M V (f i))->Fr M (k*V) (aK k f)
 | 0,_=>Fr.zero
 | k+1,h=>by
  rw[dG];exact (zd k λi hi=>h i ()).add (h k ())
variable {d j n w M:Nat} {go ws:List Rat} {rows:LR9}
end
section
variable [DecidableEq α] [DecidableEq β] [DecidableEq γ] (k1:Kind α) (k2:Kind β) (k3:Kind γ)
theorem vals3 (r:cX [x,y,z] us):∃u v w,us=[u,v,w]/\RelV x u/\RelV y v/\RelV z w:=by
 cases r with
 | cons a r=>cases r with
  | cons b r=>cases r with
   | cons c r=>cases r;exact #[_,_,_,rfl,a,b,c]
end
theorem vL (h:∀xs∈rows,∀x∈xs,Tp M W x):∀xs∈cx rows n,∀x∈xs,Tp M W x:=λxs hx x hx'=>by
 obtain c|_|rfl:=au.mp hx;obtain ys|hy|rfl:=au.mp hx';exact pC (h ys hy) c
theorem yt (h:Tp M W x) (M0:0 < M) (h1:M<=2^a) (h2:W<=2^a) (ha:a<=3995000):jV x:=j7 h M0 (ag h1 (ar () ha)) (ag h2 (ar () ha))
def vE (a b:List Int):Int:=(W0 (λx y=>x*y) a b).sum
def Ee (ls:List (List Int)) (v:List Int):List Int:=ls.map λl=>vE l v
def lM (b:Int):Nat->List Int->List Int
 | _,[]=>[]
 | 0,v :: r=>(v+b) :: r
 | p+1,v :: r=>v :: lM b p r
def jK (b:Int):Nat->List (List Int)->List (List Int)
 | _,[]=>[]
 | p,l :: r=>lM b p l :: jK b (p+1) r
def qZ:Nat->List (List Int)->Int
 | _,[]=>0
 | p,l :: r=>l.getD p 0+qZ (p+1) r
def jD (T:List (List Int)) (n:Nat):Nat->List (List Int)×Int
 | 0=>(Mg n (Mg n 0),1)
 | k+1=>((jK (jD T n k).2 0 (jD T n k).1).map (Ee T),(-(qZ 0 ((jK (jD T n k).2 0 (jD T n k).1).map (Ee T)))).fdiv (k+1))
theorem jU (h:jD T n k=(C,l)) (hC:(jK l 0 C).map (Ee T)=C') (ht:-(qZ 0 C')=((k+1:Nat):Int)*l'):jD T n (k+1)=(C',l'):=by
 have e:jD T n (k+1)=((jK (jD T n k).2 0 (jD T n k).1).map (Ee T),(-(qZ 0 ((jK (jD T n k).2 0 (jD T n k).1).map (Ee T)))).fdiv (k+1)):=rfl;rw[e,h]
 dsimp only
 rw[hC,ht];have:((k+1:Nat):Int)*l'=((k:Int)+1)*l':=by push_cast;rfl
 rw[this,VV _ ()]
theorem m9 {α:Type} {a b:α} {s t:List α} (h:a=b) (h':s=t):a :: s=b :: t:=by rw[h,h']
theorem TK (a:Int):jD [[a]] 1 1=([[a]],-((a))):=by
 refine jU (C:=Mg 1 (Mg 1 0)) (l:=1) rfl ?_ ?_
 ·simp only[jK,lM,Ee,vE,YO,W0,gH,jq,Mg]
  (repeat' apply m9) <;> grind
 ·simp only[qZ,bJ,bK];grind
theorem TJ (a b c d:Int):jD [[a,b],[c,d]] 2 1=([[-((d)) - (-((a)+(d))),-(-(c))],[-(-(b)),-((a)) - (-((a)+(d)))]],-((a)+(d))):=by
 refine jU (C:=Mg 2 (Mg 2 0)) (l:=1) rfl ?_ ?_
 ·simp only[jK,lM,Ee,vE,YO,W0,gH,jq,Mg]
  (repeat' apply m9) <;> grind
 ·simp only[qZ,bJ,bK];grind
theorem TH (a b c d:Int):jD [[a,b],[c,d]] 2 2=([[-(((a*(d) - b*(c)))),0],[0,-(((a*(d) - b*(c))))]],((a*(d) - b*(c)))):=by
 refine jU (TJ a b c d) ?_ ?_
 ·simp only[jK,lM,Ee,vE,YO,W0,gH,jq,Mg]
  (repeat' apply m9) <;> grind
 ·simp only[qZ,bJ,bK];grind
theorem TF (a b c d e f g h i:Int):jD [[a,b,c],[d,e,f],[g,h,i]] 3 1=([[a,d,g],[b,e,h],[c,f,i]],-((a)+(e)+(i))):=by
 refine jU (C:=Mg 3 (Mg 3 0)) (l:=1) rfl ?_ ?_
 ·simp only[jK,lM,Ee,vE,YO,W0,gH,jq,Mg]
  (repeat' apply m9) <;> grind
 ·simp only[qZ,bJ,bK];grind
theorem TC (a b c d e f g h i:Int):jD [[a,b,c],[d,e,f],[g,h,i]] 3 2=([[((e*(i) - f*(h))) - (((a*(e) - b*(d))+(a*(i) - c*(g))+(e*(i) - f*(h)))),(-(d*(i) - f*(g))),((d*(h) - e*(g)))],[(-(b*(i) - c*(h))),((a*(i) - c*(g))) - (((a*(e) - b*(d))+(a*(i) - c*(g))+(e*(i) - f*(h)))),(-(a*(h) - b*(g)))],[((b*(f) - c*(e))),(-(a*(f) - c*(d))),((a*(e) - b*(d))) - (((a*(e) - b*(d))+(a*(i) - c*(g))+(e*(i) - f*(h))))]],((a*(e) - b*(d))+(a*(i) - c*(g))+(e*(i) - f*(h)))):=by
 refine jU (TF a b c d e f g h i) ?_ ?_
 ·simp only[jK,lM,Ee,vE,YO,W0,gH,jq,Mg]
  (repeat' apply m9) <;> grind
 ·simp only[qZ,bJ,bK];grind
theorem TB (a b c d e f g h i:Int):jD [[a,b,c],[d,e,f],[g,h,i]] 3 3=([[-(-((a*(e*(i) - f*(h)) - b*(d*(i) - f*(g))+c*(d*(h) - e*(g))))),0,0],[0,-(-((a*(e*(i) - f*(h)) - b*(d*(i) - f*(g))+c*(d*(h) - e*(g))))),0],[0,0,-(-((a*(e*(i) - f*(h)) - b*(d*(i) - f*(g))+c*(d*(h) - e*(g)))))]],-((a*(e*(i) - f*(h)) - b*(d*(i) - f*(g))+c*(d*(h) - e*(g))))):=by
 refine jU (TC a b c d e f g h i) ?_ ?_
 ·simp only[jK,lM,Ee,vE,YO,W0,gH,jq,Mg]
  (repeat' apply m9) <;> grind
 ·simp only[qZ,bJ,bK];grind
theorem Tz (a b c d e f g h i j k l m n o p:Int):jD [[a,b,c,d],[e,f,g,h],[i,j,k,l],[m,n,o,p]] 4 1=([[a,e,i,m],[b,f,j,n],[c,g,k,o],[d,h,l,p]],-((a)+(f)+(k)+(p))):=by
 refine jU (C:=Mg 4 (Mg 4 0)) (l:=1) rfl ?_ ?_
 ·simp only[jK,lM,Ee,vE,YO,W0,gH,jq,Mg]
  (repeat' apply m9) <;> grind
 ·simp only[qZ,bJ,bK];grind
theorem Tx (a b c d e f g h i j k l m n o p:Int):jD [[a,b,c,d],[e,f,g,h],[i,j,k,l],[m,n,o,p]] 4 2=([[a*(a+(-((a)+(f)+(k)+(p))))+b*(e)+c*(i)+d*(m),e*(a+(-((a)+(f)+(k)+(p))))+f*(e)+g*(i)+h*(m),i*(a+(-((a)+(f)+(k)+(p))))+j*(e)+k*(i)+l*(m),m*(a+(-((a)+(f)+(k)+(p))))+n*(e)+o*(i)+p*(m)],[a*(b)+b*(f+(-((a)+(f)+(k)+(p))))+c*(j)+d*(n),e*(b)+f*(f+(-((a)+(f)+(k)+(p))))+g*(j)+h*(n),i*(b)+j*(f+(-((a)+(f)+(k)+(p))))+k*(j)+l*(n),m*(b)+n*(f+(-((a)+(f)+(k)+(p))))+o*(j)+p*(n)],[a*(c)+b*(g)+c*(k+(-((a)+(f)+(k)+(p))))+d*(o),e*(c)+f*(g)+g*(k+(-((a)+(f)+(k)+(p))))+h*(o),i*(c)+j*(g)+k*(k+(-((a)+(f)+(k)+(p))))+l*(o),m*(c)+n*(g)+o*(k+(-((a)+(f)+(k)+(p))))+p*(o)],[a*(d)+b*(h)+c*(l)+d*(p+(-((a)+(f)+(k)+(p)))),e*(d)+f*(h)+g*(l)+h*(p+(-((a)+(f)+(k)+(p)))),i*(d)+j*(h)+k*(l)+l*(p+(-((a)+(f)+(k)+(p)))),m*(d)+n*(h)+o*(l)+p*(p+(-((a)+(f)+(k)+(p))))]],((a*(f) - b*(e))+(a*(k) - c*(i))+(a*(p) - d*(m))+(f*(k) - g*(j))+(f*(p) - h*(n))+(k*(p) - l*(o)))):=by
 refine jU (Tz a b c d e f g h i j k l m n o p) ?_ ?_
 ·simp only[jK,lM,Ee,vE,YO,W0,gH,jq,Mg]
  (repeat' apply m9) <;> grind
 ·simp only[qZ,bJ,bK];grind
theorem Tw (a b c d e f g h i j k l m n o p:Int):jD [[a,b,c,d],[e,f,g,h],[i,j,k,l],[m,n,o,p]] 4 3=([[-((f*(k*(p) - l*(o)) - g*(j*(p) - l*(n))+h*(j*(o) - k*(n)))) - (-((a*(f*(k) - g*(j)) - b*(e*(k) - g*(i))+c*(e*(j) - f*(i)))+(a*(f*(p) - h*(n)) - b*(e*(p) - h*(m))+d*(e*(n) - f*(m)))+(a*(k*(p) - l*(o)) - c*(i*(p) - l*(m))+d*(i*(o) - k*(m)))+(f*(k*(p) - l*(o)) - g*(j*(p) - l*(n))+h*(j*(o) - k*(n))))),-(-(e*(k*(p) - l*(o)) - g*(i*(p) - l*(m))+h*(i*(o) - k*(m)))),-((e*(j*(p) - l*(n)) - f*(i*(p) - l*(m))+h*(i*(n) - j*(m)))),-(-(e*(j*(o) - k*(n)) - f*(i*(o) - k*(m))+g*(i*(n) - j*(m))))],[-(-(b*(k*(p) - l*(o)) - c*(j*(p) - l*(n))+d*(j*(o) - k*(n)))),-((a*(k*(p) - l*(o)) - c*(i*(p) - l*(m))+d*(i*(o) - k*(m)))) - (-((a*(f*(k) - g*(j)) - b*(e*(k) - g*(i))+c*(e*(j) - f*(i)))+(a*(f*(p) - h*(n)) - b*(e*(p) - h*(m))+d*(e*(n) - f*(m)))+(a*(k*(p) - l*(o)) - c*(i*(p) - l*(m))+d*(i*(o) - k*(m)))+(f*(k*(p) - l*(o)) - g*(j*(p) - l*(n))+h*(j*(o) - k*(n))))),-(-(a*(j*(p) - l*(n)) - b*(i*(p) - l*(m))+d*(i*(n) - j*(m)))),-((a*(j*(o) - k*(n)) - b*(i*(o) - k*(m))+c*(i*(n) - j*(m))))],[-((b*(g*(p) - h*(o)) - c*(f*(p) - h*(n))+d*(f*(o) - g*(n)))),-(-(a*(g*(p) - h*(o)) - c*(e*(p) - h*(m))+d*(e*(o) - g*(m)))),-((a*(f*(p) - h*(n)) - b*(e*(p) - h*(m))+d*(e*(n) - f*(m)))) - (-((a*(f*(k) - g*(j)) - b*(e*(k) - g*(i))+c*(e*(j) - f*(i)))+(a*(f*(p) - h*(n)) - b*(e*(p) - h*(m))+d*(e*(n) - f*(m)))+(a*(k*(p) - l*(o)) - c*(i*(p) - l*(m))+d*(i*(o) - k*(m)))+(f*(k*(p) - l*(o)) - g*(j*(p) - l*(n))+h*(j*(o) - k*(n))))),-(-(a*(f*(o) - g*(n)) - b*(e*(o) - g*(m))+c*(e*(n) - f*(m))))],[-(-(b*(g*(l) - h*(k)) - c*(f*(l) - h*(j))+d*(f*(k) - g*(j)))),-((a*(g*(l) - h*(k)) - c*(e*(l) - h*(i))+d*(e*(k) - g*(i)))),-(-(a*(f*(l) - h*(j)) - b*(e*(l) - h*(i))+d*(e*(j) - f*(i)))),-((a*(f*(k) - g*(j)) - b*(e*(k) - g*(i))+c*(e*(j) - f*(i)))) - (-((a*(f*(k) - g*(j)) - b*(e*(k) - g*(i))+c*(e*(j) - f*(i)))+(a*(f*(p) - h*(n)) - b*(e*(p) - h*(m))+d*(e*(n) - f*(m)))+(a*(k*(p) - l*(o)) - c*(i*(p) - l*(m))+d*(i*(o) - k*(m)))+(f*(k*(p) - l*(o)) - g*(j*(p) - l*(n))+h*(j*(o) - k*(n)))))]],-((a*(f*(k) - g*(j)) - b*(e*(k) - g*(i))+c*(e*(j) - f*(i)))+(a*(f*(p) - h*(n)) - b*(e*(p) - h*(m))+d*(e*(n) - f*(m)))+(a*(k*(p) - l*(o)) - c*(i*(p) - l*(m))+d*(i*(o) - k*(m)))+(f*(k*(p) - l*(o)) - g*(j*(p) - l*(n))+h*(j*(o) - k*(n))))):=by
 refine jU (Tx a b c d e f g h i j k l m n o p) ?_ ?_
 ·simp only[jK,lM,Ee,vE,YO,W0,gH,jq,Mg]
  (repeat' apply m9) <;> grind
 ·simp only[qZ,bJ,bK];grind
theorem Tv (a b c d e f g h i j k l m n o p:Int):jD [[a,b,c,d],[e,f,g,h],[i,j,k,l],[m,n,o,p]] 4 4=([[-(((a*(f*(k*(p) - l*(o)) - g*(j*(p) - l*(n))+h*(j*(o) - k*(n))) - b*(e*(k*(p) - l*(o)) - g*(i*(p) - l*(m))+h*(i*(o) - k*(m)))+c*(e*(j*(p) - l*(n)) - f*(i*(p) - l*(m))+h*(i*(n) - j*(m))) - d*(e*(j*(o) - k*(n)) - f*(i*(o) - k*(m))+g*(i*(n) - j*(m)))))),0,0,0],[0,-(((a*(f*(k*(p) - l*(o)) - g*(j*(p) - l*(n))+h*(j*(o) - k*(n))) - b*(e*(k*(p) - l*(o)) - g*(i*(p) - l*(m))+h*(i*(o) - k*(m)))+c*(e*(j*(p) - l*(n)) - f*(i*(p) - l*(m))+h*(i*(n) - j*(m))) - d*(e*(j*(o) - k*(n)) - f*(i*(o) - k*(m))+g*(i*(n) - j*(m)))))),0,0],[0,0,-(((a*(f*(k*(p) - l*(o)) - g*(j*(p) - l*(n))+h*(j*(o) - k*(n))) - b*(e*(k*(p) - l*(o)) - g*(i*(p) - l*(m))+h*(i*(o) - k*(m)))+c*(e*(j*(p) - l*(n)) - f*(i*(p) - l*(m))+h*(i*(n) - j*(m))) - d*(e*(j*(o) - k*(n)) - f*(i*(o) - k*(m))+g*(i*(n) - j*(m)))))),0],[0,0,0,-(((a*(f*(k*(p) - l*(o)) - g*(j*(p) - l*(n))+h*(j*(o) - k*(n))) - b*(e*(k*(p) - l*(o)) - g*(i*(p) - l*(m))+h*(i*(o) - k*(m)))+c*(e*(j*(p) - l*(n)) - f*(i*(p) - l*(m))+h*(i*(n) - j*(m))) - d*(e*(j*(o) - k*(n)) - f*(i*(o) - k*(m))+g*(i*(n) - j*(m))))))]],((a*(f*(k*(p) - l*(o)) - g*(j*(p) - l*(n))+h*(j*(o) - k*(n))) - b*(e*(k*(p) - l*(o)) - g*(i*(p) - l*(m))+h*(i*(o) - k*(m)))+c*(e*(j*(p) - l*(n)) - f*(i*(p) - l*(m))+h*(i*(n) - j*(m))) - d*(e*(j*(o) - k*(n)) - f*(i*(o) - k*(m))+g*(i*(n) - j*(m)))))):=by
 refine jU (Tw a b c d e f g h i j k l m n o p) ?_ ?_
 ·simp only[jK,lM,Ee,vE,YO,W0,gH,jq,Mg]
  (repeat' apply m9) <;> grind
 ·simp only[qZ,bJ,bK];grind
section
variable {T:List (List Int)} {n:Nat}
theorem Dj {b : Int} : ∀ {p : Nat} {l : List Int}, (lM b p l).9 = l.9
  | _, [] => by cases ‹Nat› <;> rfl
  | 0, _ :: _ => rfl
  | p + 1, _ :: r => congrArg (· + 1) (Dj (p := p) (l := r))
theorem A6 {b:Int}:∀{p:Nat} {l:List Int} {i:Nat},i < l.9->(lM b p l).getD i 0=l.getD i 0+if i=p then b else 0
 | 0,v :: r,0,_=>by show v+b=v+_;rw[if_pos rfl]
 | 0,v :: r,i+1,_=>by show r.getD i 0=r.getD i 0+_;rw[if_neg (),Int.add_zero]
 | p+1,v :: r,0,_=>by show v=v+_;rw[if_neg (),Int.add_zero]
 | p+1,v :: r,i+1,h=>by
  show (lM b p r).getD i 0=r.getD i 0+_
  rw[A6 (p:=p) (l:=r) (i:=i) (by simpa using h)];by_cases e:i=p
  ·rw[if_pos e,if_pos ()]
  ·rw[if_neg e,if_neg ()]
theorem CQ {b : Int} : ∀ {p : Nat} {l : List (List Int)}, (jK b p l).9 = l.9
  | _, [] => rfl
  | p, _ :: r => congrArg (· + 1) (CQ (p := p + 1) (l := r))
theorem GC {b:Int}:∀{p:Nat} {l:List (List Int)} {j:Nat},(jK b p l)[j]?=(l[j]?).map (lM b (p+j))
 | _,[],_=>rfl
 | p,_ :: _,0=>rfl
 | p,_ :: r,j+1=>by
  show (jK b (p+1) r)[j]?=(r[j]?).map _
  rw[GC (p:=p+1) (l:=r) (j:=j),show p+1+j=p+(j+1) by lia]
theorem Mo (ha:a.9=n) (hb:b.9=n):((vE a b:Int):Rat)=aK n λl=>((a.getD l 0:Int):Rat)*((b.getD l 0:Int):Rat):=by
 have key:∀{a b:List Int},a.9=b.9->((vE a b:Int):Rat)=fX (a.map λ(x:Int)=>(x:Rat)) (b.map λ(x:Int)=>(x:Rat)):=by
  intro a
  induction a with
  | nil=>intro b _;rfl
  | cons x a ih =>
   intro b h;cases b with
   | nil=>exact absurd h (by simp)
   | cons y b =>
    show ((x*y+vE a b:Int):Rat)=(x:Rat)*(y:Rat)+fX _ _
    rw[kE,aL,ih (by simpa using h)]
 rw[key (by rw[ha,hb]),iO (by rw[af,af,ha,hb]),af,ha];refine aA λl _=>?_
 have g:∀c:List Int,(c.map λ(x:Int)=>(x:Rat)).getD l 0=((c.getD l 0:Int):Rat):=λc=>by
  rw[aa,aw,aa];cases c[l]? with
  | none=>rfl
  | some y=>rfl
 rw[g,g]
theorem Jb {B:Rat} (h:B≠0):∀k:Nat,B^k≠0
 | 0=>by rw[Rat.pow_zero];decide
 | k+1=>λz=>by
  rw[Rat.pow_succ] at z;rcases Rat.mul_eq_zero.mp z with z | z
  ·exact Jb h k z
  ·exact h z
theorem AS (hT:T.9=n):∀k,(jD T n k).1.length=n/\∀l∈(jD T n k).1,l.9=n
 | 0=>#[cE,λl hl=>by rw[gJ hl];exact cE]
 | k+1=>by
  refine #[?_,λl hl=>?_]
  ·show (YO _ (jK _ 0 _)).9=n
   rw[af,CQ];exact (AS hT k).1
  ·obtain c|_|rfl:=au.mp (show l∈YO _ (jK _ 0 _) from hl);show (YO _ T).9=n
   rw[af,hT]
def Py (T:List (List Int)) (n:Nat) (B:Rat) (k i j:Nat):Rat:=(((((jD T n k).1.getD j []).getD i 0:Int)):Rat) / B^k
def Pz (T:List (List Int)) (n:Nat) (B:Rat) (k:Nat):Rat:=((jD T n k).2:Rat) / B^k
theorem HM (hB:B≠0) (hT:T.9=n) (hw:∀l∈T,l.9=n) (hi:i < n) (hj:j < n):Py T n B (k+1) i j=aK n λl=>(((T.getD i []).getD l 0:Int):Rat) / B*(Py T n B k l j+if l=j then Pz T n B k else 0):=by
 obtain l1|l2:=AS hT k;have ej:=ae (show j < (jD T n k).1.length by lia);have ei:=ae (show i < T.9 by lia);have lj:=l2 _ (az (show j < (jD T n k).1.length by lia))
 have e1:(jD T n (k+1)).1.getD j []=Ee T (lM (jD T n k).2 j ((jD T n k).1.getD j [])):=by
  show (YO (Ee T) (jK (jD T n k).2 0 (jD T n k).1)).getD j []=_
  rw[aa,aw,GC,ej,aa,ej,jm];rfl
 have e2:(Ee T (lM (jD T n k).2 j ((jD T n k).1.getD j []))).getD i 0=vE (T.getD i []) (lM (jD T n k).2 j ((jD T n k).1.getD j [])):=by
  unfold Ee;rw[aa (l:=YO _ T),aw,ei,aa (l:=T),ei];rfl
 have gj:(jD T n k).1.getD j []=(jD T n k).1[j]:=by rw[aa,ej];rfl
 have gi:T.getD i []=T[i]:=by rw[aa,ei];rfl
 have wi:=hw _ (az (show i < T.9 by lia));unfold Py Pz;rw[e1,e2,Mo (n:=n) (by rw[gi];exact wi) (by rw[Dj,gj];exact lj),c6,de,<- bW];refine aA λl hl=>?_
 rw[A6 (by rw[gj,lj];exact hl),kE,Rat.pow_succ];have hk:B^k≠0:=Jb hB k;by_cases e:l=j
 ·rw[if_pos e,if_pos e,c6,c6,c6,Rat.inv_mul_rev];grind
 ·rw[if_neg e,if_neg e,c6,c6,Rat.inv_mul_rev];have:((0:Int):Rat)=0:=rfl;grind
end
section
variable {n:Nat} {A:Nat->Nat->Rat} {M:Nat->Nat->Nat->Rat} {c:Nat->Rat} {y:Nat->Nat->Rat}
theorem Pt (h0:∀i j,i < n->j < n->M 0 i j=0) (hs:∀k i j,i < n->j < n->M (k+1) i j=aK n λl=>A i l*(M k l j+if l=j then c k else 0)) (hy:∀t i,i < n->y (t+1) i=aK n λl=>A i l*y t l) (t:Nat):∀m i,i < n->aK n (λj=>M m i j*y t j)=aK m λs=>c (m - 1 - s)*y (t+s+1) i
 | 0,i,hi=>bZ λj hj=>by rw[h0 i j hi hj,cA]
 | m+1,i,hi=>by
  have e1:aK n (λj=>M (m+1) i j*y t j)=aK n (λj=>aK n λl=>A i l*(M m l j*y t j)+if l=j then c m*(A i l*y t l) else 0):=aA λj hj=>by
   rw[hs m i j hi hj,de,<- bW];refine aA λl _=>?_
   by_cases e:l=j
   ·rw[if_pos e,if_pos e,e];grind
   ·rw[if_neg e,if_neg e];grind
  rw[e1,fV]
  have e2:aK n (λl=>aK n λj=>A i l*(M m l j*y t j)+if l=j then c m*(A i l*y t l) else 0)=aK n (λl=>aK m (λs=>c (m - 1 - s)*(A i l*y (t+s+1) l))+c m*(A i l*y t l)):=aA λl hl=>by
   rw[gO,bW,Pt h0 hs hy t m l hl,eH (i:=l) hl λj _ ne=>if_neg λz=>ne z.symm,if_pos rfl,<- bW];congr 1;exact aA λs _=>by grind
  rw[e2,gO,bW,<- hy t i hi,fV]
  have e3:aK m (λs=>aK n λl=>c (m - 1 - s)*(A i l*y (t+s+1) l))=aK m λs=>c (m+1 - 1 - (1+s))*y (t+(1+s)+1) i:=aA λs _=>by
   rw[bW,<- hy (t+s+1) i hi,show m+1 - 1 - (1+s)=m - 1 - s by lia,show t+(1+s)+1=t+s+1+1 by lia]
  rw[e3,show m+1=1+m by lia,uC (a:=1) (b:=m)];show _=(0+c (1+m - 1 - 0)*y (t+0+1) i)+_
  rw[show 1+m - 1 - 0=m by lia,zC,uK,Rat.add_comm]
theorem Se (h0:∀i j,i < n->j < n->M 0 i j=0) (hs:∀k i j,i < n->j < n->M (k+1) i j=aK n λl=>A i l*(M k l j+if l=j then c k else 0)) (hy:∀t i,i < n->y (t+1) i=aK n λl=>A i l*y t l) (hc:c 0=1) (hn:∀i j,i < n->j < n->M n i j=if i=j then -(c n) else 0) (t i:Nat) (hi:i < n):y (t+n) i=aK n λs=>-(c (n - s))*y (t+s) i:=by
 have r:=Pt h0 hs hy t n i hi;rw[eH (i:=i) hi λj hj ne=>by rw[hn i j hi hj,if_neg λz=>ne z.symm,cA],hn i i hi hi,if_pos rfl] at r;obtain ⟨p,rfl⟩:∃p,n=p+1:=#[n - 1,()];have r:-(c (p+1))*y t i=aK p (λs=>c (p+1 - 1 - s)*y (t+s+1) i)+c (p+1 - 1 - p)*y (t+p+1) i:=r;rw[show p+1 - 1 - p=0 by lia,hc] at r
 have e:aK (p+1) (λs=>-(c (p+1 - s))*y (t+s) i)=-(c (p+1))*y t i+-1*aK p (λs=>c (p+1 - 1 - s)*y (t+s+1) i):=by
  rw[show p+1=1+p by lia,uC (a:=1) (b:=p),<- bW];show (0+-(c (1+p - 0))*y (t+0) i)+_=_
  rw[uK,Nat.sub_zero,zC];congr 1;exact aA λs _=>by rw[show 1+p - (1+s)=1+p - 1 - s by lia,show t+(1+s)=t+s+1 by lia];grind
 rw[e,r,show t+(p+1)=t+p+1 by lia];grind
end
def Ly:Sp:=λvs H Q _=>∃b,vs=[.ref b]/\kH H b/\∀r (n i o w:Nat) H',H' r=some (.tup [.int n,.int i,.int o,.int w])->n<=5->i<=4->o<=4->(w=4\/w=9\/(w=1000/\n<=2))->(n=5->i<=2/\o<=2)->kH H' b->dD b H H'->Q (.ref r) H'
theorem OJ {α:Type} {l:List α} (h:l.9=1):∃a,l=[a]:=by match l,h with | [a],_=>exact #[a,rfl]
theorem Md {α:Type} {l:List α} (h:l.9=2):∃a b,l=[a,b]:=by match l,h with | [a,b],_=>exact #[a,b,rfl]
theorem GD {α:Type} {l:List α} (h:l.9=3):∃a b c,l=[a,b,c]:=by match l,h with | [a,b,c],_=>exact #[a,b,c,rfl]
theorem BJ {α:Type} {l:List α} (h:l.9=4):∃a b c d,l=[a,b,c,d]:=by match l,h with | [a,b,c,d],_=>exact #[a,b,c,d,rfl]
theorem Px (n4:n<=4) (hT:T.9=n) (hw:∀l∈T,l.9=n) (hi:i < n) (hj:j < n):((jD T n n).1.getD j []).getD i 0=if i=j then -(jD T n n).2 else 0:=by
 have hn:n=1\/n=2\/n=3\/n=4:=()
 rcases hn with rfl | rfl | rfl | rfl
 ·obtain r|rfl:=OJ hT;obtain a|rfl:=OJ (hw r (by simp));rw[TK];obtain rfl:i=0:=()
  obtain rfl:j=0:=()
  simp
 ·obtain r|s|rfl:=Md hT;obtain a|b|rfl:=Md (hw r (by simp));obtain c|d|rfl:=Md (hw s (by simp));rw[TH];rcases (show i=0\/i=1 by lia) with rfl | rfl <;> rcases (show j=0\/j=1 by lia) with rfl | rfl <;> rfl
 ·obtain r|s|t|rfl:=GD hT;obtain a|b|c|rfl:=GD (hw r (by simp));obtain d|e|f|rfl:=GD (hw s (by simp));obtain g|h|k|rfl:=GD (hw t (by simp));rw[TB];rcases (show i=0\/i=1\/i=2 by lia) with rfl | rfl | rfl <;> rcases (show j=0\/j=1\/j=2 by lia) with rfl | rfl | rfl <;> rfl
 ·obtain r|s|t|u|rfl:=BJ hT;obtain a|b|c|d|rfl:=BJ (hw r (by simp));obtain e|f|g|h|rfl:=BJ (hw s (by simp));obtain k|l|m|o|rfl:=BJ (hw t (by simp));obtain p|q|v|w|rfl:=BJ (hw u (by simp));rw[Tv];rcases (show i=0\/i=1\/i=2\/i=3 by lia) with rfl | rfl | rfl | rfl <;> rcases (show j=0\/j=1\/j=2\/j=3 by lia) with rfl | rfl | rfl | rfl <;> rfl
def uO (mv:LR9):Int:=fD (mv.flatten.map nm)
def yJ (mv:LR9):List (List Int):=mv.map λxs=>dJ (xs.map nm) (uO mv)
def vK (mv:LR9) (n:Nat):List Rat:=((Yq n).map λk=>-(Pz (yJ mv) n (uO mv:Rat) (k+1))).reverse
section
variable {mv:LR9}
theorem FE:(yJ mv).9=mv.9:=af ..
theorem Nt (hw:∀xs∈mv,xs.9=n):∀l∈yJ mv,l.9=n:=λl hl=>by
 obtain xs|hx|rfl:=au.mp hl;unfold dJ;rw[af,af,hw xs hx]
theorem RK (hx:xs∈mv) (h:x∈xs):nm x∈mv.flatten.map nm:=au.mpr #[x,yI.mpr #[xs,hx,h],rfl]
theorem FD (hM:vH M (mv.flatten.map nm)):((((yJ mv).getD i []).getD l 0:Int):Rat)=aS mv i l*(uO mv:Rat):=by
 unfold aS yJ;rw[aa (l:=YO _ mv),aw,aa (l:=mv)];cases e:mv[i]? with
 | none =>
  show (((([]:List Int).getD l 0:Int)):Rat)=([]:List Rat).getD l 0*_
  rw[aa,aa];show ((0:Int):Rat)=0*_
  rw[cA];rfl
 | some xs =>
  show (((dJ (xs.map nm) (uO mv)).getD l 0:Int):Rat)=xs.getD l 0*_
  unfold dJ;rw[aa,aw,aw,aa];cases e2:xs[l]? with
  | none =>
   show ((0:Int):Rat)=0*_
   rw[cA];rfl
  | some x=>exact qM (oZ (RK (ai e) (ai e2)))
end
def FI (mv:LR9) (st:List Rat):Nat->List Rat
 | 0=>st
 | t+1=>mv.map λxs=>fX xs (FI mv st t)
section
variable {mv:LR9} {st:List Rat} {M:Int}
theorem vR (h:st.9=mv.9):∀t,(FI mv st t).9=mv.9
 | 0=>h
 | t+1=>af ..
theorem FA:(vK mv n).9=n:=by unfold vK;rw[Fw,af,aN]
theorem Qb (hi:i < n):(vK mv n).getD i 0=-(Pz (yJ mv) n (uO mv:Rat) (n - i)):=by
 unfold vK;rw[aa,List.getElem?_reverse (by rw[af,aN];exact hi),af,aN,aw,bI ()];show -(Pz _ _ _ (n - 1 - i+1))=_
 rw[show n - 1 - i+1=n - i by lia]
theorem Qk (hw:∀xs∈mv,xs.9=mv.9) (hl:st.9=mv.9) (hi:i < mv.9):(FI mv st (t+1)).getD i 0=aK mv.9 λl=>aS mv i l*(FI mv st t).getD l 0:=by
 show (mv.map λxs=>fX xs (FI mv st t)).getD i 0=_
 have e:=ae hi;have wi:=hw _ (az hi);rw[aa,aw,e];show fX mv[i] (FI mv st t)=_
 rw[iO (by rw[wi,vR hl]),wi];refine aA λl _=>?_
 unfold aS;rw[aa (l:=mv),e];rfl
theorem RB (n4:mv.9<=4) (hM:vH M (mv.flatten.map nm)) (hw:∀xs∈mv,xs.9=mv.9) (hl:st.9=mv.9) (t:Nat):VX ((Yq mv.9).map λi=>FI mv st (t+i)) (vK mv mv.9) mv.9=FI mv st (t+mv.9):=by
 have hB:(uO mv:Rat)≠0:=λz=>by have:=eQ.mp z;have:=hM.bot.1;unfold uO at *;lia
 have hT:=FE (mv:=mv);have hW:=Nt (mv:=mv) hw
 have eA:∀i l,(((yJ mv).getD i []).getD l 0:Rat) / (uO mv:Rat)=aS mv i l:=λi l=>by
  rw[FD hM,c6,xj,IB _ hB,ji]
 apply cz (by rw[vR hl];exact T4);intro c h1 h2;rw[vR hl] at h2;have g1:(VX ((Yq mv.9).map λi=>FI mv st (t+i)) (vK mv mv.9) mv.9).getD c 0=(VX ((Yq mv.9).map λi=>FI mv st (t+i)) (vK mv mv.9) mv.9)[c]:=by rw[aa,ae h1];rfl
 have g2:(FI mv st (t+mv.9)).getD c 0=(FI mv st (t+mv.9))[c]'(by rw[vR hl];exact h2):=by rw[aa,ae (by rw[vR hl];exact h2)];rfl
 rw[<- g1,<- g2,Ke h2,FA];have key:=Se (n:=mv.9) (A:=λi l=>(((yJ mv).getD i []).getD l 0:Rat) / (uO mv:Rat)) (M:=Py (yJ mv) mv.9 (uO mv:Rat)) (c:=Pz (yJ mv) mv.9 (uO mv:Rat)) (y:=λt i=>(FI mv st t).getD i 0) (λi j hi hj=>?_) (λk i j hi hj=>HM hB hT hW hi hj) (λt i hi=>?_) ?_ (λi j hi hj=>?_) t c h2
 ·rw[key];refine aA λs hs=>?_
  rw[Qb hs];congr 1;unfold aS;rw[aa (l:=YO _ _),aw,bI hs];rfl
 ·unfold Py
  have:((jD (yJ mv) mv.9 0).1.getD j []).getD i 0=0:=by
   show ((Mg mv.9 (Mg mv.9 (0:Int))).getD j []).getD i 0=0
   rw[aa (l:=Mg _ (Mg _ _)),eX,if_pos hj];show (Mg mv.9 (0:Int)).getD i 0=0
   rw[aa,eX,if_pos hi];rfl
  rw[this];show (0:Rat) / _=0
  rw[c6,cA]
 ·show (FI mv st (t+1)).getD i 0=_
  rw[Qk hw hl hi];exact aA λl _=>by rw[eA]
 ·unfold Pz;show ((1:Int):Rat) / _=1
  rw[Rat.pow_zero,show ((1:Int):Rat)=1 from rfl,c6];grind
 ·unfold Py Pz;rw[Px n4 hT hW hi hj];by_cases e:i=j
  ·rw[if_pos e,if_pos e,cO,c6,c6,Rat.neg_mul]
  ·rw[if_neg e,if_neg e];show (0:Rat) / _=0
   rw[c6,cA]
end
theorem Xo (a:Int):-(qZ 0 (jD [[a]] 1 1).1)=1*(jD [[a]] 1 1).2:=by
 rw[TK];simp only[qZ,bJ,bK];grind
theorem Xn (a b c d:Int):-(qZ 0 (jD [[a,b],[c,d]] 2 1).1)=1*(jD [[a,b],[c,d]] 2 1).2:=by
 rw[TJ];simp only[qZ,bJ,bK];grind
theorem Xm (a b c d:Int):-(qZ 0 (jD [[a,b],[c,d]] 2 2).1)=2*(jD [[a,b],[c,d]] 2 2).2:=by
 rw[TH];simp only[qZ,bJ,bK];grind
theorem Xg (a b c d e f g h i:Int):-(qZ 0 (jD [[a,b,c],[d,e,f],[g,h,i]] 3 1).1)=1*(jD [[a,b,c],[d,e,f],[g,h,i]] 3 1).2:=by
 rw[TF];simp only[qZ,bJ,bK];grind
theorem Xe (a b c d e f g h i:Int):-(qZ 0 (jD [[a,b,c],[d,e,f],[g,h,i]] 3 2).1)=2*(jD [[a,b,c],[d,e,f],[g,h,i]] 3 2).2:=by
 rw[TC];simp only[qZ,bJ,bK];grind
theorem Xc (a b c d e f g h i:Int):-(qZ 0 (jD [[a,b,c],[d,e,f],[g,h,i]] 3 3).1)=3*(jD [[a,b,c],[d,e,f],[g,h,i]] 3 3).2:=by
 rw[TB];simp only[qZ,bJ,bK];grind
theorem W8 (a b c d e f g h i j k l m n o p:Int):-(qZ 0 (jD [[a,b,c,d],[e,f,g,h],[i,j,k,l],[m,n,o,p]] 4 1).1)=1*(jD [[a,b,c,d],[e,f,g,h],[i,j,k,l],[m,n,o,p]] 4 1).2:=by
 rw[Tz];simp only[qZ,bJ,bK];grind
theorem W6 (a b c d e f g h i j k l m n o p:Int):-(qZ 0 (jD [[a,b,c,d],[e,f,g,h],[i,j,k,l],[m,n,o,p]] 4 2).1)=2*(jD [[a,b,c,d],[e,f,g,h],[i,j,k,l],[m,n,o,p]] 4 2).2:=by
 rw[Tx];simp only[qZ,bJ,bK];grind
theorem W5 (a b c d e f g h i j k l m n o p:Int):-(qZ 0 (jD [[a,b,c,d],[e,f,g,h],[i,j,k,l],[m,n,o,p]] 4 3).1)=3*(jD [[a,b,c,d],[e,f,g,h],[i,j,k,l],[m,n,o,p]] 4 3).2:=by
 rw[Tw];simp only[qZ,bJ,bK];grind
theorem W4 (a b c d e f g h i j k l m n o p:Int):-(qZ 0 (jD [[a,b,c,d],[e,f,g,h],[i,j,k,l],[m,n,o,p]] 4 4).1)=4*(jD [[a,b,c,d],[e,f,g,h],[i,j,k,l],[m,n,o,p]] 4 4).2:=by
 rw[Tv];simp only[qZ,bJ,bK];grind
theorem Nq (h:C.9=n):((qZ 0 C:Int):Rat)=aK n λi=>(((C.getD i []).getD i 0:Int):Rat):=by
 have key:∀(C:List (List Int)) (p:Nat),((qZ p C:Int):Rat)=aK C.9 λi=>(((C.getD i []).getD (p+i) 0:Int):Rat):=by
  intro C
  induction C with
  | nil=>intro p;rfl
  | cons c r ih =>
   intro p;show ((c.getD p 0+qZ (p+1) r:Int):Rat)=_
   rw[kE,ih (p+1),bL,show r.9+1=1+r.9 by lia,uC (a:=1) (b:=r.9)];congr 1
   ·show _=0+(((c.getD (p+0) 0:Int)):Rat)
    rw[uK,zC]
   ·refine aA λi _=>?_
    rw[show p+1+i=p+(1+i) by lia,show 1+i=i+1 by lia];rfl
 rw[key C 0,h];exact aA λi _=>by rw[jm]
theorem Pw (n4:n<=4) (hT:T.9=n) (hw:∀l∈T,l.9=n) (hk:k < n):-(qZ 0 (jD T n (k+1)).1)=((k:Int)+1)*(jD T n (k+1)).2:=by
 have hn:n=1\/n=2\/n=3\/n=4:=()
 rcases hn with rfl | rfl | rfl | rfl
 ·obtain r|rfl:=OJ hT;obtain a|rfl:=OJ (hw r (by simp));obtain rfl:k=0:=()
  exact Xo a
 ·obtain r|s|rfl:=Md hT;obtain a|b|rfl:=Md (hw r (by simp));obtain c|d|rfl:=Md (hw s (by simp));rcases (show k=0\/k=1 by lia) with rfl | rfl
  ·exact Xn a b c d
  ·exact Xm a b c d
 ·obtain r|s|t|rfl:=GD hT;obtain a|b|c|rfl:=GD (hw r (by simp));obtain d|e|f|rfl:=GD (hw s (by simp));obtain g|h|l|rfl:=GD (hw t (by simp));rcases (show k=0\/k=1\/k=2 by lia) with rfl | rfl | rfl
  ·exact Xg a b c d e f g h l
  ·exact Xe a b c d e f g h l
  ·exact Xc a b c d e f g h l
 ·obtain r|s|t|u|rfl:=BJ hT;obtain a|b|c|d|rfl:=BJ (hw r (by simp));obtain e|f|g|h|rfl:=BJ (hw s (by simp));obtain l|m|o|p|rfl:=BJ (hw t (by simp));obtain q|v|w|x|rfl:=BJ (hw u (by simp));rcases (show k=0\/k=1\/k=2\/k=3 by lia) with rfl | rfl | rfl | rfl
  ·exact W8 a b c d e f g h l m o p q v w x
  ·exact W6 a b c d e f g h l m o p q v w x
  ·exact W5 a b c d e f g h l m o p q v w x
  ·exact W4 a b c d e f g h l m o p q v w x
def mK (A:Nat->Nat->Rat) (n:Nat):Nat->(Nat->Nat->Rat)×Rat
 | 0=>(λ_ _=>0,1)
 | k+1=>(λi j=>aK n λl=>A i l*((mK A n k).1 l j+if l=j then (mK A n k).2 else 0),-(aK n λi=>aK n λl=>A i l*((mK A n k).1 l i+if l=i then (mK A n k).2 else 0)) / ((k+1:Nat):Rat))
section
variable {A A':Nat->Nat->Rat} {n:Nat}
theorem Pu {T:List (List Int)} {B:Rat} (hB:B≠0) (hT:T.9=n) (hw:∀l∈T,l.9=n) (ex:∀k,k < n->-(qZ 0 (jD T n (k+1)).1)=((k:Int)+1)*(jD T n (k+1)).2) (hA:∀i l,i < n->l < n->A i l=(((T.getD i []).getD l 0:Int):Rat) / B):∀k,k<=n->(∀i j,i < n->j < n->Py T n B k i j=(mK A n k).1 i j)/\Pz T n B k=(mK A n k).2
 | 0,_=>by
  refine #[λi j hi hj=>?_,?_]
  ·unfold Py
   have:((jD T n 0).1.getD j []).getD i 0=0:=by
    show ((Mg n (Mg n (0:Int))).getD j []).getD i 0=0
    rw[aa (l:=Mg _ (Mg _ _)),eX,if_pos hj];show (Mg n (0:Int)).getD i 0=0
    rw[aa,eX,if_pos hi];rfl
   rw[this];show (0:Rat) / _=0
   rw[c6,cA]
  ·unfold Pz;show ((1:Int):Rat) / _=1
   rw[Rat.pow_zero,show ((1:Int):Rat)=1 from rfl,c6];grind
 | k+1,hk=>by
  obtain h1|h2:=Pu hB hT hw ex hA k ()
  have e:∀i j,i < n->j < n->Py T n B (k+1) i j=(mK A n (k+1)).1 i j:=λi j hi hj=>by
   rw[HM hB hT hw hi hj];show _=aK n λl=>A i l*((mK A n k).1 l j+if l=j then (mK A n k).2 else 0)
   exact aA λl hl=>by rw[hA i l hi hl,h1 l j hl hj,h2]
  refine #[e,?_];show _=-(aK n λi=>(mK A n (k+1)).1 i i) / ((k+1:Nat):Rat)
  rw[<- aA λi hi=>e i i hi hi];have x:=congrArg (λz:Int=>(z:Rat)) (ex k ());have x:((-(qZ 0 (jD T n (k+1)).1):Int):Rat)=((((k:Int)+1)*(jD T n (k+1)).2:Int):Rat):=x;rw[cO,Nq (AS hT (k+1)).1,aL] at x;have kc:(((k:Int)+1:Int):Rat)=((k+1:Nat):Rat):=by rw[<- aJ];congr 1
  have k0:((k+1:Nat):Rat)≠0:=λz=>by
   have:(((k+1:Nat):Int):Rat)=0:=by rw[aJ];exact z
   have:=pS this
   lia
  rw[kc] at x;have hp:=Jb hB (k+1)
  have s:(aK n λi=>Py T n B (k+1) i i)=(B^(k+1))⁻¹*aK n λi=>((((jD T n (k+1)).1.getD i []).getD i 0:Int):Rat):=by
   rw[<- bW];refine aA λi _=>?_
   unfold Py;rw[c6,de]
  rw[s];unfold Pz;generalize (aK n λi=>((((jD T n (k+1)).1.getD i []).getD i 0:Int):Rat))=S at x ⊢;generalize ((k+1:Nat):Rat)=q at x k0 ⊢;rw[c6,c6];have:q*q⁻¹=1:=IB _ k0;grind
end
def P9 (A:Nat->Nat->Rat) (n:Nat):List Rat:=((Yq n).map λk=>-((mK A n (k+1)).2)).reverse
theorem Nu (hM:vH M (mv.flatten.map nm)):(((yJ mv).getD i []).getD l 0:Rat) / (uO mv:Rat)=aS mv i l:=by
 have hB:(uO mv:Rat)≠0:=λz=>by have:=eQ.mp z;have:=hM.bot.1;unfold uO at *;lia
 rw[FD hM,c6,xj,IB _ hB,ji]
theorem Sf (hM:vH M (mv.flatten.map nm)):(uO mv:Rat)≠0:=λz=>by have:=eQ.mp z;have:=hM.bot.1;unfold uO at *;lia
theorem Ni (n4:mv.9<=4) (hM:vH M (mv.flatten.map nm)) (hw:∀xs∈mv,xs.9=mv.9):vK mv mv.9=P9 (aS mv) mv.9:=by
 have hT:=FE (mv:=mv);have hW:=Nt (mv:=mv) hw;unfold vK P9;rw[cF λk hk=>by rw[(Pu (A:=aS mv) (Sf hM) hT hW (λk hk=>Pw n4 hT hW hk) (λi l _ _=>(Nu hM).symm) (k+1) (by have:=dh.mp hk;lia)).2]]
def mL (n:Nat) (ls:List Rat):LR9:=(Yq n).map λi=>if i+1=n then ls else (Yq n).map λj=>if j=i+1 then 1 else 0
theorem Tt (hl:ls.9=n):∀xs∈mL n ls,xs.9=n:=λxs hx=>by
 obtain i|_|rfl:=au.mp hx
 split
 ·exact hl
 ·rw[af,aN]
theorem jg:(mL n ls).9=n:=by unfold mL;rw[af,aN]
def fR (n:Nat) (f:Nat->Nat->Rat):LR9:=(Yq n).map λi=>(Yq n).map λj=>f i j
section
variable {f g:Nat->Nat->Rat}
theorem gN:(fR n f).9=n:=by unfold fR;rw[af,aN]
theorem KN:∀xs∈fR n f,xs.9=n:=λxs hx=>by obtain i|_|rfl:=au.mp hx;rw[af,aN]
theorem uk (h:i < n):(fR n f)[i]?=some ((Yq n).map λj=>f i j):=by unfold fR;rw[aw,bI h];rfl
theorem qQ {h:Nat->Rat} (hi:i < n):((Yq n).map h).getD i 0=h i:=by rw[aa,aw,bI hi];rfl
theorem uI (h:i < (fR n f).9):(fR n f)[i]=(Yq n).map λj=>f i j:=by
 have:=uk (f:=f) (n:=n) (i:=i) (by rw[gN] at h;exact h);rw[ae h] at this;exact bP this
theorem uj (h:∀i j,i < n->j < n->f i j=g i j):fR n f=fR n g:=by
 unfold fR;exact cF λi hi=>cF λj hj=>h i j (dh.mp hi) (dh.mp hj)
theorem Mm (hj:j < n):(fR n f).map (λxs=>xs.getD j 0)=(Yq n).map λl=>f l j:=by
 unfold fR;rw[gI];exact cF λi _=>qQ hj
theorem Ml {h:Nat->Nat->Nat->Rat} (hk:k < n) (hr:∀i j,i < n->j < n->h (k+1) i j=if i=k then (if j=k then h (k+1) k k else h k k j) else h k i j):(fR n (h k)).set k (((Yq n).map λj=>h k k j).set k (h (k+1) k k))=fR n (h (k+1)):=by
 apply cz (by rw[cS,gN,gN]);intro i h1 h2;have h2':=h2;rw[gN] at h2';rw[M8,uI h2];by_cases ei:k=i
 ·subst ei;rw[if_pos rfl];apply cz (by rw[cS,af,af]);intro j h3 h4;rw[af,aN] at h4;rw[M8,cK,cK,oC,hr k j h2' h4,if_pos rfl];by_cases ej:k=j
  ·rw[if_pos ej,if_pos ej.symm]
  ·rw[if_neg ej,if_neg λz=>ej z.symm]
 ·rw[if_neg ei,uI (by rw[gN];exact h2')];refine cF λj hj=>?_
  rw[hr i j h2' (dh.mp hj),if_neg λz=>ei z.symm]
theorem prodF (lm:mv.9=n) (hw:∀xs∈mv,xs.9=n):(mv.map λxs=>(Yq n).map λj=>fX xs ((Yq n).map λl=>g l j))=fR n λi j=>aK n λl=>aS mv i l*g l j:=by
 apply cz (by rw[af,gN,lm]);intro i h1 h2;have h2':=h2;rw[gN] at h2';have hi:i < mv.9:=()
 rw[cK,uI h2];refine cF λj _=>?_
 have wi:=hw _ (az hi);rw[iO (by rw[wi,af,aN]),wi];refine aA λl hl=>?_
 rw[qQ hl];congr 1;unfold aS;rw[aa (l:=mv),ae hi];rfl
end
section
variable {K:FG9} {H0 H:Hp}
theorem cC.updN (h:cC K H0 H qs x) (hl:H l=some (.lst ys)) (n:x≠V.ref l):cC K H0 (upd H l o) qs x:=by obtain q|rfl|b|c:=h;exact #[q,rfl,b,c.updL hl λz=>n (by rw[z])]
theorem vw {l:Addr} {zs:List V} {o:HO} (hl:H l=some (.lst zs)):∀{rows:LR9} {ys:List V},Yt (cC K H0 H) rows ys->V.ref l∉ys->Yt (cC K H0 (upd H l o)) rows ys
 | _,_,.nil,_=>.nil
 | _,_,.cons h t,n=>.cons (h.updN hl λz=>n (by rw[z];exact .head _)) (vw hl t λz=>n (.tail _ z))
theorem yy {q:Addr} {zs:List V} {o:HO} {row:List Rat} (hl:H q=some (.lst zs)) (hn:H0 q=none) (hr:df K (upd H q o) q row):∀{rows:LR9} {ys:List V} {j:Nat},Yt (cC K H0 H) rows ys->ys.Nodup->ys[j]?=some (.ref q)->Yt (cC K H0 (upd H q o)) (rows.set j row) ys
 | _,_,_,.nil,_,e=>by simp at e
 | _,_,0,.cons (l₂:=ys) h t,nd,e=>by
  have e:=bP e;obtain n1|n2:=cQ.mp nd;rw[e] at n1 ⊢;exact .cons #[q,rfl,hn,hr] (vw hl t n1)
 | _,_,j+1,.cons (l₂:=ys) h t,nd,e=>by
  obtain n1|n2:=cQ.mp nd;have e:ys[j]?=some (.ref q):=e;exact .cons (h.updN hl λz=>n1 (by rw[z];exact ai e)) (yy hl hn hr t n2 e)
end
section
variable {K:FG9} {g:TG}
theorem JO {F:Hp->α->V->Prop} (f:α->List Rat) (hx:H a=some (.lst xs)) (pf:Yt (F H) as xs) (hl:as.9<=1000)
  (hF:∀{H H' c x},F H c x->aE H H'->F H' c x)
  (hs:∀(i:Nat) c x H' NY NN,as[i]?=some c->aE H H'->F H' c x->(∀q H2,aE H' H2->H' q=none->df K H2 q (f c)->NY (.ref q) H2)->qN σ₀ g tf te x H' NY NN)
  (hd:∀ys H' p,H p=none->aE H H'->H' p=some (.lst ys)->ys.Nodup->Yt (cC K H H') (as.map f) ys->V.ref p∉ys->Q (.ref p) H'):qX (SD K a) σ₀ g tf te Q H:=by
 have lx:=pf.9;refine eP (K:=K) (xs:=xs) (λi ys H'=>aE H H'/\Yt (cC K H H') ((as.take i).map f) ys/\ys.Nodup/\∀y∈ys,∃q,y=V.ref q/\H' q≠none) ko #[aE.refl _,.nil,iH,(λ_ h=>nomatch h)] (λi ys H' _ #[s,_]=>br.of (s _ _ hx)) ?_ ?_
 ·rintro i x ys H' hx' hlen ⟨s,pr,nd,ne⟩;obtain c|ec|fc:=bO pf hx';refine hs i c x H' _ _ ec s (hF fc s) λq H2 s2 nq R=>#[s.trans s2,?_,?_,λy hy=>?_]
  ·rw[take_snoc ec,cR];exact bT (ce (λ_ _ z=>cC.same z s2) pr) (.cons #[q,rfl,s.none nq,R] .nil)
  ·refine d5.mpr #[nd,by simp,λa ha b hb z=>?_];rw[aU.mp hb] at z;obtain q'|e|h:=ne a ha;rw[z] at e;cases e;exact h nq
  ·rcases aB.mp hy with hy | hy
   ·obtain q'|e|h:=ne y hy;exact #[q',e,λz=>h (s2.none z)]
   ·obtain _|gg|_:=R;exact #[q,aU.mp hy,by rw[gg];exact λz=>nomatch z]
 ·rintro ys H' hy ⟨s,pr,nd,ne⟩ p hp;rw[aF ()] at pr;refine hd ys _ p (s.none hp) (s.trans (aE.new hp)) aD nd (ce (λ_ _ z=>cC.same z (aE.new hp)) pr) λz=>?_
  obtain q|e|h:=ne _ z;cases e;exact h hp
end
def Gk (A:Nat->Nat->Rat) (n:Nat):Nat->Nat->Nat->Rat
 | 0,_,_=>0
 | i+1,a,b=>(mK A n i).1 a b+if a=b then (mK A n i).2 else 0
theorem KQ {A:Nat->Nat->Rat} {n:Nat}:∀i a b,(aK n λl=>A a l*Gk A n i l b)=(mK A n i).1 a b
 | 0,a,b=>by
  show (aK n λl=>A a l*0)=0
  exact bZ λl _=>du _
 | i+1,a,b=>rfl
inductive Cz (K:FG9) (vs:List V) (H:Hp) (Q:VK) (E9:XK):Prop
 | mk (p q:Addr) (n:Nat) (H0 H1:Hp) (mv:LR9) (g:Nat->Nat->Rat):vs=[.ref p,.ref q]->bg K H0 H p mv->bg K H1 H q (fR n g)->mv.9=n->(∀xs∈mv,xs.9=n)->n<=8->(∀xs∈mv,∀j,j < n->yr xs ((Yq n).map λl=>g l j))->(∀r ys H',H r=none->aE H H'->H' r=some (.lst ys)->ys.Nodup->Yt (cC K H H') (fR n λi j=>aK n λl=>aS mv i l*g l j) ys->V.ref r∉ys->Q (.ref r) H')->Cz K vs H Q E9
theorem Rj:((0 - (nm x).1,(nm x).2):Int×Int)=nm (-x):=by
 unfold nm;rw[Rat.neg_num,Rat.neg_den,Int.zero_sub]
theorem Rm (h:(a,c)=nm x):((0 - a,c):Int×Int)=nm (-x):=by
 rw[<- Rj,<- h]
theorem Nk (i:Nat):(mK A n (i+1)).2*(((nm (aK n λa=>(mK A n (i+1)).1 a a)).2*((i+1:Nat):Int):Int):Rat)=((0 - (nm (aK n λa=>(mK A n (i+1)).1 a a)).1:Int):Rat):=by
 have e:(mK A n (i+1)).2=-(aK n λa=>(mK A n (i+1)).1 a a) / ((i+1:Nat):Rat):=rfl;have h:=qJ (aK n λa=>(mK A n (i+1)).1 a a)
 have k0:((i+1:Nat):Rat)≠0:=λz=>by
  have:(((i+1:Nat):Int):Rat)=0:=by rw[aJ];exact z
  have:=pS this
  lia
 rw[e,aL,Int.zero_sub,cO,h,aJ,c6];generalize (aK n λa=>(mK A n (i+1)).1 a a)=S;have:((i+1:Nat):Rat)⁻¹*((i+1:Nat):Rat)=1:=IC _ k0;grind
theorem CT {xs:List Rat} (h:xs.9=n):((Yq n).map λl=>xs.getD l 0)=xs:=by
 apply cz (by rw[af,aN,h]);intro i h1 h2;rw[cK,oC,aa,ae h2];rfl
theorem IK {n m:Nat} {f g:Nat->Rat}:W0 (λx y=>x+y) ((Yq n).map f) (((Yq n).map g).map λy=>w*y)=(Yq n).map λj=>f j+w*g j:=by
 rw[gI];apply cz (by rw[aT,af,af,af];lia);intro i h1 h2;rw[dn,cK,cK,cK];rfl
theorem T5:∀x∈jP n a,Fr 1 1 x:=λx hx=>by
 obtain i|_|rfl:=au.mp hx
 split
 ·exact Fr.one ()
 ·exact Fr.zero
theorem uA:(jP n a).9=n:=by unfold jP;rw[af,aN]
def kx (mv pt F:LR9):LR9:=fR mv.9 λa b=>aS mv a b+aK pt.9 λk=>aS pt k a*aS F k b
section
variable {mv pt lk F R:LR9} {n m:Nat} {ps:List Nat} {x:Nat->Rat} {st pu:List Rat}
theorem fw:(kx mv pt F).9=mv.9:=gN
theorem C7:∀xs∈kx mv pt F,xs.9=mv.9:=KN
theorem OU (hi:i < n) (hj:j < n):aS (fR n f) i j=f i j:=by
 unfold aS;rw[aa (l:=fR n f),uk hi];exact qQ hj
theorem E2 (ha:a < mv.9) (hb:b < mv.9):aS (kx mv pt F) a b=aS mv a b+aK pt.9 λk=>aS pt k a*aS F k b:=OU ha hb
theorem Sb (hw:∀xs∈mv,xs.9=mv.9) (lF:F.9=pt.9):W0 (λline more=>W0 (λx y=>x+y) line more) mv (ju (cx pt mv.9) F mv.9)=kx mv pt F:=by
 have l1:(ju (cx pt mv.9) F mv.9).9=mv.9:=by unfold ju;rw[af,eK]
 apply cz (by rw[aT,l1,fw,jZ]);intro a h1 h2;have ha:a < mv.9:=by rw[fw] at h2;exact h2
 rw[dn];unfold kx at h2 ⊢;rw[uI h2]
 have ea:(ju (cx pt mv.9) F mv.9)[a]'(by rw[l1];exact ha)=(cx F mv.9).map λys=>fX ys (pt.map λxs=>xs.getD a 0):=by
  have:(ju (cx pt mv.9) F mv.9)[a]?=some ((cx F mv.9).map λys=>fX ys (pt.map λxs=>xs.getD a 0)):=by
   unfold ju;rw[aw,sZ ha];rfl
  rw[ae (by rw[l1];exact ha)] at this;exact bP this
 rw[ea];have wa:=hw _ (az ha);apply cz (by rw[aT,af,af,eK,aN,wa,jZ]);intro b h3 h4;rw[af,aN] at h4;rw[dn,cK,cK,oC]
 have e1:mv[a][b]'(by rw[wa];exact h4)=aS mv a b:=by
  unfold aS;rw[aa (l:=mv),ae ha];show _=(mv[a]).getD b 0
  rw[aa,ae (by rw[wa];exact h4)];rfl
 have e2:(cx F mv.9)[b]'(by rw[eK];exact h4)=F.map λxs=>xs.getD b 0:=by
  have:=sZ (rows:=F) (n:=mv.9) h4;rw[ae (by rw[eK];exact h4)] at this;exact bP this
 rw[e1,e2,iO (by rw[af,af,lF]),af,lF];congr 1;exact aA λk _=>by rw[OB,OB];exact de _ _
theorem vS {a:Nat->Nat->Rat} {f:Nat->Nat->Rat} {w:Nat->Rat}:∀k,(∀i,i < k->dM m a (f i))->dM m a λc=>aK k λi=>w i*f i c
 | 0,_=>dM.zero λ_=>rfl
 | k+1,h=>by
  have:=dM.lin 1 (w k) (vS (w:=w) k λi hi=>h i ()) (h k ());exact this.congr λc=>by show _=aK k _+_;grind
end
theorem qL {M V i j:Nat} (h:GF M V rows):Fr M V (aS rows i j):=by
 unfold aS;rw[aa (l:=rows)];cases ei:rows[i]? with
 | none=>show Fr M V (([]:List Rat).getD j 0);exact Fr.zero
 | some xs =>
  show Fr M V (xs.getD j 0)
  rw[aa];cases ej:xs[j]? with
  | none=>exact Fr.zero
  | some y=>exact h xs (ai ei) y (ai ej)
theorem Uj {M V m:Nat} (h:∀k,k < m->Fr M V (f k)) (hm:m<=4):Fr M (4*V) (aK m f):=by
 have key:∀k,k<=m->Fr M (k*V) (aK k f):=by
  intro k
  induction k with
  | zero=>intro _;rw[Ln];exact Fr.zero
  | succ k ih =>
   intro hk;rw[dG];exact (ih ()).add (h k ())
 exact (key m (ah _)).mono (ax _ hm)
theorem Cl81.sysd (D:js mv pt lk):js (kx mv pt F) pt lk:=#[by rw[fw];exact D.n8,D.i4,D.o4,λxs hx=>by rw[fw];exact C7 xs hx,λxs hx=>by rw[fw];exact D.pw xs hx,λxs hx=>by rw[fw];exact D.lw xs hx]
inductive zV (K:FG9) (vs:List V) (H:Hp) (Q:VK) (E9:XK):Prop
 | mk (p q:Addr) (w:Nat) (H0 H1:Hp) (one other:LR9):vs=[.ref p,.ref q,.int w]->bg K H0 H p one->bg K H1 H q other->one.9<=1000->other.9<=1000->w<=1000->((∀xs∈one,xs.9=other.9/\∀ys∈cx other w,yr ys xs))->(∀xs∈other,xs.9=w)->(∀r H',H r=none->aE H H'->bg K H H' r (ju one other w)->Q (.ref r) H')->zV K vs H Q E9
inductive jO {α:Type}:Sem α->Prop
 | pure (a:α):jO (.pure a)
 | raise (e:Value):jO (.raise e)
 | uns (w:String):jO (.unsupported w)
 | rule {t:String} {k:Unit->Sem α} (h:∀u,jO (k u)):jO (.rule t k)
 | load {a:Addr} {p:Option Value} {k:Obj->Sem α} (h:∀o,jO (k o)):jO (.load a p k)
 | update {a:Addr} {p:Option Value} {f:Obj->Obj} {k:Unit->Sem α} (hf:∀o,(f o).dict=o.dict) (h:∀u,jO (k u)):jO (.update a p f k)
 | alloc {o:Obj} {k:Addr->Sem α} (h:∀a,jO (k a)):jO (.alloc o k)
 | alive {a:Addr} {k:Option Obj->Sem α} (h:∀o,jO (k o)):jO (.loadIfAlive a k)
 | stack {k:List (Code×Pos)->Sem α} (h:∀l,jO (k l)):jO (.stack k)
 | reg {a:Addr} {k:Unit->Sem α}:jO (.register a k)
 | ask {k:Setting->Sem α} (h:∀x,jO (k x)):jO (.ask k)
theorem jO.bind {m:Sem α} {f:α->Sem β} (hm:jO m) (hf:∀a,jO (f a)):jO (m >>= f):=by
 show jO (Sem.bind m f)
 induction hm with
 | pure a=>exact hf a
 | raise e=>exact .raise e
 | uns w=>exact .uns w
 | rule _ ih=>exact .rule λu=>ih u
 | load _ ih=>exact .load λu=>ih u
 | update hg _ ih=>exact .update hg λu=>ih u
 | alloc _ ih=>exact .alloc λu=>ih u
 | alive _ ih=>exact .alive λu=>ih u
 | stack _ ih=>exact .stack λu=>ih u
 | reg=>exact .reg
 | ask _ ih=>exact .ask λu=>ih u
def lZ (e:Addr) (d:Option Addr) (h:Heap):Prop:=e < h.objs.7/\∀o,h.objs[e]?=some o->o.dict=d
theorem lZ.of (q:h.get? e=some o):lZ e o.dict h:=by
 refine #[Yr q,λo' q'=>?_];unfold Heap.get? at q
 split at q
 ·cases q
 ·rw[q'] at q;cases q;rfl
theorem lZ.update (x:lZ e d h) (hf:∀o,(f o).dict=o.dict):lZ e d (h.update a f):=by
 obtain objs|l:=h;refine #[by show e < (objs.modify a f).7;rw[Array.size_modify];exact x.1,λo q=>?_];have q:(objs.modify a f)[e]?=some o:=q;rw[Array.getElem?_modify] at q
 split at q
 ·obtain o'|q'|rfl:=Option.map_eq_some_iff.mp q;rw[hf];exact x.2 o' q'
 ·exact x.2 o q
theorem lZ.push (x:lZ e d h):lZ e d (h.push o):=by
 obtain objs|l:=h;refine #[by show e < (objs.push o).7;rw[Array.size_push];exact Lo x.1,λo' q=>?_];have q:(objs.push o)[e]?=some o':=q;rw[Array.getElem?_push,if_neg (bR x.1)] at q;exact x.2 o' q
theorem Qa {t:Sem α} (ht:jO t) {Q:α->Pos->Yo->Prop}:∀{p:Pos} {s:Yo},Sem.wp M Γ t Q E p s->lZ e d s.8 →
  Sem.wp M Γ t (λa p s'=>Q a p s'/\lZ e d s'.8) (λv p s'=>E v p s'/\lZ e d s'.8) p s:=by
 induction ht with
 | pure a=>exact λh x=>#[h,x]
 | raise v=>exact λh x=>#[h,x]
 | uns w=>exact λh _=>h
 | reg=>exact λh _=>h
 | rule _ ih=>exact λh x=>ih .unit h x
 | load _ ih=>exact λ#[o,ho,h] x=>#[o,ho,ih o h x]
 | update hf _ ih=>exact λ#[ha,h] x=>#[ha,ih .unit h (x.update hf)]
 | alloc _ ih=>exact λh x=>ih _ h x.push
 | alive _ ih=>exact λh x=>ih _ h x
 | stack _ ih=>exact λh x=>ih _ h x
 | ask _ ih=>exact λh x=>ih _ h x
theorem rj {t:Sem α} (ht:jO t) {Q:α->Yo->Prop} (h:Yy M A t Q E s) (x:lZ e d s.8) :
  Yy M A t (λa s'=>Q a s'/\lZ e d s'.8) (λv s'=>E v s'/\lZ e d s'.8) s:=λΓ p hΓ=>Qa ht (h Γ p hΓ) x
theorem Pc (a:Addr) (p:Option Value):jO (Sem.load a p Sem.pure):=.load λo=>.pure o
theorem GS (v:Value):jO (fieldsOf v):=by
 unfold fieldsOf;cases v <;> try exact .uns _
 refine jO.bind (Pc _ _) λo=>?_
 cases o.data <;> first | exact .pure _ | exact .uns _
theorem wO (v:Value) (i:Nat):jO (field v i):=by
 unfold field;refine jO.bind (GS v) λvs=>?_
 split
 ·exact .pure _
 ·exact .uns _
theorem AG (f:Array Value->Array Value) (o:Obj):(o.mapFields f).dict=o.dict:=by
 obtain c|d|dt|sl:=o;cases dt <;> rfl
theorem uq (v:Value) (i:Nat) (x:Value):jO (setField v i x):=by
 unfold setField;cases v <;> try exact .uns _
 show jO (updateField _ i x)
 unfold updateField;refine jO.bind (Pc _ _) λo=>?_
 cases o.data <;> try exact .uns _
 dsimp only
 split
 ·exact .update (λo=>AG _ o) λu=>.pure u
 ·exact .uns _
theorem wN (e:Value) (f:Option Addr):jO (setFlight e f):=by
 unfold setFlight;refine jO.bind (wO e 1) λtb=>?_
 split
 ·exact uq _ _ _
 ·exact .pure _
theorem Mq (env:Env) (l:List Env):jO (behindIsImport env l):=by
 unfold behindIsImport
 split
 ·exact .pure _
 ·split
  ·exact .pure _
  ·exact jO.bind (wO _ _) λ_=>.pure _
theorem RQ (env:Env) (b:Bool):∀l:List Env,jO (keptBack env b l)
 | []=>by
  simp only[keptBack]
  split
  ·exact .pure _
  ·refine jO.bind ?_ λ_=>.pure _
   unfold underTheClaimsCaller;exact jO.bind (.stack λl=>.pure l) λ_=>.pure _
 | _ :: _=>.pure _
theorem GR:∀l:List Env,jO (readyFrames l)
 | []=>.pure _
 | env :: outer=>by
  unfold readyFrames
  split
  ·refine jO.bind (Pc _ _) λo=>?_
   split
   ·exact .pure _
   ·refine jO.bind (Mq _ _) λb=>jO.bind (RQ _ _ _) λv=>jO.bind (.update (λ_=>rfl) λu=>.pure u) λ_=>GR outer
  ·exact .uns _
theorem JC (env:Env):jO (PySem.frameOf env):=by
 unfold PySem.frameOf;refine jO.bind (jO.bind (.stack λl=>.pure l) λ_=>.pure _) λl=>jO.bind ?_ λo=>?_
 ·unfold frameObject
  split
  ·exact .pure _
  ·exact jO.bind (GR _) λ_=>.pure _
 ·cases o
  ·exact .uns _
  ·exact .pure _
theorem Pb (f:Addr) (b:Bool):jO (entryPlaceOf f b):=by
 unfold entryPlaceOf;refine jO.bind (.stack λl=>.pure l) λl=>?_
 split <;> exact .pure _
theorem Pd (a b c d e:Value) (l:List Value):jO (EntryCells.newEntry a b c d e l):=by
 unfold EntryCells.newEntry newFields;generalize ([a,b,c,d,e]++if l.isEmpty then Mg 6 Zb else l).5=vs;have fin:jO (newObjAsIs (.type "traceback") (.fields vs)):=jO.bind (.alloc λa=>.pure a) λ_=>.pure _
 unfold newObj
 dsimp only
 split
 ·exact jO.bind (.uns _) λ_=>fin
 ·exact fin
theorem K5 (e:Value) (env:Env):jO (noteFrame e env):=by
 unfold noteFrame
 split
 ·refine jO.bind (wO e 1) λh=>?_
  have last:∀f:Addr,jO (do setField e 1 (<- EntryCells.newEntry h (<- PySem.frameOf env) .none (ZG f) .none (<- entryPlaceOf f (h != .none)))):=λf =>
   jO.bind (JC env) λ_=>jO.bind (Pb _ _) λ_=>jO.bind (Pd _ _ _ _ _ _) λ_=>uq _ _ _
  split
  ·refine jO.bind (wO _ _) λv=>?_
   split
   ·exact .pure _
   ·exact jO.bind (uq _ _ _) λ_=>last _
  ·exact last _
 ·exact .uns _
theorem AW (env:Env) (e:Value):jO (leaving env e):=jO.bind (K5 e env) λ_=>wN e none
theorem iG.there (x:iG P w H h a o):∃u,h.get? a=some u:=by
 cases o with
 | lst xs=>obtain _|_|_|_|e:=x;exact #[_,e]
 | tup xs=>obtain _|_|_|o|e|_:=x;exact #[_,e]
 | dK kvs=>obtain _|_|_|_|o|_|_|e|_:=x;exact #[_,e]
 | dT kvs=>obtain _|_|_|_|o|_|_|e|_:=x;exact #[_,e]
 | set S n=>obtain o|_|_|_|e|_:=x;exact #[_,e]
 | ins C dx fs=>obtain _|_|_|e|_:=x;exact #[_,e]
 | own y=>exact x
 | xd fs=>obtain _|⟨_,_,_,e,_⟩|_:=x;exact #[_,e]
 | rng lo hi=>obtain _|_|_|e:=x;exact #[_,e]
 | frz ob u=>obtain e|_:=x;exact #[_,e]
 | tbl ps=>exact #[_,(show h.get? a=some _ from x)]
 | met f y=>exact #[_,(show h.get? a=some _ from x)]
 | ext φ=>exact x.2.1
section
variable {P:YS} {w:Y9} {fs:List Addr} {H H1 H2:Hp} {h0 h1 h2 B:Heap}
theorem Ju (U:Un fs [] H H1 h0 h1) (ok:xh P w H1 h1) (hB1:B.StaysIn h1) (hB2:B.StaysIn h2) (up:h1.UpToSlots h2)
  (c1:∀b u,H1 b=some u->∃o,B.get? b=some o) (c2:∀b o,h0.get? b=some o->b∉fs->∃o',B.get? b=some o')
  (hf:∀b∈fs,H b=none) (hd:∀b∈fs,∀o,h0.get? b=some o->∀vs,o.data≠.fields vs):Un fs [] H H1 h0 h2/\xh P w H1 h2:=by
 have same:∀b o,h1.get? b=some o->(∃o',B.get? b=some o')->h2.get? b=some o:=λb o e #[o',eb]=>by
  have z:=hB1 _ _ eb;rw[e] at z;cases z;exact hB2 _ _ eb
 have slot:∀b o,h0.get? b=some o->b∈fs->∃sl,h2.get? b=some { o with slots:=sl }:=λb o e hb=>by
  obtain sl|e1:=U.slot b o e (hf b hb) hb (by simp);obtain sl2|e2:=up b _ e1 (hd b hb o e);exact #[sl2,e2]
 refine #[#[λb o e n hb hx=>same b o (U.keep b o e n hb hx) (c2 b o e hb),λb o e n hb _=>slot b o e hb,U.free,λb o e hx=>?_,U.tups,U.frzs,U.tbls],λa o e=>?_]
 ·by_cases hb:b∈fs
  ·obtain sl|q:=slot b o e hb;exact #[_,q]
  ·obtain o'|q:=c2 b o e hb;exact #[o',hB2 _ _ q]
 ·refine (ok a o e).stay (λb u hb q=>same b u q ?_) (λ_ q=>q) λ_ _ q=>q
  rcases hb with z | z
  ·rw[z];exact c1 a o e
  ·exact c1 b _ z
theorem Un.inner {L:Addr} (a:Un fs [] H H1 h0 h1) (b:Un (L :: fs) [] H1 H2 h1 h2) (hL:h0.get? L=none):Un fs [] H H2 h0 h2 where
 keep:=λc o q n hc hx=>b.keep c o (a.keep c o q n hc hx) (a.free c o q n hx) (λz=>(ay.mp z).elim (λe=>by rw[e,hL] at q;cases q) hc) hx
 slot:=λc o q n hc hx=>by
  obtain sl|e1:=a.slot c o q n hc hx;obtain sl'|e2:=b.slot c _ e1 (a.free c o q n hx) (bS _ hc) hx;exact #[sl',e2]
 free:=λc o q n hx=>by
  obtain o'|e1:=a.there c o q hx;exact b.free c o' e1 (a.free c o q n hx) hx
 there:=λc o q hx=>by
  obtain o'|e1:=a.there c o q hx;exact b.there c o' e1 hx
 tups:=λc xs q=>b.tups c xs (a.tups c xs q)
 frzs:=λc o xs q=>b.frzs c o xs (a.frzs c o xs q)
 tbls:=λc ps q=>by
  obtain m1|e1:=a.tbls c ps q;obtain m2|e2:=b.tbls c _ e1;exact #[m1++m2,by rw[e2,Array.append_assoc]]
end
structure VM (P:YS) (w:Y9) (outer:List Env) (H:Hp) (s:Yo) (H':Hp) (ea t:Addr) (cls:Value) (B:Heap) (s':Yo):Prop where
 os:s'.os=s.os
 bare:AllBare s'.gens
 un:Un (wH outer) [] H H' s.heap s'.heap
 hok:xh P w H' s'.heap
 fly:ZF B outer ea cls (.ref t) s'.heap
 c1:∀b u,H' b=some u->∃o,B.get? b=some o
 c2:∀b o,s.heap.get? b=some o->b∉wH outer->∃o',B.get? b=some o'
structure Fly (P:YS) (w:Y9) (outer:List Env) (H:Hp) (s:Yo) (H':Hp) (ea t:Addr) (cls:Value) (dx:Option Addr) (B:Heap) (s':Yo):Prop extends VM P w outer H s H' ea t cls B s' where
 dct:lZ ea dx s'.8
def SG (P:YS) (w:Y9):Lm:=λouter H s E e s'=>∃ea t cls dx H' B,e=.ref ea/\Fly P w outer H s H' ea t cls dx B s'/\E cls dx H'
section
variable {K:FG9}
theorem GL (hf:env.frame=some L):wH (env :: outer)=L :: wH outer:=by unfold wH;rw[uz,hf]
theorem Oi:vI (SG P w) (yU (SG P w) P w K mg base N qual scope f cd A outer s H E) E:=by
 rintro pins σ H1 s1 e s' I ⟨ea,t,cls,dx,H',B,rfl,F,hE⟩;have hfr:(A.deeper (Zm qual scope s.heap.objs.size f cd)).frames=some (Zm qual scope s.heap.objs.size f cd :: outer):=I.ok.frames;have nL:∀b o,s.heap.get? b=some o->b≠s.6:=λb o q=>bR (Yr q)
 have hf:wH (Zm qual scope s.heap.objs.size f cd :: outer)=s.6 :: wH outer:=GL rfl;have un:Un (s.6 :: wH outer) [] H1 H' s1.heap s'.8:=hf ▸ F.un;have hU:Un (wH outer) [] H H1 s.heap s1.8:=I.base;have U1:Un (wH outer) [] H H' s.heap s'.8:=hU.inner un (Heap.get?_none_of_le (ah _));refine YX (rj (e:=ea) (d:=dx) (AW _ _) (wpAny_leaves_onW (E:=λ_ _=>False) (Q:=λ_ s2=>VM P w outer H s H' ea t cls B s2) hfr rfl F.fly λh2 x1 x2=>?_) F.dct) (λ_ s2 #[F0,dc]=>#[ea,t,cls,dx,H',B,rfl,#[F0,dc],hE]) (λ_ _ z=>z.1.elim)
 have c2:∀b o,s.heap.get? b=some o->b∉wH outer->∃o',B.get? b=some o':=λb o q hb=>by
  obtain o'|e:=I.base.there b o q (aH);refine F.c2 b o' e λz=>?_
  have z:b∈wH (Zm qual scope s.heap.objs.size f cd :: outer):=z;rw[hf] at z;rcases ay.mp z with z | z
  ·exact nL b o q z
  ·exact hb z
 obtain U2|ok2:=Ju U1 F.hok F.fly.1 x1.1 x2 F.c1 c2 I.ok.frf (λb hb o q=>by
  obtain _|o'|e'|d:=I.ok.funs.mem hb;have e':s.heap.get? b=some o':=e';rw[q] at e';cases e';exact d)
 exact #[F.os.trans I.os,F.bare,U2,ok2,x1,F.c1,c2]
end
abbrev xm:List Value:=[.type "ValueError",.type "Exception",.type "BaseException",.type "object"]
theorem RL {K:FG9} (X':K.In h) (hk:PySem.W.excIn K C xm "ValueError.__new__"=true) :
  ∃bm N nm q bs hdct sn sub ab col dd k0 k1 k2 k3 k5 mN,h.get? C=some (excClassObj nm q C N bs bm hdct sn sub ab col dd k0 k1 k2 k3 k5 "ValueError.__new__")/\h.Ns N mN/\mN "__init__"=none/\OwnTail h xm bm:=by
 unfold PySem.W.excIn at hk
 split at hk
 ·rename_i dd cd sl ho
  split at hk
  ·rename_i C' bm k0 k1 k2 k3 n k5 hm hs
   simp only[dW,beq_iff_eq,Bool.not_eq_true'] at hk;obtain ⟨⟨⟨⟨rfl,rfl⟩,hdel⟩,ht⟩,hok⟩|hni:=hk;obtain nm|bs|mro|ns|qn|hd'|sn|sub|ab|col|del:=cd
   dsimp only at hm hdel hok hni
   subst hm hdel
   have hsl:sl=[k0,k1,k2,k3,some (.builtin "ValueError.__new__"),k5].toArray:=by
    obtain ⟨l⟩:=sl;simp only at hs;rw[hs]
   subst hsl;exact #[bm,ns,nm,qn,bs,hd',sn,sub,ab,col,dd,k0,k1,k2,k3,k5,_,X' _ _ ho,.of_isNs (PySem.W.isNs_of_in X' hok),PySem.W.nsMap_none_of_in X' hok hni,PySem.W.tail_of_in X' ht]
  ·cases hk
 ·cases hk
abbrev Cx.tr (X:Cx) (pn:List (Addr×Obj)) (xe:Value->Yo->Prop):Cx:={ X with pn:=pn,xe:=xe }
abbrev Cx.sm (X:Cx) (ea:Addr):Cx:={ X with A:=X.A.mark (some (.ref ea)),calm:=false,xe:=λ_ _=>False }
section
variable {σ:St}
theorem Inv.tr (I:Inv X pins σ H s) (xe:Value->Yo->Prop):Inv (X.tr (X.pn++pins) xe) [] σ H s :=
 #[#[I.ok.mod,I.ok.kind,I.ok.glob,I.ok.blt,I.ok.above,I.ok.inj,I.ok.has,I.ok.cab,I.ok.hd,I.ok.frames,I.ok.stk,I.ok.exf,I.ok.bs,I.ok.bsz,I.ok.noex,I.ok.exfs,I.ok.funs,I.ok.frf],
  I.os,I.bare,I.base,I.loc,I.cell,I.free,I.freeC,λp hp=>I.pin p (by simpa using hp),I.hok,I.len]
theorem Inv.untr (I:Inv (X.tr (X.pn++pins) xe) ps σ H s):Inv X pins σ H s :=
 #[#[I.ok.mod,I.ok.kind,I.ok.glob,I.ok.blt,I.ok.above,I.ok.inj,I.ok.has,I.ok.cab,I.ok.hd,I.ok.frames,I.ok.stk,I.ok.exf,I.ok.bs,I.ok.bsz,I.ok.noex,I.ok.exfs,I.ok.funs,I.ok.frf],
  I.os,I.bare,I.base,I.loc,I.cell,I.free,I.freeC,λp hp=>I.pin p (mh _ hp),I.hok,I.len]
theorem Inv.sm (I:Inv X pins σ H s) (ea:Addr):Inv (X.sm ea) pins σ H s :=
 #[#[I.ok.mod,I.ok.kind,I.ok.glob,I.ok.blt,I.ok.above,I.ok.inj,I.ok.has,I.ok.cab,λz=>Bool.noConfusion z,I.ok.frames,I.ok.stk,I.ok.exf,I.ok.bs,I.ok.bsz,I.ok.noex,I.ok.exfs,I.ok.funs,I.ok.frf],
  I.os,I.bare,I.base,I.loc,I.cell,I.free,I.freeC,I.pin,I.hok,I.len]
end
def Lk (CX:Lm) (X:Cx) (E:St->XK):Prop:=∀(pins:List (Addr×Obj)) (σ:St) (H:Hp) (s:Yo) (e:Value) (s':Yo),Inv X pins σ H s->CX X.stack H s (E σ) e s'->X.xe e s'
def Ny (sp:Sp) (dvs:List V) (E:St->XK) (t:TA):TE:=λσ H Q=>t σ H λvs H1=>sp (vs++dvs) H1 Q (E σ)
section
variable {X:Cx} {CX:Lm} {k:Nat} {f C:Addr} {fd:Yn} {ps:List Str} {sp:Sp} {dvs:List V} {ds:List Value} {E:St->XK} {x n:Str} {p pos hpos np:Pos} {e:Expr} {es:List Expr} {t:TA}
theorem Oh (F:o7 X.prog X.w X.K X.mg X.base CX k f fd ps sp) (hr:kq k X.A) (hg:Gl X x) (hm:X.mg x=some (.ref f)) (hk:Zp X.K (.ref f)=true) (hb:Binds X.K fd ps ds) (hd:cX dvs ds) (hx:Lk CX X E)
  (ha:PA X (e :: es) t) (hdb:(x == ("__debug__":Str))=false:=by decide) (he:Yu (e :: es) X.env=(false,eval e X.env) :: Yu es X.env:=by rfl) (hpl:(ZK pos (Yu es X.env)).any (·.1)=false:=by rfl) :
  PE X (.Call (.Name x p) (e :: es) [] pos) (Ny sp dvs E t):=by
 intro pins s σ H Q I h;refine YU (uG I hg hm ?_ hdb);refine oB (h₀:=X.base) I.ok.mod.kin hk (ib (ha pos pins s σ H _ I h) λus s1 #[vs,H1,I1,r,q]=>#[I1.kIn,?_]) he hpl;have r2:cX (vs++dvs) (us++ds):=r.append hd;have hl:(us++ds).9=ps.9:=by rw[<- r2.9];exact F.len _ _ _ _ q
 refine wpAny_call (ZD (F.run X.A X.stack s1 H1 #[us,[]] (us++ds) (vs++dvs) Q (E σ) hr I1.env0 (hb s1 us I1.kIn hl) r2 q) λr s' hq=>?_);cases r with
 | error e=>exact hx pins σ H1 s1 e s' I1 hq
 | ok fl =>
  cases fl with
  | ret u=>exact I1.after hq
  | next=>exact YL hq
  | brk=>exact YL hq
  | cont=>exact YL hq
structure SA (X:Cx) (pins:List (Addr×Obj)) (σ:St) (H0:Hp) (s0:Yo) (H':Hp) (ea t:Addr) (cls:Value) (dx:Option Addr) (B:Heap) (s1:Yo):Prop where
 I:Inv X pins σ H0 s0
 F:Fly X.prog X.w X.stack H0 s0 H' ea t cls dx B s1
theorem SA.inv (L:SA X pins σ H0 s0 H' ea tt cls dx B s1) (fl:ZF B X.stack ea cls (.ref tt) h) (up:s1.heap.UpToSlots h):Inv X pins σ H' { s1 with heap:=h }:=by
 obtain U|ok:=Ju L.F.un L.F.hok L.F.fly.1 fl.1 up L.F.c1 L.F.c2 L.I.stkFree (λb hb o q=>by
  obtain _|o'|e'|d:=L.I.stack.mem hb;rw[q] at e';cases e';exact d)
 have os:s1.os=s0.os:=L.F.os;have bare:AllBare s1.gens:=L.F.bare;obtain hh|g|d|t|os':=s1
 dsimp only at os bare
 subst os;exact Inv.call (s:=s0) (h':=h) (g':=g) (d':=d) (t':=t) (ch:=[]) L.I U ok bare (λb z=>absurd z (by simp))
def HB (X:Cx) (hs:List ExceptHandler) (hr:Ends->St->Value->Option Addr->Hp->Prop):Prop :=
 ∀(pins:List (Addr×Obj)) (σ:St) (H0:Hp) (s0:Yo) (H':Hp) (ea tt:Addr) (cls:Value) (dx:Option Addr) (B:Heap) (s1:Yo) (h:Heap) (D:Ends),SA X pins σ H0 s0 H' ea tt cls dx B s1->ZF B X.stack ea cls (.ref tt) h->s1.heap.UpToSlots h->lZ ea dx h →
  hr D σ cls dx H'->Yy (model X.prog X.w) X.A (handleBy (.ref ea) X.env hs) (SP X pins D) X.xe { s1 with heap:=h }
def Uo (D:Ends):Ends:={ nx:=λ_ _=>False,rt:=D.rt }
def WU:Ends->St->Value->Option Addr->Hp->Prop:=λ_ _ _ _ _=>False
theorem Vg:HB X [] WU:=λ_ _ _ _ _ _ _ _ _ _ _ _ _ _ _ _ _ z=>YL z
def V3 (hr:Ends->St->Value->Option Addr->Hp->Prop) (tb:(St->XK)->TS):TS:=λD σ H=>tb (hr D) D σ H
theorem UP (hst:X.stack=X.env :: X.outer) (hfr:X.env.frame=some X.env.locals)
  (hb:∀pn xe E,Lk (SG X.prog X.w) (X.tr pn xe) E->Dm (X.tr pn xe) body (tb E)) (hh:HB X (h₀ :: hs) hr):PS X (.Try body (h₀ :: hs) [] [] pos) (V3 hr tb):=by
 intro pins s σ H D I h;refine wpAny_Try_except ?_;refine YX (hb (X.pn++pins) (λe s1=>∃σ' H0 s0 H' ea t cls dx B,e=.ref ea/\SA X pins σ' H0 s0 H' ea t cls dx B s1/\hr D σ' cls dx H') (hr D) ?_ [] s σ H D (I.tr _) h) (λf s1 hsp=>?_) (λe s1 hx=>?_)
 ·rintro ps σ' H1 s1 e s' J ⟨ea,t,cls,dx,H',B,rfl,F,hE⟩;exact #[σ',H1,s1,H',ea,t,cls,dx,B,rfl,#[J.untr,F],hE]
 ·cases f with
  | next=>obtain σ'|H'|J|q:=hsp;exact ZI #[σ',H',J.untr,q]
  | brk=>obtain σ'|H'|J|q:=hsp;exact #[σ',H',J.untr,q]
  | cont=>obtain σ'|H'|J|q:=hsp;exact #[σ',H',J.untr,q]
  | ret u=>obtain v|σ'|H'|J|r|q:=hsp;exact #[v,σ',H',J.untr,r,q]
 ·obtain σ'|H0|s0|H'|ea|t|cls|dx|B|rfl|L|hq:=hx;have hfrm:X.A.frames=some (X.env :: X.outer):=by rw[<- hst];exact L.I.ok.frames
  have fl:ZF B (X.env :: X.outer) ea cls (.ref t) s1.8:=by rw[<- hst];exact L.F.fly
  refine YX (rj (e:=ea) (d:=dx) (K5 _ _) (wpAny_looks_onW (E:=λ_ _=>False) (Q:=λ_ s2=>∃h4,s2={ s1 with heap:=h4 }/\Heap.HeldW B (X.env :: X.outer) ea cls (.ref t) X.env.locals h4/\s1.heap.UpToSlots h4) hfrm hfr fl λh4 held up4=>#[h4,rfl,held,up4]) L.F.dct) ?_ (λ_ _ z=>z.1.elim);rintro _ _ ⟨⟨h4,rfl,held,up4⟩,dc4⟩;refine YX (rj (e:=ea) (d:=dx) (wN _ _) (wpAny_landsW (E:=λ_ _=>False) (Q:=λ_ s2=>∃h5,s2={ s1 with heap:=h5 }/\ZF B (X.env :: X.outer) ea cls (.ref t) h5/\h4.UpToSlots h5) held λh5 fl5 up5=>#[h5,rfl,fl5,up5]) dc4) ?_ (λ_ _ z=>z.1.elim);rintro _ _ ⟨⟨h5,rfl,fl5,up5⟩,dc5⟩;exact hh pins σ' H0 s0 H' ea t cls dx B s1 h5 D L (by rw[hst];exact fl5) (up4.trans up5) dc5 hq
end
open PySem.W
structure ExC (K:Frag) (C:Addr):Prop where
 ga:findIn K (.ref C) "__getattribute__"=some (some (.builtin "BaseException.__getattribute__"))
 gt:findIn K (.ref C) "__getattr__"=some none
 mb:mroIn K C (.type "BaseException")=some true
 mo:mroIn K C (.type "object")=some true
 hd:hasDictIn K C=true
 ca:findIn K (.ref C) "__class__"=some (some (.builtin "object.__class__"))
 sg:specialIn K (.builtin "object.__class__") "__get__"=some (some (.builtin "getset_descriptor.__get__"))
 tk:takesIn K (.builtin "object.__class__")=some true
theorem Ob (h:t σ H λvs H1=>sp vs H1 Q (E σ)):Ny sp [] E t σ H Q:=by
 show t σ H λvs H1=>sp (vs++[]) H1 Q (E σ)
 simpa only [fK] using h
theorem Ut (h:tb (hr D) D σ H):V3 hr tb D σ H:=h
section
variable {P:YS} {w:Y9} {K:FG9} {mg:Str->Option Value} {base:Heap}
theorem Iq.okX {st:Stmt} {k:Nat} (F:Iq K x qual st f fd) (S:pU N ps (dz st)) (len:∀vs H Q E,sp vs H Q E->vs.9=ps.9)
  (hbody:∀(cdv:Value) (A:Y3) (outer:List Env) (s:Yo) (H:Hp) (vs:List V) (Q:VK) (E:XK),kq k (A.deeper (Zm qual (dz st) s.heap.objs.size f cdv))->sp vs H Q E →
   ∃t,Dm (yU (SG P w) P w K mg base N qual (dz st) f cdv A outer s H E) (iL st) t/\t { nx:=λ_ H'=>Q .non H',rt:=Q } (start N vs) H):o7 P w K mg base (SG P w) (k+1) f fd ps sp:=by
 obtain oc|od|kV|doc|pm|an|cdv|ct|osl|rfl|lk|hcd:=F.ex;exact Ti lk hcd S len λA outer s H vs Q E hr hsp=>hbody cdv A outer s H vs Q E hr hsp
theorem Iq.kX {x qual:Str} {st:Stmt} {f:Addr} {fd:Yn} {N ps:List Str} {k:Nat} {sp:Sp} (F:Iq K x qual st f fd) (S:pU N ps (dz st))
  (hbody:∀(cdv:Value) (A:Y3) (outer:List Env) (s:Yo) (H:Hp) (vs:List V) (Q:VK) (E:XK) (hr:kq k (A.deeper (Zm qual (dz st) s.heap.objs.size f cdv))) (h:sp vs H Q E),
   ∃t,Dm (yU (SG P w) P w K mg base N qual (dz st) f cdv A outer s H E) (iL st) t/\t { nx:=λ_ H'=>Q .non H',rt:=Q } (Uk N vs) H) (len:∀vs H Q E,sp vs H Q E->vs.9=ps.9:=by walk_at "n"):o7 P w K mg base (SG P w) (k+1) f fd ps sp :=
 F.okX S len λcdv A outer s H vs Q E hr h=>by
  rw[DD (ND S.pre (len _ _ _ _ h))];exact hbody cdv A outer s H vs Q E hr h
end
abbrev Df.oX {K:FG9} {mg:Str->Option Value} {x:Str} {st:Stmt} {ps:List Str} {f:Addr} {fd:Yn} (_:Df K mg x st ps f fd) (P:YS) (w:Y9) (base:Heap) (k:Nat) (sp:Sp):Prop:=o7 P w K mg base (SG P w) k f fd ps sp
def u0 (i0 i:Nat):Nat:=if i < i0 then i else i+1
theorem Cs {g:Nat->Rat} {i0:Nat}:∀{m:Nat},i0<=m->aK (m+1) g=aK m (λi=>g (u0 i0 i))+g i0
 | 0,h=>by
  have:i0=0:=()
  subst this;rfl
 | m+1,h=>by
  show aK (m+1) g+g (m+1)=aK m (λi=>g (u0 i0 i))+g (u0 i0 m)+g i0
  rcases aR m i0 with z | z
  ·have e:i0=m+1:=()
   subst e;have:aK m (λi=>g (u0 (m+1) i))=aK m g:=aA λj hj=>by unfold u0;rw[if_pos ()]
   rw[this,show u0 (m+1) m=m by unfold u0;rw[if_pos ()]];rfl
  ·rw[Cs (m:=m) z,show u0 i0 m=m+1 by unfold u0;rw[if_neg ()]];grind
theorem EG:∀(k n:Nat) (w:Nat->Nat->Rat),k < n->∃y:Nat->Rat,(∃i,i < n/\y i≠0)/\∀t,t < k->aK n (λi=>y i*w i t)=0
 | 0,n,w,h=>#[λ_=>1,#[0,h,()],λt ht=>absurd ht (cP _)]
 | k+1,0,w,h=>absurd h (cP _)
 | k+1,m+1,w,h=>by
  rcases Classical.em (∃i0,i0<=m/\w i0 k≠0) with ⟨i0,hi,h0⟩ | z
  ·obtain y|⟨i1,hi1,hy1⟩|hy:=EG k m (λi t=>w (u0 i0 i) t - w (u0 i0 i) k / w i0 k*w i0 t) ()
   have us:∀i,(if u0 i0 i < i0 then u0 i0 i else u0 i0 i - 1)=i:=λi=>by
    unfold u0
    split
    ·rfl
    ·rw[if_neg ()];lia
   have ne:∀i,u0 i0 i≠i0:=λi=>by unfold u0;split <;> lia
   let Y:Nat->Rat:=λj=>if j=i0 then -(aK m λi=>y i*(w (u0 i0 i) k / w i0 k)) else y (if j < i0 then j else j - 1)
   have Ys:∀i,Y (u0 i0 i)=y i:=λi=>by show (if _ then _ else _)=_;rw[if_neg (ne i),us i]
   have Y0:Y i0=-(aK m λi=>y i*(w (u0 i0 i) k / w i0 k)):=by show (if _ then _ else _)=_;rw[if_pos rfl]
   refine #[Y,#[u0 i0 i1,by unfold u0;split <;> lia,by rw[Ys];exact hy1],λt ht=>?_];rw[Cs hi,Y0]
   have e:aK m (λi=>Y (u0 i0 i)*w (u0 i0 i) t)=aK m (λi=>y i*(w (u0 i0 i) t - w (u0 i0 i) k / w i0 k*w i0 t))+aK m (λi=>w i0 t*(y i*(w (u0 i0 i) k / w i0 k))):=by
    rw[<- gO];refine aA λi _=>?_
    rw[Ys];grind
   rw[e,bW]
   have z:aK m (λi=>y i*(w (u0 i0 i) t - w (u0 i0 i) k / w i0 k*w i0 t))=0:=by
    rcases aR t k with q | q
    ·exact hy t q
    ·have:t=k:=()
     subst this;refine bZ λi _=>?_
     have:w (u0 i0 i) t / w i0 t*w i0 t=w (u0 i0 i) t:=ID h0;rw[this];grind
   rw[z];grind
  ·obtain y|a|b:=EG k (m+1) w ();refine #[y,a,λt ht=>?_];rcases aR t k with q | q
   ·exact b t q
   ·have:t=k:=()
    subst this;refine bZ λi hi=>?_
    have:w i t=0:=YM λq=>z #[i,(),q]
    rw[this];grind
theorem EH {a R:Nat->Nat->Rat} (h:k < n) (hs:∀i,i < n->dM k R (a i)):∃y:Nat->Rat,(∃i,i < n/\y i≠0)/\∀c,aK n (λi=>y i*a i c)=0:=by
 have hw:∀i,∃w:Nat->Rat,i < n->∀c,a i c=aK k λt=>w t*R t c:=λi=>by
  rcases aR i n with q | q
  ·obtain w|e:=hs i q;exact #[w,λ_=>e]
  ·exact #[λ_=>0,λz=>absurd z ()]
 obtain w|hw:=Classical.axiomOfChoice hw;obtain y|hy|h0:=EG k n w h;refine #[y,hy,λc=>?_]
 have:aK n (λi=>y i*a i c)=aK n (λi=>aK k λt=>y i*w i t*R t c):=aA λi hi=>by
  rw[hw i hi c,<- bW];exact aA λt _=>by grind
 rw[this,fV];refine bZ λt ht=>?_
 have:aK n (λi=>y i*w i t*R t c)=R t c*aK n (λi=>y i*w i t):=by
  rw[<- bW];exact aA λi _=>by grind
 rw[this,h0 t ht];grind
theorem vM (h:i < n):aS (cx rows n) i j=aS rows j i:=by
 unfold aS;rw[aa (l:=cx rows n),Qd h];simp only[jM,aa,aw];cases rows[j]? <;> simp
theorem zx (hw:∀xs∈rows,xs.9=n) (hc:n<=c):aS rows j c=0:=by
 unfold aS;rcases aR j rows.9 with q | q
 ·rw[aa (l:=rows),ae q];have:=hw _ (az q);simp only[jM];rw[aa,aG ()];rfl
 ·rw[aa (l:=rows),aG q];rfl
theorem Ou (RR:bX (cx rows n) rows.9 R ps) (hw:∀xs∈rows,xs.9=n) (ln:(cx rows n).9=n) (j c:Nat):aS rows j c=aK ps.9 λt=>aS R t j*aS rows (ps.getD t 0) c:=by
 rcases aR c n with q | q
 ·have:=RR.2.2.coef (RR.2.2.span c (by rw[ln];exact q)) j;rw[vM q] at this;rw[this];exact aA λt _=>by rw[vM q];grind
 ·rw[zx hw q];exact (bZ λt _=>by rw[zx hw q];grind).symm
theorem Ov (RR:bX (cx rows n) rows.9 R ps) (ln:(cx rows n).9=n) (ht:t < ps.9) (z:dM (ps.getD t 0) (aS rows) (aS rows (ps.getD t 0))):False:=by
 obtain w|hw:=z;obtain u|hu:=RR.2.2.back t ht;rw[ln] at hu
 have e1:aS R t (ps.getD t 0)=aK (ps.getD t 0) λi=>w i*aS R t i:=by
  rw[hu];have:∀i,w i*aS R t i=aK n λs=>w i*(u s*aS (cx rows n) s i):=λi=>by rw[hu i,<- bW]
  rw[aA λi _=>this i,fV];refine aA λs hs=>?_
  rw[vM hs,hw s,<- bW];exact aA λi _=>by rw[vM hs];grind
 rw[RR.2.2.unit t ht t ht,if_pos rfl,bZ λi hi=>by rw[RR.2.2.lead t ht i hi];grind] at e1;exact absurd e1 ()
section
variable {mv pt sts pus rows R Rk:LR9} {n m:Nat} {ps pk:List Nat} {a b:Nat->Nat->Rat} {x y:Nat->Rat}
theorem pI {f:Nat->Rat}:∀k,aK (k+1) f=f 0+aK k λi=>f (i+1)
 | 0=>by show (0:Rat)+f 0=f 0+0;grind
 | k+1=>by
  show aK (k+1) f+f (k+1)=f 0+(aK k (λi=>f (i+1))+f (k+1))
  rw[pI k];grind
theorem dM.base (h:∀t,t < m->∀c,a t c=b t c) (hx:dM m a x):dM m b x:=by
 obtain w|hw:=hx;exact #[w,λc=>by rw[hw c];exact aA λt ht=>by rw[h t ht c]]
theorem dM.wide (h:m<=m') (hx:dM m a x):dM m' a x:=dM.trans (b:=a) (m':=m) (λt ht=>dM.row ()) hx
structure Fs (mv pt sts pus:LR9):Prop where
 len:sts.9=pus.9+1
 wide:∀xs∈sts,xs.9=mv.9
 wpu:∀xs∈pus,xs.9=pt.9
 zero:∀c,aS sts 0 c=0
 step:∀j,j < pus.9->∀c,aS sts (j+1) c=aK mv.9 (λi=>aS mv c i*aS sts j i)+aK pt.9 λl=>aS pus j l*aS pt l c
 new:∀j,0 < j->j < sts.9->¬dM j (aS sts) (aS sts j)
theorem Ql (h:∀j,j < m->dM m a λc=>aK n λi=>aS mv c i*a j i) (hx:dM m a x):dM m a λc=>aK n λi=>aS mv c i*x i:=by
 obtain w|hw:=hx;have key:=vS (w:=w) (f:=λs c=>aK n λi=>aS mv c i*a s i) m h;refine key.congr λc=>?_
 have e:(aK n λj=>aS mv c j*x j)=aK n λj=>aK m λs=>w s*(aS mv c j*a s j):=aA λj _=>by
  rw[hw j,<- bW];exact aA λs _=>by grind
 rw[e,fV];exact aA λs hs=>by rw[bW]
theorem KE (wm:∀xs∈mv,xs.9=mv.9) (wp:∀xs∈pt,xs.9=mv.9) (hp:∀l,l < pt.9->dM m a (aS pt l)) (h:∀j,j < m->dM m a λc=>aK mv.9 λi=>aS mv c i*a j i):∀t i,i < (iX mv pt t).9->dM m a (aS (iX mv pt t) i)
 | 0,i,hi=>absurd hi (cP _)
 | t+1,i,hi=>by
  have wk:=jB (pt:=pt) (mv:=mv) rfl (λxs hx=>wp xs hx) t;refine uD (X:=pt) (Y:=(iX mv pt t).map (oS mv)) hp (λs hs=>?_) i hi;rw[af] at hs;exact (Ql h (KE wm wp hp h t s hs)).congr λc=>(CO rfl wm wk hs c).symm
theorem O0 (RR:bX (iX mv pt mv.9) mv.9 Rk pk) (full:pk.9=mv.9) (hk:m < mv.9) (h:∀i,i < (iX mv pt mv.9).9->dM m a (aS (iX mv pt mv.9) i)):False:=by
 have hs:∀i,i < mv.9->dM m a (aS Rk i):=λi hi=>dM.trans h (RR.2.2.back i (by rw[full];exact hi))
 obtain y|⟨i,hi,hy⟩|h0:=EH hk hs;refine hy ?_;have:=h0 i;rw[eH hi λj hj ne=>by rw[D4 RR full hj i,if_neg λz=>ne z.symm];grind,D4 RR full hi i,if_pos rfl] at this;grind
theorem Ry (wm:∀xs∈mv,xs.9=mv.9) (wp:∀xs∈pt,xs.9=mv.9) (KR:bX (iX mv pt mv.9) mv.9 Rk pk) (full:pk.9=mv.9) (C:Fs mv pt sts pus) (hk:pus.9 < mv.9) (hr:rows=sts++(oS mv (sts.getD pus.9 []) :: pt)) (RR:bX (cx rows mv.9) rows.9 R ps) (ln:(cx rows mv.9).9=mv.9):∃t,t < ps.9/\sts.9<=ps.getD t 0:=by
 refine YM λz=>?_
 have hz:∀t,t < ps.9->ps.getD t 0 < sts.9:=λt ht=>Nat.lt_of_not_le λq=>z #[t,ht,q]
 have lw:(sts.getD pus.9 []).9=mv.9:=by
  rw[aa,ae (by rw[C.len];lia)];exact C.wide _ (az _)
 have hw:∀xs∈rows,xs.9=mv.9:=λxs hx=>by
  rw[hr] at hx;rcases aB.mp hx with hx | hx
  ·exact C.wide xs hx
  ·rcases ay.mp hx with rfl | hx
   ·exact uf
   ·exact wp xs hx
 have A:∀j,dM sts.9 (aS sts) (aS rows j):=λj=>by
  refine (vS (w:=λt=>aS R t j) (f:=λt=>aS rows (ps.getD t 0)) ps.9 λt ht=>?_).congr λc=>(Ou RR hw ln j c).symm
  show dM _ _ (aS rows (ps.getD t 0))
  rw[hr,A5 (hz t ht)];exact dM.row (hz t ht)
 have e1:∀c,aS rows sts.9 c=aK mv.9 λi=>aS mv c i*aS sts pus.9 i:=λc=>by
  rw[hr,show sts.9=sts.9+0 from rfl,JR];exact CO (R:=[sts.getD pus.9 []]) (i:=0) rfl wm (λxs hx=>by rw[aU.mp hx];exact lw) Nat.one_pos c
 have P:∀l,l < pt.9->dM sts.9 (aS sts) (aS pt l):=λl hl=>by
  have:=A (sts.9+(l+1));rw[hr,JR] at this;exact this
 have Mv:∀j,j < sts.9->dM sts.9 (aS sts) λc=>aK mv.9 λi=>aS mv c i*aS sts j i:=λj hj=>by
  rcases aR j pus.9 with q | q
  ·have s1:dM sts.9 (aS sts) (aS sts (j+1)):=dM.row (by rw[C.len];lia);have s2:=vS (w:=λl=>aS pus j l) pt.9 P;refine (dM.lin 1 (-1) s1 s2).congr λc=>?_
   rw[C.step j q c];grind
  ·have:j=pus.9:=by have:=C.len;lia
   subst this;exact (A sts.9).congr e1
 have K:=KE wm wp P Mv mv.9;refine O0 (m:=pus.9) (a:=λt=>aS sts (t+1)) KR full hk λi hi=>?_
 obtain w|hw':=K i hi;refine #[λt=>w (t+1),λc=>?_];rw[hw' c,C.len,pI,C.zero];grind
theorem xV {x:List Rat}:aS (rows++[x]) rows.9=λc=>x.getD c 0:=by
 have:=JR (X:=rows) (Y:=[x]) (i:=0);rw[zC] at this;rw[this];rfl
theorem Pq (wm:∀xs∈mv,xs.9=mv.9) (wp:∀xs∈pt,xs.9=mv.9) (C:Fs mv pt sts pus) (hr:rows=sts++(oS mv (sts.getD pus.9 []) :: pt)) (RR:bX (cx rows mv.9) rows.9 R ps) (ln:(cx rows mv.9).9=mv.9)
 (ht:t0 < ps.9) (hf:sts.9<=ps.getD t0 0) (hmin:∀t,t < ps.9->sts.9<=ps.getD t 0->ps.getD t0 0<=ps.getD t 0) (lp:pu.9=pt.9) (ls:s'.9=mv.9)
  (hpu:(ps.getD t0 0=sts.9/\∀l,pu.getD l 0=0)\/∃l,l < pt.9/\ps.getD t0 0=sts.9+(1+l)/\∀l',pu.getD l' 0=if l'=l then 1 else 0)
  (hs:∀c,s'.getD c 0=aK mv.9 (λi=>aS mv c i*aS sts pus.9 i)+aK pt.9 λl=>pu.getD l 0*aS pt l c):Fs mv pt (sts++[s']) (pus++[pu]):=by
 have lw:(sts.getD pus.9 []).9=mv.9:=by
  rw[aa,ae (by rw[C.len];lia)];exact C.wide _ (az _)
 have hw:∀xs∈rows,xs.9=mv.9:=λxs hx=>by
  rw[hr] at hx;rcases aB.mp hx with hx | hx
  ·exact C.wide xs hx
  ·rcases ay.mp hx with rfl | hx
   ·exact uf
   ·exact wp xs hx
 have e1:∀c,aS rows sts.9 c=aK mv.9 λi=>aS mv c i*aS sts pus.9 i:=λc=>by
  rw[hr,show sts.9=sts.9+0 from rfl,JR];exact CO (R:=[sts.getD pus.9 []]) (i:=0) rfl wm (λxs hx=>by rw[aU.mp hx];exact lw) Nat.one_pos c
 have bs:∀t,t < sts.9->∀c,aS sts t c=aS rows t c:=λt h c=>by rw[hr,A5 h]
 have zp:0 < sts.9:=by rw[C.len];lia
 have lS:(sts++[s']).9=sts.9+1:=by simp
 refine #[by rw[lS,C.len,ao];rfl,λxs hx=>?_,λxs hx=>?_,λc=>by rw[A5 zp];exact C.zero c,λj hj c=>?_,λj j0 hj z=>?_]
 ·rcases aB.mp hx with hx | hx
  ·exact C.wide xs hx
  ·rw[aU.mp hx];exact ls
 ·rcases aB.mp hx with hx | hx
  ·exact C.wpu xs hx
  ·rw[aU.mp hx];exact lp
 ·rw[ao,aQ] at hj;rcases aR j pus.9 with q | q
  ·rw[A5 (by rw[C.len];lia),A5 (by rw[C.len];lia),A5 q];exact C.step j q c
  ·have:j=pus.9:=()
   subst this;rw[show pus.9+1=sts.9 from C.len.symm,xV,xV,A5 (by rw[C.len];lia)];exact hs c
 ·rw[lS] at hj;have tr:∀{j:Nat} {x:Nat->Rat},j<=sts.9->dM j (aS (sts++[s'])) x->dM j (aS sts) x:=λh=>dM.base λt ht c=>by rw[A5 ()]
  rcases aR j sts.9 with q | q
  ·have z:=tr () z;rw[A5 q] at z;exact C.new j j0 q z
  ·have:j=sts.9:=()
   subst this;have z:=tr (ah _) z;rw[xV] at z;have zr:dM sts.9 (aS rows) λc=>s'.getD c 0:=dM.base bs z
   rcases hpu with ⟨f0,p0⟩ | ⟨l,hl,f0,p0⟩
   ·refine Ov RR ln ht ?_;rw[f0];refine zr.congr λc=>?_
    rw[hs c,e1 c,bZ (f:=λl=>pu.getD l 0*aS pt l c) λl _=>by rw[p0 l];grind];grind
   ·have s1:dM sts.9 (aS rows) (aS rows sts.9):=by
     refine (vS (w:=λt=>aS R t sts.9) (f:=λt c=>if ps.getD t 0 < sts.9 then aS rows (ps.getD t 0) c else 0) ps.9 λt ht'=>?_).congr λc=>?_
     ·by_cases q:ps.getD t 0 < sts.9
      ·exact (dM.row (a:=aS rows) q).congr λc=>by rw[if_pos q]
      ·exact dM.zero λc=>by rw[if_neg q]
     ·rw[Ou RR hw ln];refine aA λt ht'=>?_
      by_cases q:ps.getD t 0 < sts.9
      ·rw[if_pos q]
      ·rw[if_neg q];have:=hmin t ht' ();rw[RR.2.2.lead t ht' sts.9 (by show sts.9 < ps.getD t 0;lia)];grind
    refine Ov RR ln ht ?_;have:=dM.wide (show sts.9<=ps.getD t0 0 from hf) (dM.lin 1 (-1) zr s1);refine this.congr λc=>?_
    rw[hs c,e1 c,f0,hr,JR,eH hl λj _ ne=>by rw[p0 j,if_neg ne];grind,p0 l,if_pos rfl,ij 1 l];show _=aS pt l c
    grind
theorem Lc (C:Fs mv pt sts pus) (h:∀c,aK pus.9 (λi=>y i*aS sts (i+1) c)=0):∀i,i < pus.9->y i=0:=by
 have key:∀k,k<=pus.9->(∀c,aK k (λi=>y i*aS sts (i+1) c)=0)->∀i,i < k->y i=0:=by
  intro k
  induction k with
  | zero=>exact λ_ _ i hi=>absurd hi (cP _)
  | succ k ih =>
   intro hk h i hi
   have yk:y k=0:=YM λne=>by
    refine C.new (k+1) (Nat.succ_pos _) (by rw[C.len];lia) #[λt=>if t=0 then 0 else -(y (t - 1)) / y k,λc=>?_];have:=h c;have e:aK (k+1) (λi=>y i*aS sts (i+1) c)=aK k (λi=>y i*aS sts (i+1) c)+y k*aS sts (k+1) c:=rfl;rw[e] at this;rw[pI,C.zero]
    have e2:(aK k λi=>(if i+1=0 then 0 else -(y (i+1 - 1)) / y k)*aS sts (i+1) c)=-1 / y k*aK k (λi=>y i*aS sts (i+1) c):=by
     rw[<- bW];refine aA λi _=>?_
     rw[if_neg (),IF];grind
    rw[e2];grind
   rcases aR i k with q | q
   ·refine ih () (λc=>?_) i q;have:=h c;have e:aK (k+1) (λi=>y i*aS sts (i+1) c)=aK k (λi=>y i*aS sts (i+1) c)+y k*aS sts (k+1) c:=rfl;rw[e,yk] at this;grind
   ·rw[show i=k by lia];exact yk
 exact key _ (ah _) h
theorem Pp (C:Fs mv pt sts pus) (ll:lines.9=pus.9) (hl:∀i,i < pus.9->∀c,c < mv.9->aS lines i c=aS sts (i+1) c) (RR:bX lines wide R ps):pus.9<=ps.9:=by
 refine M7 λz=>?_
 obtain y|⟨i,hi,hy⟩|h0:=EH z (a:=aS lines) λi hi=>RR.2.2.span i (by rw[ll];exact hi)
 refine hy (Lc C (y:=y) (λc=>?_) i hi);rcases aR c mv.9 with q | q
 ·rw[<- h0 c];exact aA λi hi=>by rw[hl i hi c q]
 ·exact bZ λi _=>by rw[zx C.wide q];grind
end
section
variable {K:Frag}
theorem F8 (self:Value):refuseLoop self "__setattr__" xm=pure .unit:=by kernel_rfl
theorem Q4 (X:K.In s.8) (I:InstAt s.heap a o C od) (hc:clsIn K C=some cd) (hl:cd.mro=l) (hr:refuseLoop (.ref a) "__setattr__" l=pure .unit) (hm:mroIn K C (.type "object")=some true)
  (ha:findIn K (.ref C) name=some none)
  (h:Yy (model prog w) A.in1 (Y5.ObjectAttr.storeInOwnDict (.ref a) (.ref C) (.str name tk) name v false) (λ(fin:Fin) s'=>match fin with | .done f=>R (.ok f) s' | .again c'=>c'.quiet=true/\Zy (model prog w) A c' R s') (λe s'=>R (.error e) s') s) :
  Zy (model prog w) A (.call (.builtin "object.__setattr__") #[[.ref a,.str name tk,v],[]]) R s:=by
 have SF:=PySem.F.store_object;have sub:ZA (model prog w) s.heap (isInstance (.ref a) (.type "object")) true:=I.type.andThen (looks_mroIn X hm);refine codeAny_call_builtin SF.slot.plain SF.entry (@check_slot (model prog w) _ _ s "object.__setattr__" "object" "__setattr__" (.ref a) [.str name tk,v] [] _ SF.kind SF.split sub (SF.args (.ref a) (.str name tk) v) ?_);have hmr:ZA (model prog w) s.heap (mroOf (.ref C)) cd.mro:=(looks_clsIn X hc).andThen .now;rw[osa_eq,refuse_eq];refine K0 (K0 (I.type.here (K0 (hmr.here ?_))));rw[hl,hr];refine Yp (K0 (I.type.here (K0 ((looks_findIn X ha).here ?_))));exact K0 (Yp h)
theorem Qp (X:K.In s.8) (I:InstAt s.heap a o C none) (hc:clsIn K C=some cd) (hl:cd.mro=l) (hr:refuseLoop (.ref a) "__setattr__" l=pure .unit) (hm:mroIn K C (.type "object")=some true)
  (hs:findIn K (.ref C) "__setattr__"=some (some (.builtin "object.__setattr__"))) (hd:hasDictIn K C=true) (ha:findIn K (.ref C) name=some none) (ho:o.data=.fields vs)
  (h:∀h',(∀b ob,b≠a->s.heap.get? b=some ob->h'.get? b=some ob)->h'.get? a=some { o with dict:=some s.6 }->h'.Ns1 s.heap.objs.size (λy=>if y=name then some v else none)->Q .unit { s with heap:=h',toks:=s.toks+2 }) :
  Yy (model prog w) A (setAttr (.ref a) name v) Q E s:=by
 refine set_plain X I hs (Q4 (s:={ s with toks:=s.toks+1 }) X I hc hl hr hm ha ?_);obtain cd'|hc'|hd':=any_some hd;rw[hc] at hc';cases hc';obtain hx|hcl|hn|hdd:=I;obtain oc|odi|oda|osl:=o
 dsimp only at hcl hdd ho
 subst hcl ho;obtain rfl:odi=none:=by cases odi with | none=>rfl | some _=>exact hdd.elim
 have hlt:a < s.6:=Yr hx;have kp:∀b ob,s.heap.get? b=some ob->(s.heap.push emptyDict).get? b=some ob:=λb ob q=>Ym _ q
 refine K0 (Yp ?_);have ne:(Yx C == Y6 "module")=false:=by rfl
 dsimp only
 rw[ne,if_neg aV];refine K0 ?_;show Yy _ _ (instanceDict a true) _ _ _
 unfold instanceDict;refine K0 (wpAny_loadPart hx (K0 (ZA.here (s:={ s with toks:=s.toks+1 }) (looks_clsIn X hc) ?_)))
 dsimp only
 rw[hd'];have hx1:(s.heap.push emptyDict).get? a=some { cls:=Yx C,data:=Data.fields vs,slots:=osl }:=kp _ _ hx;refine K0 (wpAny_alloc (K0 (wpAny_update hx1 ?_)));have hx2:((s.heap.push emptyDict).update a λo=>{ o with dict:=some s.6 }).get? a=some { cls:=Yx C,dict:=some s.6,data:=Data.fields vs,slots:=osl }:=Heap.get?_update_self _ hx1 rfl
 have hD:((s.heap.push emptyDict).update a λo=>{ o with dict:=some s.6 }).get? s.6=some emptyDict:=by
  rw[YJ _ _ (bR hlt)];exact Yw _ rfl
 have hN:((s.heap.push emptyDict).update a λo=>{ o with dict:=some s.6 }).Ns1 s.heap.objs.size (λ_=>none):=#[_,_,_,hD,rfl,(λy hy=>by simp at hy),(by unfold UniqKeys;simp),λ_=>rfl];refine Yp (K0 (Yp (K0 ?_)));refine wpAny_nsSet1 (s:={ s with heap:=(s.heap.push emptyDict).update a λo=>{ o with dict:=some s.6 },toks:=s.toks+1 }) hN λh' hn2 hs2=>?_
 obtain oD|esD|epD|hoD|hdD|hcD:=hn2.count (PySem.Within.cons name v (ns:=[]) (λ_ z=>absurd rfl z));refine K0 (wpAny_lookBehind hoD (by rw[hdD];exact pastItsLine_dict (ag hcD (by show 1<=YB+1;lia))) (Yp (h h' (λb ob n q=>?_) ((hs2.2 a (bR hlt)).trans hx2) hn2)));rw[hs2.2 b (bR (Yr q)),YJ _ _ (YI n)];exact kp b ob q
end
section
variable {prog:YS} {w:Y9} {A:Y3} {h:Heap} {g:Array GenState} {d:Drawn} {t:Nat} {os:OsState} {R:Result->Yo->Prop}
variable {nm q:Str} {C N f:Addr} {bs bm:List Value} {hdct:Bool} {sn:List Str} {sub:List Value} {ab:Bool} {col:Option Bool} {dd:Option Addr} {k0 k1 k2 k3 k5:Option Value}
abbrev iU (C t:Addr):Obj:={ cls:=.ref C,data:=.fields [.ref t,.none,.none,.none,.bool false,.none].toArray }
theorem MH (T:OwnTail h xm bm) (hC:h.get? C=some (excClassObj nm q C N bs bm hdct sn sub ab col dd k0 k1 k2 k3 k5 "ValueError.__new__"))
  (hi:ZA (model prog w) h (typeLookup (.ref C) "__init__") (some (.ref f))) (hb:∀self,ZA (model prog w) h (bindSpecial (.ref f) self) (.ref f,[self])) (hrest:rest.9<=YB)
  (hq:Zy (model prog w) (A.under (.builtin "type.__call__" #[.ref C :: rest,[]])) (.call (.ref f) #[.ref (h.objs.7+1) :: rest,[]]) (InitBack (h.objs.7+1) R) #[(h.push { cls:=.type "tuple",data:=.seq rest.5 }).push (iU C h.objs.7),g,d,t,os]) :
  Zy (model prog w) A (.call (.ref C) #[rest,[]]) R #[h,g,d,t,os]:=by
 have FV:=PySem.F.excBase_ValueError;have f1:=tc_lookup;have f2:=tc_bind (.ref C);have hT:(#[h,g,d,t,os]:Yo).TypeIs (.ref C) "type":=#[_,hC,rfl];refine codeAny_of_tree ?_;show Yy _ _ (callAny (.ref C) _) _ _ _
 (repeat (any_goals (first | assumption | with_reducible refine wpAny_loadPart_at hC ?_ | wp_step)))
 refine #[rfl,codeAny_call_builtin_at (Code.quiet_builtin _ (by decide +kernel)) entry_typeCall (wpAny_check_type_call_sub hC ?_)]
 (repeat (first | with_reducible refine wpAny_loadPart_at hC ?_ | with_reducible refine wpAny_madeBy_exc hC ?_ | wp_step))
 refine codeAny_call_builtin_code (Code.quiet_builtin _ FV.quiet) (wpAny_check_new_subT FV T hC (codeAny_exc_new_subT FV T hC ?_ hrest));have kp:∀b ob,h.get? b=some ob->((h.push { cls:=.type "tuple",data:=.seq rest.5 }).push (iU C h.objs.7)).get? b=some ob:=λb ob z=>Ym _ (Ym _ z)
 have hC1:=kp _ _ hC;have hg1:((h.push { cls:=.type "tuple",data:=.seq rest.5 }).push (iU C h.objs.7)).get? (h.objs.7+1)=some (iU C h.objs.7):=by heap_get
 have hcC:(Yx C :: bm).contains (.ref C)=true:=by simp
 show Yy _ _ _ _ _ _
 have t1:ZA (model prog w) ((h.push { cls:=.type "tuple",data:=.seq rest.5 }).push (iU C h.objs.7)) (typeOf (.ref (h.objs.7+1))) (.ref C):=(ZA.ld hg1).andThen .now
 have sb:ZA (model prog w) ((h.push { cls:=.type "tuple",data:=.seq rest.5 }).push (iU C h.objs.7)) (isSubtype (.ref C) (.ref C)) true:=λA' Q' E' s' k z=>by
  obtain h'|g'|d'|t'|os':=s';exact wpAny_isSubtype_exc (k _ _ hC1) (by rw[hcC];exact z)
 have LI:ZA (model prog w) ((h.push { cls:=.type "tuple",data:=.seq rest.5 }).push (iU C h.objs.7)) (isInstance (.ref (h.objs.7+1)) (.ref C)) true:=t1.andThen sb;refine K0 (ZA.at LI ?_);rw[if_neg (by simp)];unfold callSpecial? specialOf;refine K0 (Zc (K0 (K0 (ZA.at t1 (ZA.at (hi.keeps kp) ?_)))))
 dsimp only
 refine Zc (K0 (ZA.at ((hb _).keeps kp) ?_))
 dsimp only
 refine K0 (wpAny_call (ZD hq λr s' z=>?_));rcases r with e | (v | _ | _ | _) <;> first | exact z | exact z.elim | skip
 obtain rfl|z:=z;exact Yp (Yp z)
end
def Jx (a:Addr) (cls:Value) (dx:Option Addr):HO:=.ext λh=>∃o vs t,h.get? a=some o/\o.cls=cls/\o.data=.fields vs/\o.dict=dx/\vs[0]?=some (.ref t)/\vs[1]?=some .none
theorem O6 (e:h.get? a=some o) (c:o.cls=cls) (d:o.data=.fields vs) (x:o.dict=dx) (v0:vs[0]?=some (.ref t)) (v1:vs[1]?=some .none) :
  iG P w H h a (Jx a cls dx):=#[#[o,vs,t,e,c,d,x,v0,v1],#[o,e],λh1 h2 #[o,vs,t,q,r] k=>#[o,vs,t,k o q,r]]
structure VS (K:Frag) (C S:Addr):Prop where
 lk:∃dd cd k0 k1 k2 k3 k5,K.lookup C=some #[.type "type",dd,.cls cd,[k0,k1,k2,k3,some (.builtin "ValueError.__new__"),k5].toArray]/\cd.mro=.ref C :: .ref S :: xm/\cd.hasDel=false
 exS:excIn K S xm "ValueError.__new__"=true
 sa:findIn K (.ref C) "__setattr__"=some (some (.builtin "object.__setattr__"))
 xc:ExC K C
theorem VS.at {K:Frag} (e:VS K C S) (X:K.In h):∃N nm q bs hdct sn sub ab col dd k0 k1 k2 k3 k5 cd,h.get? C=some (excClassObj nm q C N bs (.ref S :: xm) hdct sn sub ab col dd k0 k1 k2 k3 k5 "ValueError.__new__")/\OwnTail h xm (.ref S :: xm)/\clsIn K C=some cd/\cd.mro=.ref C :: .ref S :: xm:=by
 obtain dd|cd|k0|k1|k2|k3|k5|lk|hm|hdl:=e.lk;obtain nm|bs|mro|ns|qn|hd|sn|sub|ab|col|del:=cd
 dsimp only at hm hdl
 subst hm hdl;obtain tl|N|nm'|q'|bs'|hdct'|sn'|sub'|ab'|col'|dd'|j0|j1|j2|j3|j5|mN|hS|hN|hni|T:=RL X e.exS;exact #[ns,nm,qn,bs,hd,sn,sub,ab,col,dd,k0,k1,k2,k3,k5,_,X _ _ lk,.own hS hN hni .base,by unfold clsIn;rw[lk],rfl]
section
variable {X:Cx} {pins:List (Addr×Obj)} {σ:St} {H:Hp} {s:Yo}
def SV (K:Frag) (ta tv:TE) (f:Str):TS:=λD σ H=>tv σ H λy H1=>ta σ H1 λx H2=>∃a C S,x=.ref a/\H2 a=some (Jx a (.ref C) none)/\VS K C S/\findIn K (.ref C) f=some none /\
 ∀dx,H2 dx=none->dx≠a->D.nx σ (upd (upd H2 dx (.xd [(f,y)])) a (Jx a (.ref C) (some dx)))
theorem QW (ha:PE X o ta) (hv:PE X value tv) (hs:swapsWith value (some (.Attribute o f pos')) pos.line X.env=pure false):PS X (.Assign [.Attribute o f pos'] value pos) (SV X.K ta tv f):=by
 intro pins s σ H D I h;refine plainObj_wpAny_Assign_Attribute (ib (hv pins s σ H _ I h) λu s1 #[y,H1,I1,ry,q]=>ib (ha pins s1 σ H1 _ I1 q) λov s2 #[x,H2,I2,rx,a,C,S,ex,ea,xi,na,q2]=>?_) hs;subst ex;cases rx;obtain ⟨ob,vs,t,g0,oc,od,odd,v0,v1⟩|_:=(show iG X.prog X.w H2 s2.heap a (Jx a (.ref C) none) from I2.hok a _ ea);obtain N|nm|qn|bs|hdct|sn|sub|ab|col|dd|k0|k1|k2|k3|k5|cd|hC|T|hc|hm:=xi.at I2.kIn
 have J:InstAt s2.heap a ob C none:=by
  obtain c1|d1|e1|l1:=ob
  dsimp only at oc od odd
  subst oc od odd;exact #[g0,rfl,rfl,trivial]
 have alt:a < s2.6:=Yr g0;have hn:H2 s2.6=none:=I2.hok.fresh (ah _);have nea:s2.6≠a:=YI (bR alt);refine Qp I2.kIn J hc hm (by rw[refuseLoop_ref,refuseLoop_ref];exact F8 _) xi.xc.mo xi.sa xi.xc.hd na od λh' kp g1 ns=>?_
 have kept:∀b ub,H2 b=none->s2.heap.get? b=some ub->h'.get? b=some ub:=λb ub n z=>kp b ub (λe=>by rw[e,ea] at n;cases n) z
 have nu:∀b ub,s2.heap.get? b=some ub->H2 b=none->upd (upd H2 s2.heap.objs.size (.xd [(f,y)])) a (Jx a (.ref C) (some s2.6)) b=none:=λb ub z n=>by
  rw[aY (λe=>by rw[e,ea] at n;cases n),aY (bR (Yr z))];exact n
 have old:∀b u',H2 b=some u'->b≠a->upd (upd H2 s2.heap.objs.size (.xd [(f,y)])) a (Jx a (.ref C) (some s2.6)) b=some u':=λb u' z n=>by
  rw[aY n,aY (λe=>by rw[e,hn] at z;cases z)];exact z
 have nat:∀b xs,H2 b=some (.tup xs)->b≠a:=λb xs z e=>by rw[e,ea] at z;cases z
 refine #[σ,_,I2.un (t':=s2.toks+2) #[λb ub z n _ _=>kept b ub n z,λb ub z n _ _=>#[ub.slots,kept b ub n z],λb ub z n _=>nu b ub z n,λb ub z _=>?_,λb xs z=>old b _ z (nat b xs z),λb ub u' z=>old b _ z (λe=>by rw[e,ea] at z;cases z),λb ps z=>#[[].toArray,by rw[old b _ z (λe=>by rw[e,ea] at z;cases z)];simp]] (λb u' z=>?_),q2 _ hn nea]
 ·by_cases e:b=a
  ·subst e;exact #[_,g1]
  ·exact #[ub,kp b ub e z]
 ·by_cases e:b=a
  ·subst e;rw[aD] at z;cases z;exact O6 g1 oc od rfl v0 v1
  ·rw[aY e] at z;by_cases e2:b=s2.6
   ·subst e2;rw[aD] at z;cases z;refine #[_,ns,λgn=>?_];show Bf (Zk gn [(f,y)]) (if gn=f then some u else none)
    by_cases q:gn=f
    ·subst q;rw[if_pos rfl];simp only[Zk,beq_self_eq_true];exact ry
    ·rw[if_neg q];have hb:(gn == f)=false:=beq_eq_false_iff_ne.mpr q;simp only[Zk,hb];exact ZM
   ·rw[aY e2] at z
    have ne2:∀c,(c=b\/H2 c=some (.own b))->c≠a:=λc hcc=>by
     rcases hcc with rfl | hcc
     ·exact e
     ·intro z2;rw[z2,ea] at hcc;cases hcc
    exact (I2.hok b u' z).stay (λc ub hcc q=>kp c ub (ne2 c hcc) q) (λc q=>old c _ q (ne2 c (.inr q))) λc xs q=>old c _ q (nat c xs q)
def Nw (C:Addr) (sp:Sp) (t:TA):TE:=λσ H Q=>t σ H λvs H1=>∀e,H1 e=none->sp (.ref e :: vs) (upd H1 e (Jx e (.ref C) none)) (λv H2=>v=.non/\Q (.ref e) H2) E0
theorem Inv.newExc (hex:X.ex=[]) (I:Inv X pins σ H s) {rest:List Value}:H (s.6+1)=none /\
  Inv X pins σ (upd H (s.6+1) (Jx (s.6+1) (.ref C) none)) { s with heap:=(s.heap.push { cls:=.type "tuple",data:=.seq rest.5 }).push (iU C s.6) }:=by
 have hn:H (s.6+1)=none:=I.hok.fresh (Dn _);have I1:=I.kept (t':=s.toks) (h':=s.heap.push { cls:=.type "tuple",data:=.seq rest.5 }) λb u q=>Ym _ q
 have e2:((s.heap.push { cls:=.type "tuple",data:=.seq rest.5 }).push (iU C s.6)).get? (s.6+1)=some (iU C s.6):=by heap_get
 exact #[hn,I1.laid (a:=s.6+1) (o:=Jx (s.6+1) (.ref C) none) (t':=s.toks) (λb u q=>Ym _ q) (Lp (YT _ _)) (O6 e2 rfl rfl rfl rfl rfl)]
theorem Og {k:Nat} {C S f:Addr} {fd:Yn} {ps:List Str} {sp:Sp} {x:Str} {e:Expr} {es:List Expr} {t:TA} {p pos:Pos} (hex:X.ex=[]) (xi:VS X.K C S) (hi:findIn X.K (.ref C) "__init__"=some (some (.ref f))) (hf:typeIn X.K (.ref f)=some (.type "function")) (kp:keepIn X.K (.ref C)=true)
  (F:o7 X.prog X.w X.K X.mg X.base Kc k f fd ps sp) (hr:kq (k+1) X.A) (hg:Gl X x) (hm:X.mg x=some (.ref C)) (hb:Binds X.K fd ps []) (ha:PA X (e :: es) t) (hps:Nat.ble ps.9 1000=true:=by rfl)
  (hdb:(x == ("__debug__":Str))=false:=by decide) (he:Yu (e :: es) X.env=(false,eval e X.env) :: Yu es X.env:=by rfl) (hpl:(ZK pos (Yu es X.env)).any (·.1)=false:=by rfl) :
  PE X (.Call (.Name x p) (e :: es) [] pos) (Nw C sp t):=by
 intro pins s σ H Q I h;refine YU (uG I hg hm ?_ hdb);refine oB (h₀:=X.base) I.ok.mod.kin kp (ib (ha pos pins s σ H _ I h) λus s1 #[vs,H1,I1,r,q]=>#[I1.kIn,?_]) he hpl;obtain N|nm|qn|bs|hdct|sn|sub|ab|col|dd|k0|k1|k2|k3|k5|cd|hC|T|hc|hmro:=xi.at I1.kIn;obtain hn|I2:=I1.newExc hex (C:=C) (rest:=us);have hq:=q _ hn;have r2:cX (V.ref (s1.6+1) :: vs) (Yx (s1.6+1) :: us):=.cons rfl r
 have hlen:(Yx (s1.6+1) :: us++[]).9=ps.9:=by
  rw[fK];have e':=r2.9;rw[F.len _ _ _ _ hq] at e';exact e'.symm
 have small:us.9<=YB:=by
  have e':=r2.9;rw[F.len _ _ _ _ hq,bL] at e';have:=Nat.le_of_ble_eq_true hps;have z:(1000:Nat)<=YB:=by rw[sizeLine_eq];decide
  lia
 have bd:=hb _ (Yx (s1.6+1) :: us) I2.kIn hlen;rw[fK] at bd
 refine wpAny_call (MH (h:=s1.8) (g:=s1.gens) (d:=s1.drawn) (t:=s1.toks) (os:=s1.os) T hC (looks_findIn I1.kIn hi) (λself=>bind_fn I1.kIn self hf) small (ZD (F.run _ X.stack _ _ #[Yx (s1.6+1) :: us,[]] (Yx (s1.6+1) :: us) _ _ E0 (hr.make C us [])
  (I2.env0.make C us []) bd r2 hq) λr' s' hq'=>?_))
 cases r' with
 | error z=>exact hq'.elim
 | ok fl =>
  cases fl with
  | ret u =>
   obtain v|H'|I3|rv|ev|q3:=I2.after hq';subst ev;exact #[rv,#[V.ref (s1.6+1),H',I3,rfl,q3]]
  | next=>exact YL hq'
  | brk=>exact YL hq'
  | cont=>exact YL hq'
def yR (H:Hp) (a:Addr):Hp:=λb=>if b=a then none else H b
theorem ui (h:b≠a):yR H a b=H b:=by unfold yR;rw[if_neg h]
theorem OS (h:yR H a b=some u):b≠a/\H b=some u:=by
 unfold yR at h
 split at h
 ·cases h
 ·exact #[by assumption,h]
def Lf (X:Cx) (E:XK):Prop:=∀(pins:List (Addr×Obj)) (σ:St) (H:Hp) (s:Yo) (a:Addr) (cls:Value) (dx:Option Addr),Inv X pins σ H s->H a=some (Jx a cls dx)->X.H₀ a=none->E cls dx (yR H a)->X.xe (.ref a) s
theorem FF {K:Frag} :
  Lf (yU (SG P w) P w K mg base N qual scope f cd A outer s H E) E:=by
 intro pins σ H1 s1 e cls dx I he h0 hE;have h0:H e=none:=h0;obtain ⟨oe,vs,t,g0,oc,od,odd,v0,v1⟩|_:=(show iG P w H1 s1.heap e (Jx e cls dx) from I.hok e _ he);subst oc;have hfr:(A.deeper (Zm qual scope s.heap.objs.size f cd)).frames=some (Zm qual scope s.heap.objs.size f cd :: outer):=I.ok.frames;have hstk:s1.heap.FunFrames base (Zm qual scope s.heap.objs.size f cd :: outer):=I.stack;have nL:∀b o,s.heap.get? b=some o->b≠s.6:=λb o q=>bR (Yr q)
 have ns0:s.heap.get? e=none:=by
  cases q:s.heap.get? e with
  | none=>rfl
  | some o =>
   have:=I.base.free e o q h0 (aH);rw[he] at this;cases this
 have enf:e∉wH (Zm qual scope s.heap.objs.size f cd :: outer):=λz=>by
  have:=I.stkFree e z;rw[he] at this;cases this
 obtain ⟨hid,eh⟩:∃l,l=e :: wH (Zm qual scope s.heap.objs.size f cd :: outer):=#[_,rfl];have hfun:s1.heap.FunFrames (hideAll s1.heap hid) (Zm qual scope s.heap.objs.size f cd :: outer):=funFrames_hide hstk λenv hm b hb=>by rw[eh];exact bS _ (IG.mpr #[env,hm,hb])
 have hD:lZ e dx s1.8:=odd ▸ lZ.of g0
 have c1:∀b u,yR H1 e b=some u->∃o,(hideAll s1.heap hid).get? b=some o:=λb u q=>by
  obtain ne|q:=OS q;obtain o|z:=(I.hok b u q).there;refine #[o,hideAll_get _ z λm=>?_];rw[eh] at m;rcases ay.mp m with m | m
  ·exact ne m
  ·have:=I.stkFree b m;rw[q] at this;cases this
 have c2:∀b o,s.heap.get? b=some o->b∉wH outer->∃o',(hideAll s1.heap hid).get? b=some o':=λb o q hb=>by
  obtain o'|z:=I.base.there b o q (aH);refine #[o',hideAll_get _ z λm=>?_];rw[eh,GL (L:=s.6) rfl] at m;rcases ay.mp m with m | m
  ·rw[m,ns0] at q;cases q
  rcases ay.mp m with m | m
  ·exact nL b o q m
  ·exact hb m
 have hU0:Un (wH outer) [] H H1 s.heap s1.8:=I.base
 have hU:Un (wH outer) [] H (yR H1 e) s.heap s1.8:=#[hU0.keep,hU0.slot,λb o q n hx=>by
   rw[ui (λz=>by rw[z,ns0] at q;cases q)];exact hU0.free b o q n hx,hU0.there,λb xs q=>by
   have q':=hU0.tups b xs q;rw[ui (λz=>by rw[z,he] at q';cases q')];exact q',λb o u q=>by
   have q':=hU0.frzs b o u q;rw[ui (λz=>by rw[z,he] at q';cases q')];exact q',λb ps q=>by
   obtain m|q':=hU0.tbls b ps q;exact #[m,by rw[ui (λz=>by rw[z,he] at q';cases q')];exact q']]
 have hok1:xh P w (yR H1 e) s1.8:=λb u q=>by
  obtain ne|q:=OS q;exact (I.hok b u q).stay (λc v _ z=>z) (λc z=>by rw[ui (λy=>by rw[y,he] at z;cases z)];exact z) λc xs z=>by rw[ui (λy=>by rw[y,he] at z;cases z)];exact z
 refine YX (rj (e:=e) (d:=dx) (AW _ _) (wpAny_leaving_firstW (E:=λ_ _=>False) (Q:=λ_ s2=>VM P w outer H s (yR H1 e) e t oe.cls (hideAll s1.heap hid) s2)
  (base:=hideAll s1.heap hid) (L:=s.6) hfr hfun rfl g0 (λb o q=>of_hideAll _ q) (hideAll_none _ (by rw[eh];exact cU)) od v1 v0 λh2 hL=>?_) hD) (λ_ s2 #[F,dc]=>#[e,t,oe.cls,dx,yR H1 e,_,rfl,#[F,dc],hE]) (λ_ _ z=>z.1.elim)
 obtain x1|⟨_,_,x2⟩|x3|x4:=hL;have fl:ZF (hideAll s1.heap hid) outer e oe.cls (.ref t) h2:=#[x1,hideAll_none _ (by rw[eh];exact cU),x2,x3]
 obtain U2|ok2:=Ju hU hok1 (λb o q=>of_hideAll _ q) x1 x4 c1 c2 I.ok.frf (λb hb o q=>by
  obtain _|o'|e'|d:=I.ok.funs.mem hb;have e':s.heap.get? b=some o':=e';rw[q] at e';cases e';exact d)
 exact #[I.os,I.bare,U2,ok2,fl,c1,c2]
end
section
variable {X:Cx}
def Ki (K:Frag) (H0:Hp) (te:TE) (E:XK):TS:=λ_ σ H=>te σ H λv H1=>∃a C S dx,v=.ref a/\H1 a=some (Jx a (.ref C) dx)/\H0 a=none/\VS K C S/\E (.ref C) dx (yR H1 a)
theorem LM (hx:Lf X E) (hc:X.calm=true) (he:PE X e te):PS X (.Raise (some e) none pos) (Ki X.K X.H₀ te E):=by
 intro pins s σ H D I h;rw[arm_exec_Raise];refine K0 (ZH ?_);unfold raiseStmt
 dsimp only
 refine K0 (K0 (ib (he pins s σ H _ I h) λu s1 #[v,H1,I1,rv,a,C,S,dx,ev,ea,h0,xi,q]=>K0 (ZH (Yp ?_))));subst ev;cases rv;obtain ⟨ob,vs,t,g0,oc,od,odd,v0,v1⟩|_:=(show iG X.prog X.w H1 s1.heap a (Jx a (.ref C) dx) from I1.hok a _ ea);obtain N|nm|qn|bs|hdct|sn|sub|ab|col|dd|k0|k1|k2|k3|k5|cd|hC|T|hcl|hm:=xi.at I1.kIn;have hxe:=hx pins σ H1 s1 a _ _ I1 ea h0 q;have hhd:=I1.ok.hd hc;obtain c1|d1|e1|l1:=ob
 dsimp only at oc od odd
 subst oc od odd;have hcB:(Yx C :: .ref S :: xm).contains (.type "BaseException")=true:=by rfl
 obtain hp|gs|dr|tk|os:=s1;have LT:ZA (model X.prog X.w) hp (typeOf (.ref a)) (.ref C):=(ZA.ld g0).andThen .now;have LTT:ZA (model X.prog X.w) hp (typeOf (.ref C)) (.type "type"):=(ZA.ld hC).andThen .now
 have LIT:ZA (model X.prog X.w) hp (isType (.ref a)) false:=λA' Q' E' s' k z=>by
  unfold isType loadHead;exact K0 (wpAny_loadPart (k _ _ g0) (Yp z))
 have LIE:ZA (model X.prog X.w) hp (isExcClass (.ref a)) false:=λA' Q' E' s' k z=>by
  unfold isExcClass;refine K0 ((LIT.keeps k).here ?_);rw[if_neg aV];exact Yp z
 have LIB:ZA (model X.prog X.w) hp (isInstance (.ref a) (.type "BaseException")) true:=LT.andThen (looks_mroIn (show X.K.In hp from I1.kIn) xi.xc.mb);simp only[evalOpt,Option.map];refine K0 (Yp (K0 (Zc ?_)));unfold excFromValue;refine K0 (ZA.at LIE ?_);rw[if_neg aV];refine K0 (ZA.at LIB ?_);rw[if_pos rfl];refine Yp ?_;refine K0 (ZA.at LIT ?_);rw[if_neg aV];unfold raisedInstance;refine K0 (K0 (ZA.at LT (K0 (ZA.at LTT ?_))));rw[if_pos (by rfl)];refine Yp (K0 ?_);unfold setFlight;refine K0 (YZ g0 rfl v1 ?_);rw[if_neg ()];exact Yp (wpAny_raiseNew_none hhd hxe)
end
inductive Km (K:FG9) (vs:List V) (H:Hp) (Q:VK) (E9:XK):Prop
 | mk (p:Addr) (n w:Nat) (H0:Hp) (rows:LR9):vs=[.ref p,.int n]->bg K H0 H p rows->rows.9<=100->n<=100->(∀xs∈rows,xs.9=n)->Ck (cx rows n) rows.9 w->(∀q R ps H',aE H H'->H' q=some (.lst (eI ps))->bX (cx rows n) rows.9 R ps->Q (.ref q) H')->Km K vs H Q E9
theorem kr:(cx rows n).9=n:=by unfold cx;simp
theorem MD (h:xs.9=k+1):qU xs (some (-1)) none=xs.drop k:=by
 unfold qU
 have e:HT.D3 xs.9 0 (some (-1))=k:=by
  show (if (-1:Int) < 0 then ((-1:Int)+(xs.9:Int)).toNat else min (-1:Int).toNat xs.9)=k
  rw[if_pos (),h]
  lia
 rw[e,HT.tY];exact aF (by rw[eV];lia)
theorem Jz {xs:LR9} (h:xs.9=k+1):xs.drop k=[xs.getD k []]:=by
 rw[dX (),zE (),aa,ae ()];rfl
theorem NX:(Mg m (0:Rat)).getD l 0=0:=by
 rw[aa,eX]
 split <;> rfl
theorem xn (hl:l < m):(jP m ((l:Nat):Int)).getD l' 0=if l'=l then 1 else 0:=by
 unfold jP;rw[aa,aw];rcases aR l' m with q | q
 ·rw[bI q];show (if ((l':Nat):Int)=((l:Nat):Int) then (1:Rat) else 0)=_
  by_cases e:l'=l
  ·rw[if_pos (by rw[e]),if_pos e]
  ·rw[if_neg (),if_neg e]
 ·rw[aG (by rw[aN];exact q),if_neg ()];rfl
theorem QZ {ps:List Nat} (h:M∈(ps.filter (k<=·)).map λp=>((p:Nat):Int)):∃t,t < ps.9/\M=((ps.getD t 0:Nat):Int)/\k<=ps.getD t 0:=by
 obtain p|hp|rfl:=au.mp h;obtain h1|h2:=ja.mp hp;obtain t|ht|e:=bN h1;have eg:ps.getD t 0=p:=by rw[aa,ae ht,e];rfl
 exact #[t,ht,by rw[eg],by rw[eg];simpa using h2]
def SE (mv pt:LR9):Prop:=∀sts pus,Fs mv pt sts pus->(∀pu∈pus,∀z∈pu,z=(0:Rat)\/z=1)->pus.9 < mv.9->(∀xs∈mv,yr xs (sts.getD pus.9 []))/\(∃w,Ck (cx (sts++(oS mv (sts.getD pus.9 []) :: pt)) mv.9) (sts++(oS mv (sts.getD pus.9 []) :: pt)).9 w)/\∀pu:List Rat,(∀z∈pu,z=0\/z=1)->sL 1800000 1800000 (sts.getD pus.9 []++pu)
theorem Po:Fs mv pt [Mg mv.9 0] [] :=
 #[rfl,λxs hx=>by rw[aU.mp hx];exact cE,(λ_ h=>nomatch h),λc=>NX,(λj h=>absurd h (cP _)),λj j0 hj=>by
  have:j < 1:=hj
  lia]
theorem L6 {st pu:List Rat} (D:js mv pt lk) (h:st.9=mv.9) (hp:pu.9=pt.9) (c:Nat):(kg mv pt st pu).getD c 0=aK mv.9 (λj=>aS mv c j*st.getD j 0)+aK pt.9 λi=>pu.getD i 0*aS pt i c:=by
 rcases aR c mv.9 with q | q
 ·exact Oz D h hp q
 ·have z1:∀j,aS mv c j=0:=λj=>by unfold aS;rw[aa (l:=mv),aG q];exact List.getD_nil
  have l:(kg mv pt st pu).9<=mv.9:=by unfold kg;rw[aT];exact Nat.min_le_left ..
  rw[aa,aG (),bZ λj _=>by rw[z1 j];grind,bZ λi _=>by rw[zx D.pw q];grind];show (0:Rat)=0+0
  grind
theorem A4 {v:V} (h:xs.9=k+1) (e:xs[k]?=some v):Iz xs (-1)=some v:=by
 have:xs=xs.take k++[v]:=by
  rw[aI] at e;obtain hk|e:=e;rw[<- e,List.take_append_getElem hk,aF ()]
 rw[this];exact wV _ _
theorem Ro {st pu:List Rat} (D:js mv pt lk):(kg mv pt st pu).9=mv.9:=by
 unfold kg;rw[aT,kr,jZ]
abbrev oq (h:Heap) (T:Addr) (a b c:Value):Prop:=h.get? T=some { cls:=.type "tuple",data:=.seq [a,b,c].toArray }
structure Z3 (z TI TO i1 i2 i3 l1 l2 l3:Addr):Prop where
 nd:[z,TO,i1,i2,i3].Nodup
 ti:TI∉[z,TO,i1,i2,i3]
 m1:l1∉[z,TO,i1,i2,i3]
 m2:l2∉[z,TO,i1,i2,i3]
 m3:l3∉[z,TO,i1,i2,i3]
section
variable {prog:YS} {w:Y9} {A:Y3} {E:Value->Yo->Prop} {s:Yo} {z TI TO i1 i2 i3 l1 l2 l3:Addr} {k:Nat} {xs ys zs:Array Value} {a b c u v t:Value}
theorem IM (hT:oq s.heap T a b c)
  (h:∀h',h'.get? T=some { cls:=.type "tuple",data:=.seq (([a,b,c].toArray:Array Value).setIfInBounds j x) }->Heap.SameBut T s.heap h'->Q .unit { s with heap:=h' }):Yy (model prog w) A (updateSeq T (·.setIfInBounds j x)) Q E s:=by
 refine ZJ hT rfl (h _ ?_ (Heap.SameBut.update ..));rw[Heap.get?_update_self _ hT rfl];simp [YQ]
theorem P8 {Q:Value->Yo->Prop} (D:Z3 z TI TO i1 i2 i3 l1 l2 l3) (hz:IsZip s.heap z TI TO .none) (hTI:oq s.heap TI (.ref i1) (.ref i2) (.ref i3)) (hTO:oq s.heap TO a b c)
  (h1:s.heap.IsListIter i1 l1 k) (h2:s.heap.IsListIter i2 l2 k) (h3:s.heap.IsListIter i3 l3 k) (g1:s.heap.IsList l1 xs) (g2:s.heap.IsList l2 ys) (g3:s.heap.IsList l3 zs) (e1:xs[k]?=some u) (e2:ys[k]?=some v) (e3:zs[k]?=some t)
  (hQ:∀h',IsZip h' z TI TO (ZG s.6)->oq h' TO u v t->h'.IsListIter i1 l1 (k+1)->h'.IsListIter i2 l2 (k+1)->h'.IsListIter i3 l3 (k+1)->oq h' s.heap.objs.size u v t →
   (∀d o,d∉[z,TO,i1,i2,i3]->s.heap.get? d=some o->h'.get? d=some o)->Q (.ref s.6) { s with heap:=h' }) :
  Yy (model prog w) A (Y5.«zip.__next__» #[[.ref z],[]]) (λfin s'=>∃v,fin=.done (.ret v)/\Q v s') E s:=by
 obtain nd|ti|m1|m2|m3:=D;simp only[cQ,ay,aH,or_false,not_or,iH,and_true,not_false_eq_true] at nd ti m1 m2 m3;obtain ⟨zT,z1,z2,z3⟩|⟨T1,T2,T3⟩|⟨i12,i13⟩|i23:=nd;obtain _|_|_|_|_:=ti;obtain a1|a2|a3|a4|a5:=m1;obtain b1|b2|b3|b4|b5:=m2;obtain c1|c2|c3|c4|c5:=m3;show Yy _ _ (field (.ref z) 2 >>= _) _ _ _
 refine K0 (YZ hz rfl (x:=.bool false) rfl ?_);show Yy _ _ (field (.ref z) 3 >>= _) _ _ _
 refine K0 (YZ hz rfl (x:=.ref TI) rfl ?_);refine K0 (Zd hTI rfl ?_);show Yy _ _ (YC (.ref z) >>= _) _ _ _
 refine K0 ?_;unfold YC;refine K0 (YZ hz rfl (x:=.none) rfl (Yp ?_));simp only[if_true];refine K0 (wpAny_rule ?_);refine K0 (YZ hz rfl (x:=.ref TO) rfl ?_);refine K0 (Zi hz (by simp) λp1 y1 s1=>?_);replace y1:IsZip p1 z TI TO .ellipsis:=y1;refine K0 ?_;simp only[List.zipIdx_cons,List.zipIdx_nil,sY,pY];refine K0 (K0 (wpAny_onRaise ?_));show Yy _ _ (YN (.ref i1) >>= _) _ _ _
 refine K0 (Zf (h1.extBut s1.extBut (YI z1)) (g1.extBut s1.extBut a1) e1 λp2 n1 s2=>Yp ?_);have t2:oq p2 TO a b c:=s2.extBut _ _ T1 (s1.extBut _ _ (YI zT) hTO);refine K0 (Zd t2 rfl ?_);refine K0 (IM t2 λp3 t3 s3=>?_);replace t3:oq p3 TO u b c:=t3;refine K0 (wpAny_letGo (Yp ?_));refine K0 (K0 (wpAny_onRaise ?_));show Yy _ _ (YN (.ref i2) >>= _) _ _ _
 refine K0 (Zf (((h2.extBut s1.extBut (YI z2)).extBut s2.extBut (YI i12)).extBut s3.extBut (YI T2)) (((g2.extBut s1.extBut b1).extBut s2.extBut b3).extBut s3.extBut b2) e2 λp4 n2 s4=>Yp ?_);have t4:oq p4 TO u b c:=s4.extBut _ _ T2 t3;refine K0 (Zd t4 rfl ?_);refine K0 (IM t4 λp5 t5 s5=>?_);replace t5:oq p5 TO u v c:=t5;refine K0 (wpAny_letGo (Yp ?_));refine K0 (K0 (wpAny_onRaise ?_));show Yy _ _ (YN (.ref i3) >>= _) _ _ _
 refine K0 (Zf (((((h3.extBut s1.extBut (YI z3)).extBut s2.extBut (YI i13)).extBut s3.extBut (YI T3)).extBut s4.extBut (YI i23)).extBut s5.extBut (YI T3)) (((((g3.extBut s1.extBut c1).extBut s2.extBut c3).extBut s3.extBut c2).extBut s4.extBut c4).extBut s5.extBut c2) e3 λp6 n3 s6=>Yp ?_);have t6:oq p6 TO u v c:=s6.extBut _ _ T3 t5;refine K0 (Zd t6 rfl ?_);refine K0 (IM t6 λp7 t7 s7=>?_);replace t7:oq p7 TO u v t:=t7;refine K0 (wpAny_letGo (Yp (Yp ?_)));refine K0 (Zd t7 rfl ?_);refine K0 (wpAny_newTuple ?_);have hsz:p7.objs.7=s.6:=by rw[s7.1,s6.1,s5.1,s4.1,s3.1,s2.1,s1.1]
 have kp:∀d o,d∉[TO,i1,i2,i3]->p1.get? d=some o->p7.get? d=some o:=λd o hd e=>by
  simp only[ay,aH,or_false,not_or] at hd;obtain d1|d2|d3|d4:=hd;exact s7.extBut _ _ d1 (s6.extBut _ _ d4 (s5.extBut _ _ d1 (s4.extBut _ _ d3 (s3.extBut _ _ d1 (s2.extBut _ _ d2 e)))))
 have y7:IsZip p7 z TI TO .ellipsis:=kp z _ (by simp [zT,z1,z2,z3]) y1;have zlt:z < p7.objs.7:=Yr y7;show Yy _ _ (Y5.SmallTypes.ownedTupleHandOut (.ref z) (.ref p7.objs.7) >>= _) _ _ _
 refine K0 ?_;unfold Y5.SmallTypes.ownedTupleHandOut;have y8:IsZip (p7.push { cls:=.type "tuple",data:=.seq [u,v,t].toArray }) z TI TO .ellipsis:=Ym _ y7;refine K0 (Zi y8 (by simp) λp8 y9 s8=>?_);replace y9:IsZip p8 z TI TO (ZG p7.objs.7):=y9;refine Zi y9 (by simp) λp9 yA s9=>?_
 replace yA:IsZip p9 z TI TO (ZG p7.objs.7):=yA;have up:∀d o,d≠z->p7.get? d=some o->p9.get? d=some o:=λd o hd e=>s9.extBut _ _ hd (s8.extBut _ _ hd (Ym _ e))
 have tT:oq p9 p7.objs.size u v t:=s9.extBut _ _ (pW zlt) (s8.extBut _ _ (pW zlt) (Yw _ rfl));rw[hsz] at yA tT;refine Yp #[_,rfl,?_];show Q (.ref p7.objs.7) _
 rw[hsz];refine hQ p9 yA (up _ _ (YI zT) t7) ?_ ?_ ?_ tT λd o hd e=>?_
 ·exact ((((((n1.extBut s3.extBut (YI T1)).extBut s4.extBut i12).extBut s5.extBut (YI T1)).extBut s6.extBut i13).extBut s7.extBut (YI T1))).at λo e=>up _ o (YI z1) e
 ·exact (((n2.extBut s5.extBut (YI T2)).extBut s6.extBut i23).extBut s7.extBut (YI T2)).at λo e=>up _ o (YI z2) e
 ·exact (n3.extBut s7.extBut (YI T3)).at λo e=>up _ o (YI z3) e
 ·simp only[ay,aH,or_false,not_or] at hd;obtain d0|d1|d2|d3|d4:=hd;exact up d o d0 (kp d o (by simp [d1,d2,d3,d4]) (s1.extBut _ _ d0 e))
theorem TZ (hh:A.handled=none) (D:Z3 z TI TO i1 i2 i3 l1 l2 l3) (hz:IsZip s.heap z TI TO .none) (hTI:oq s.heap TI (.ref i1) (.ref i2) (.ref i3))
  (h1:s.heap.IsListIter i1 l1 k) (g1:s.heap.IsList l1 xs) (e1:xs[k]?=none)
  (hE:∀h' e,(∀d o,d∉[z,TO,i1,i2,i3]->s.heap.get? d=some o->h'.get? d=some o)->(∃o,h'.get? e=some o/\o.cls=.type "StopIteration")->E (.ref e) { s with heap:=h' }) :
  Yy (model prog w) A (Y5.«zip.__next__» #[[.ref z],[]]) Q E s:=by
 obtain nd|ti|m1|_|_:=D;simp only[cQ,ay,aH,or_false,not_or,iH,and_true,not_false_eq_true] at nd ti m1;obtain ⟨zT,z1,z2,z3⟩|⟨T1,T2,T3⟩|⟨i12,i13⟩|i23:=nd;show Yy _ _ (field (.ref z) 2 >>= _) _ _ _
 refine K0 (YZ hz rfl (x:=.bool false) rfl ?_);show Yy _ _ (field (.ref z) 3 >>= _) _ _ _
 refine K0 (YZ hz rfl (x:=.ref TI) rfl ?_);refine K0 (Zd hTI rfl ?_);show Yy _ _ (YC (.ref z) >>= _) _ _ _
 refine K0 ?_;unfold YC;refine K0 (YZ hz rfl (x:=.none) rfl (Yp ?_));simp only[if_true];refine K0 (wpAny_rule ?_);refine K0 (YZ hz rfl (x:=.ref TO) rfl ?_);refine K0 (Zi hz (by simp) λp1 y1 s1=>?_);replace y1:IsZip p1 z TI TO .ellipsis:=y1;refine K0 ?_;simp only[List.zipIdx_cons,List.zipIdx_nil,sY,pY];refine K0 (K0 (wpAny_onRaise ?_));show Yy _ _ (YN (.ref i1) >>= _) _ _ _
 refine K0 (wpAny_nextOf_list_end hh (h1.extBut s1.extBut (YI z1)) (g1.extBut s1.extBut m1.1) e1 λp2 e s2 he=>?_);obtain oe|hoe|hce:=he;have y2:IsZip p2 z TI TO .ellipsis:=s2 _ _ z1 y1;have ez:e≠z:=λx=>by subst x;rw[y2] at hoe;cases hoe;simp at hce
 refine Zi y2 (by simp) λp3 _ s3=>hE p3 e (λd o hd x=>?_) #[oe,s3.extBut _ _ ez hoe,hce]
 simp only[ay,aH,or_false,not_or] at hd;exact s3.extBut _ _ hd.1 (s2 _ _ hd.2.2.1 (s1.extBut _ _ hd.1 x))
theorem Rn (D:Z3 z TI TO i1 i2 i3 l1 l2 l3) (hz:IsZip s.heap z TI TO .none) (hTI:oq s.heap TI (.ref i1) (.ref i2) (.ref i3)) (hTO:oq s.heap TO a b c)
  (h1:s.heap.IsListIter i1 l1 k) (h2:s.heap.IsListIter i2 l2 k) (h3:s.heap.IsListIter i3 l3 k) (g1:s.heap.IsList l1 xs) (g2:s.heap.IsList l2 ys) (g3:s.heap.IsList l3 zs) (e1:xs[k]?=some u) (e2:ys[k]?=some v) (e3:zs[k]?=some t)
  (hQ:∀h',IsZip h' z TI TO (ZG s.6)->oq h' TO u v t->h'.IsListIter i1 l1 (k+1)->h'.IsListIter i2 l2 (k+1)->h'.IsListIter i3 l3 (k+1)->oq h' s.heap.objs.size u v t →
   (∀d o,d∉[z,TO,i1,i2,i3]->s.heap.get? d=some o->h'.get? d=some o)->Q (some (.ref s.6)) { s with heap:=h' }) :
  Yy (model prog w) A (pyNext (.ref z)) Q E s:=by
 have hT:s.TypeIs (.ref z) "zip":=#[_,hz,rfl];unfold pyNext
 exact K0 (wpAny_attempt (Zr (name:=YV "__next__") hT F.slot_zip_next
  (wpAny_call_entry F.slot_zip_next hT F.entry_zip_next
   (P8 D hz hTI hTO h1 h2 h3 g1 g2 g3 e1 e2 e3 λh' a1 a2 a3 a4 a5 a6 a7=>Yp (hQ h' a1 a2 a3 a4 a5 a6 a7)) (F.args_zip_next_1 _))))
theorem Gy (hh:A.handled=none) (D:Z3 z TI TO i1 i2 i3 l1 l2 l3) (hz:IsZip s.heap z TI TO .none) (hTI:oq s.heap TI (.ref i1) (.ref i2) (.ref i3))
  (h1:s.heap.IsListIter i1 l1 k) (g1:s.heap.IsList l1 xs) (e1:xs[k]?=none)
  (hQ:∀h',(∀d o,d∉[z,TO,i1,i2,i3]->s.heap.get? d=some o->h'.get? d=some o)->Q none { s with heap:=h' }):Yy (model prog w) A (pyNext (.ref z)) Q E s:=by
 have hT:s.TypeIs (.ref z) "zip":=#[_,hz,rfl];unfold pyNext
 refine K0 (wpAny_attempt (Zr (name:=YV "__next__") hT F.slot_zip_next
  (wpAny_call_entry F.slot_zip_next hT F.entry_zip_next (TZ hh D hz hTI h1 g1 e1 λh' e hk he=>?_) (F.args_zip_next_1 _))))
 obtain o|ho|hc:=he;exact K0 (wpAny_isInstance (T:="StopIteration") (b:=true) #[o,ho,hc] isSubtype_stop (Yp (hQ _ hk)))
abbrev TV (h:Heap) (l1:Addr):Heap:=h.push { cls:=.type "list_iterator",data:=.fields [.ref l1,.int 0 0].toArray }
abbrev VW (h:Heap) (l1 l2:Addr):Heap:=TV (TV h l1) l2
abbrev XG (h:Heap) (l1 l2 l3:Addr):Heap:=TV (VW h l1 l2) l3
abbrev XF (h:Heap) (l1 l2 l3:Addr):Heap:=(XG h l1 l2 l3).push { cls:=.type "tuple",data:=.seq [.ref h.objs.7,.ref (TV h l1).objs.size,.ref (VW h l1 l2).objs.size].toArray }
abbrev XE (h:Heap) (l1 l2 l3:Addr):Heap:=(XF h l1 l2 l3).push { cls:=.type "tuple",data:=.seq [.none,.none,.none].toArray }
abbrev TU (h:Heap) (l1 l2 l3:Addr):Heap:=(XE h l1 l2 l3).push { cls:=.type "zip",data:=.fields [.none,.bool false,.bool false,.ref (XG h l1 l2 l3).objs.size,.ref (XF h l1 l2 l3).objs.size].toArray }
set_option maxHeartbeats 0 in
theorem Jk (l1 l2 l3:Addr) (xs ys zs:Array Value) :
  Meets (Y5.«zip.__new__» #[[.type "zip",.ref l1,.ref l2,.ref l3],[]]) (λ_ R s=>s.heap.IsList l1 xs/\s.heap.IsList l2 ys/\s.heap.IsList l3 zs /\
   R (.ok (.ret (.ref (XE s.heap l1 l2 l3).objs.size))) { s with heap:=TU s.heap l1 l2 l3 }) :=
 .of_wp λprog w A R s h=>by
  obtain hp|g|d|tk|os:=s;obtain k1|k2|k3|h:=h;have hsub:=sub_zip;have hL1:Heap.IsList (Yo.heap #[hp,g,d,tk,os]) l1 xs:=k1;have hL2:Heap.IsList (Yo.heap #[TV hp l1,g,d,tk,os]) l2 ys:=Heap.IsList.push k2 _;have hL3:Heap.IsList (Yo.heap #[VW hp l1 l2,g,d,tk,os]) l3 zs:=Heap.IsList.push (Heap.IsList.push k3 _) _
  wp_walk using Zx hL1,Zx hL2,Zx hL3
  exact #[_,rfl,h]
theorem Bm (a b c:Value):checkTypeCall "zip" #[[a,b,c],[]]=pure .unit:=by kernel_rfl
theorem Eo (a b c:Value):checkBuiltinCall "zip.__new__" #[[.type "zip",a,b,c],[]]=pure .unit:=by kernel_rfl
theorem JQ (a b c d:Value):argsOk "object.__init__" #[[a,b,c,d],[]]:=by
 unfold argsOk;rw[signature?_of (id:="object.__init__") (n:=['_','_','t','i','n','i','_','_']) (o:=['t','c','e','j','b','o']) (by kernel_rfl) F.owner_object]
 kernel_rfl
theorem MG (g1:s.heap.IsList l1 xs) (g2:s.heap.IsList l2 ys) (g3:s.heap.IsList l3 zs)
  (h:∀h',IsZip h' (s.6+5) (s.6+3) (s.6+4) .none->oq h' (s.6+3) (.ref s.6) (.ref (s.6+1)) (.ref (s.6+2)) →
   oq h' (s.6+4) .none .none .none->h'.IsListIter s.heap.objs.size l1 0->h'.IsListIter (s.6+1) l2 0->h'.IsListIter (s.6+2) l3 0 →
   (∀d o,s.heap.get? d=some o->h'.get? d=some o)->Q (.ref (s.6+5)) { s with heap:=h' }) :
  Yy (model prog w) A (call (.type "zip") [.ref l1,.ref l2,.ref l3]) Q E s:=by
 refine callType_new F.called_zip () (Bm _ _ _) (Eo _ _ _) (λobj=>JQ obj _ _ _) F.entry_zip_new (Jk l1 l2 l3 xs ys zs) #[g1,g2,g3,?_];have p:∀{h:Heap} {o:Obj} {d:Addr} {q:Obj},h.get? d=some q->(h.push o).get? d=some q:=λe=>Ym _ e
 have z1:(TV s.heap l1).objs.size=s.6+1:=YT ..;have z2:(VW s.heap l1 l2).objs.size=s.6+2:=by rw[YT,z1]
 have z3:(XG s.heap l1 l2 l3).objs.size=s.6+3:=by rw[YT,z2]
 have z4:(XF s.heap l1 l2 l3).objs.size=s.6+4:=by rw[YT,z3]
 have z5:(XE s.heap l1 l2 l3).objs.size=s.6+5:=by rw[YT,z4]
 have q6:(TU s.heap l1 l2 l3).get? (XE s.heap l1 l2 l3).objs.size=some _:=Yw _ rfl;have q5:(TU s.heap l1 l2 l3).get? (XF s.heap l1 l2 l3).objs.size=some _:=p (Yw _ rfl);have q4:(TU s.heap l1 l2 l3).get? (XG s.heap l1 l2 l3).objs.size=some _:=p (p (Yw _ rfl));have q3:(TU s.heap l1 l2 l3).get? (VW s.heap l1 l2).objs.size=some _:=p (p (p (Yw _ rfl)));have q2:(TU s.heap l1 l2 l3).get? (TV s.heap l1).objs.size=some _:=p (p (p (p (Yw _ rfl))));have q1:(TU s.heap l1 l2 l3).get? s.6=some _:=p (p (p (p (p (Yw _ rfl)))));show _/\_
 rw[z3,z4,z5] at q6;rw[z4] at q5;rw[z1,z2,z3] at q4;rw[z2] at q3;rw[z1] at q2;rw[z5];exact #[#[_,q6,rfl],h _ q6 q4 q5 #[_,q1,rfl,rfl] #[_,q2,rfl,rfl] #[_,q3,rfl,rfl] λd o e=>p (p (p (p (p (p e)))))]
end
def VH (K : FG9) (l1 l2 l3 : Addr) : It :=
  #[λi H => ∃ xs ys zs x y t, br K H l1 xs /\ br K H l2 ys /\ br K H l3 zs /\ xs[i]? = some x /\ ys[i]? = some y /\ zs[i]? = some t,
   λi H v H' => ∃ p x y t, v = .ref p /\ H p = none /\ H' = upd H p (.tup [x, y, t]) /\ (∀ xs, br K H l1 xs → xs[i]? = some x) /\ (∀ ys, br K H l2 ys → ys[i]? = some y) /\ ∀ zs, br K H l3 zs → zs[i]? = some t,
   λi H => ∃ xs ys zs, br K H l1 xs /\ br K H l2 ys /\ br K H l3 zs /\ xs.9 ≤ i]
def XU (z TI TO i1 i2 i3 l1 l2 l3:Addr) (i:Nat) (h:Heap):Prop:=IsZip h z TI TO .none/\oq h TI (.ref i1) (.ref i2) (.ref i3)/\(∃a b c,oq h TO a b c)/\h.IsListIter i1 l1 i/\h.IsListIter i2 l2 i/\h.IsListIter i3 l3 i
theorem Fz {z TI TO i1 i2 i3 l1 l2 l3:Addr} (hz:IsZip h z TI TO f0) (hTI:oq h TI (.ref i1) (.ref i2) (.ref i3)) (hTO:oq h TO a b c)
  (h1:h.IsListIter i1 l1 k1) (h2:h.IsListIter i2 l2 k2) (h3:h.IsListIter i3 l3 k3) (hl1:h.IsList l1 xs) (hl2:h.IsList l2 ys) (hl3:h.IsList l3 zs) (hT:TI≠TO) (h12:i1≠i2) (h13:i1≠i3) (h23:i2≠i3):Z3 z TI TO i1 i2 i3 l1 l2 l3:=by
 obtain o1|g1|c1|_:=h1;obtain o2|g2|c2|_:=h2;obtain o3|g3|c3|_:=h3;have ne:∀{a b:Addr} {o u:Obj} {A B:String},h.get? a=some o->h.get? b=some u->o.cls=.type A->u.cls=.type B->A≠B->a≠b:=λha hb ca cb hn=>dE ha hb (by rw[ca,cb];exact nR hn)
 have li:∀{l:Addr} {ws:Array Value},h.IsList l ws->l∉[z,TO,i1,i2,i3]:=λhl=>by
  obtain p|q|d|_:=hl;simp only[ay,aH,or_false,not_or];exact #[ne q hz d rfl (),ne q hTO d rfl (),ne q g1 d c1 (),ne q g2 d c2 (),ne q g3 d c3 ()]
 refine #[?_,?_,li hl1,li hl2,li hl3]
 ·simp only[cQ,ay,aH,or_false,not_or,iH,and_true,not_false_eq_true];exact #[#[ne hz hTO rfl rfl (),ne hz g1 rfl c1 (),ne hz g2 rfl c2 (),ne hz g3 rfl c3 ()],#[ne hTO g1 rfl c1 (),ne hTO g2 rfl c2 (),ne hTO g3 rfl c3 ()],#[h12,h13],h23]
 ·simp only[ay,aH,or_false,not_or];exact #[ne hTI hz rfl rfl (),hT,ne hTI g1 rfl c1 (),ne hTI g2 rfl c2 (),ne hTI g3 rfl c3 ()]
theorem Lr {P:YS} {w:Y9} {K:FG9} {elts:List Expr} {kk:Nat} {tpos:Pos} (z TI TO i1 i2 i3 l1 l2 l3:Addr) (hT:TI≠TO) (h12:i1≠i2) (h13:i1≠i3) (h23:i2≠i3):Turn P w K (.Tuple elts kk tpos) (VH K l1 l2 l3) [z,TI,TO,i1,i2,i3] z (XU z TI TO i1 i2 i3 l1 l2 l3) where
 mem:=by simp
 obj:=λi h st b hb=>by
  obtain hz|hTI|⟨a,c,e,hTO⟩|⟨o1,g1,c1,d1⟩|⟨o2,g2,c2,d2⟩|⟨o3,g3,c3,d3⟩:=st;simp only[ay,aH,or_false] at hb;rcases hb with rfl | rfl | rfl | rfl | rfl | rfl
  ·exact #[_,hz,λv q=>nomatch q]
  ·exact #[_,hTI,λv q=>nomatch q]
  ·exact #[_,hTO,λv q=>nomatch q]
  ·exact #[o1,g1,λv q=>by rw[d1] at q;cases q]
  ·exact #[o2,g2,λv q=>by rw[d2] at q;cases q]
  ·exact #[o3,g3,λv q=>by rw[d3] at q;cases q]
 keep:=λi h h' st k=>by
  obtain hz|hTI|⟨a,c,e,hTO⟩|h1|h2|h3:=st;exact #[k z (by simp) _ hz,k TI (by simp) _ hTI,#[a,c,e,k TO (by simp) _ hTO],h1.at λo e=>k i1 (by simp) o e,h2.at λo e=>k i2 (by simp) o e,h3.at λo e=>k i3 (by simp) o e]
 item:=by
  intro X hP hw hK hc i pins s σ H E I hf st hg;subst hP hw hK;obtain hz|hTI|⟨a,c,d,hTO⟩|h1|h2|h3:=st;obtain xs|ys|zs|x|y|t|qx|qy|qz|ex|ey|ez:=hg;obtain us|rx|px|_:=I.list qx;obtain ws|ry|py|_:=I.list qy;obtain ts|rz|pz|_:=I.list qz;obtain u|eu|ru:=rx.get ex;obtain v|ev|rv:=ry.get ey;obtain t'|et|rt:=rz.get ez;have D:=Fz hz hTI hTO h1 h2 h3 px.isList py.isList pz.isList hT h12 h13 h23;refine Rn D hz hTI hTO h1 h2 h3 px.isList py.isList pz.isList (u:=u) (v:=v) (t:=t') (by simpa using eu) (by simpa using ev) (by simpa using et) λh' a1 a2 a3 a4 a5 a6 hk=>?_
  refine #[_,rfl,wpAny_letOwnedTupleGo_zip a1 λh'' hz'' hs=>?_];have hT0:H s.6=none:=I.hok.fresh (ah _);have zne:s.6≠z:=pW (Yr hz)
  have up:∀b o,b∉[z,TO,i1,i2,i3]->s.heap.get? b=some o->h''.get? b=some o:=λb o hb e=>by
   have:=hk b o hb e;exact (hs.2 b λq=>hb (by simp [q])).trans this
  have fx:∀b∈[z,TO,i1,i2,i3],lQ X pins H b:=λb hb=>hf b (by
   simp only[ay,aH,or_false] at hb ⊢;rcases hb with rfl | rfl | rfl | rfl | rfl <;> simp)
  have nx:∀b o,H b=some o->b∉[z,TO,i1,i2,i3]:=λb o e hb=>by
   have:=(fx b hb).1;rw[this] at e;cases e
  have nT:∀{b:Addr} {o:HO},H b=some o->b≠s.6:=λe q=>by rw[q,hT0] at e;cases e
  have tup:h''.get? s.6=some { cls:=.type "tuple",data:=.seq [u,v,t'].toArray }:=(hs.2 _ zne).trans a6
  have I2:Inv X pins σ (upd H s.heap.objs.size (.tup [x,y,t])) { s with heap:=h'' }:=by
   refine I.step (g':=s.gens) (d':=s.drawn) (t':=s.toks) (ch:=[z,TO,i1,i2,i3]) (λb hb=>?_) (λb o _ _ hb e _=>up b o hb e) (λb o _ _ hb e _=>#[o.slots,up b o hb e]) (λb o hb e n=>?_)
    (λb o hb e=>#[o,up b o hb e]) (λb q e=>by rw[aY (nT e)];exact e) (λb o q e=>by rw[aY (nT e)];exact e) (λb q e=>#[[].toArray,by rw[aY (nT e),e];simp]) (λm hm=>?_) (λb o e=>?_) I.bare
   ·obtain _|f1|_|f3|f4|f5:=fx b hb;exact #[f3,f1,f4,f5]
   ·rw[aY (bR (Yr e))];exact n
   ·obtain o|es|ep|ho|r:=hm;exact #[o,es,ep,up _ o (λz=>(fx _ z).2.1 rfl) ho,r]
   ·by_cases hb:b=s.6
    ·subst hb;rw[aD] at e;cases e;exact #[jR rfl,[u,v,t'],.cons ru (.cons rv (.cons rt .nil)),#[_,tup,rfl,_,rfl]]
    ·rw[aY hb] at e;refine (I.hok b o e).stay (λc v' hc q=>up c v' ?_ q) (λc q=>by rw[aY (nT q)];exact q) λc xs q=>by rw[aY (nT q)];exact q
     rcases hc with rfl | hc
     ·exact nx _ _ e
     ·exact nx _ _ hc
  refine #[.ref s.6,_,I2,rfl,#[_,x,y,t,rfl,hT0,rfl,λxs' q=>by rw[I.list_inj q qx];exact ex,λys' q=>by rw[I.list_inj q qy];exact ey,λzs' q=>by rw[I.list_inj q qz];exact ez],?_,λb hb=>?_]
  ·have nd:=D.nd;simp only[cQ,ay,aH,or_false,not_or,iH,and_true,not_false_eq_true] at nd;obtain ⟨zT,z1,z2,z3⟩|_:=nd;exact #[hz'',up _ _ D.ti hTI,#[_,_,_,(hs.2 _ (YI zT)).trans a2],a3.at λo e=>(hs.2 _ (YI z1)).trans e,a4.at λo e=>(hs.2 _ (YI z2)).trans e,a5.at λo e=>(hs.2 _ (YI z3)).trans e]
  ·obtain ⟨o,e,_⟩:∃o,s.heap.get? b=some o/\True:=by
    obtain o1|g1|_:=h1;obtain o2|g2|_:=h2;obtain o3|g3|_:=h3;simp only[ay,aH,or_false] at hb;rcases hb with rfl | rfl | rfl | rfl | rfl | rfl
    ·exact #[_,hz,trivial]
    ·exact #[_,hTI,trivial]
    ·exact #[_,hTO,trivial]
    ·exact #[_,g1,trivial]
    ·exact #[_,g2,trivial]
    ·exact #[_,g3,trivial]
   rw[aY (bR (Yr e))];exact (hf b hb).1
 done:=by
  intro X hP hw hK hc i pins s σ H E I hf st hg;subst hP hw hK;obtain hz|hTI|⟨a,c,d,hTO⟩|h1|h2|h3:=st;obtain xs|ys|zs|qx|qy|qz|hend:=hg;obtain us|rx|px|_:=I.list qx;obtain ws|ry|py|_:=I.list qy;obtain ts|rz|pz|_:=I.list qz;have lx:=rx.9;have D:=Fz hz hTI hTO h1 h2 h3 px.isList py.isList pz.isList hT h12 h13 h23;refine Gy (I.ok.hd hc) D hz hTI h1 px.isList (by simp;lia) λh' hk=>#[rfl,?_]
  have fx:∀b∈[z,TO,i1,i2,i3],lQ X pins H b:=λb hb=>hf b (by
   simp only[ay,aH,or_false] at hb ⊢;rcases hb with rfl | rfl | rfl | rfl | rfl <;> simp)
  have nx:∀b o,H b=some o->b∉[z,TO,i1,i2,i3]:=λb o e hb=>by
   have:=(fx b hb).1;rw[this] at e;cases e
  refine I.step (g':=s.gens) (d':=s.drawn) (t':=s.toks) (ch:=[z,TO,i1,i2,i3]) (λb hb=>?_) (λb o _ _ hb e _=>hk b o hb e) (λb o _ _ hb e _=>#[o.slots,hk b o hb e]) (λb o hb e n=>n)
   (λb o hb e=>#[o,hk b o hb e]) (λb q e=>e) (λb o q e=>e) (λb q e=>#[[].toArray,by rw[e];simp]) (λm hm=>?_) (λb o e=>?_) I.bare
  ·obtain _|f1|_|f3|f4|f5:=fx b hb;exact #[f3,f1,f4,f5]
  ·obtain o|es|ep|ho|r:=hm;exact #[o,es,ep,hk _ o (λz=>(fx _ z).2.1 rfl) ho,r]
  ·refine (I.hok b o e).stay (λc v' hc q=>hk c v' ?_ q) (λc q=>q) λc xs q=>q
   rcases hc with rfl | hc
   ·exact nx _ _ e
   ·exact nx _ _ hc
 self:=λ_ _ _ _ _ st h=>ZE st.1 h
def Tb (K:FG9) (ta:TA):TI:=λσ H R=>ta σ H λvs H1=>∃l1 l2 l3,vs=[.ref l1,.ref l2,.ref l3]/\(∃xs,br K H1 l1 xs)/\(∃ys,br K H1 l2 ys)/\(∃zs,br K H1 l3 zs)/\R (VH K l1 l2 l3) H1
theorem Q0 {X:Cx} {a b c:Expr} {ta:TA} {p pos tpos:Pos} {elts:List Expr} {kk:Nat} (hg:Gl X "zip") (hm:X.mg "zip"=none) (ha:PA X [a,b,c] ta) (hs:Yu [a,b,c] X.env=[(false,eval a X.env),(false,eval b X.env),(false,eval c X.env)]:=by rfl) (hs2:Yu [b,c] X.env=[(false,eval b X.env),(false,eval c X.env)]:=by rfl) :
  PI X (.Tuple elts kk tpos) (.Call (.Name "zip" p) [a,b,c] [] pos) (Tb X.K ta):=by
 intro pins s σ H R I h;refine Call_ (mJ I hg hm boot_zip (YE (ib (ha pos pins s σ H _ I h) λus s1 #[vs,H1,I1,r1,q1]=>?_) (by rw[hs,hs2]) (by rw[hs2];rfl)));obtain l1|l2|l3|e|⟨xs,qx⟩|⟨ys,qy⟩|⟨zs,qz⟩|q:=q1;subst e;obtain u|v|t|rfl|ru|rv|rt:=vals3 r1;cases ru;cases rv;cases rt;obtain us|rx|px|_:=I1.list qx;obtain ws|ry|py|_:=I1.list qy;obtain ts|rz|pz|_:=I1.list qz;refine MG px.isList py.isList pz.isList λh' a1 a2 a3 a4 a5 a6 hk=>ZE a1 ?_
 have I2:Inv X pins σ H1 { s1 with heap:=h' }:=I1.kept (t':=s1.toks) hk;have lt:∀{i j:Nat},i < j->s1.6+i≠s1.6+j:=λh e=>bR h (Nat.add_left_cancel e)
 refine #[_,[s1.6+5,s1.6+3,s1.6+4,s1.6,s1.6+1,s1.6+2],_,_,H1,rfl,I2,Lr (s1.6+5) (s1.6+3) (s1.6+4) s1.heap.objs.size (s1.6+1) (s1.6+2) l1 l2 l3 (lt ()) (lt (i:=0) ()) (lt (i:=0) ()) (lt ()),#[a1,a2,#[_,_,_,a3],a4,a5,a6],λb hb=>?_,q]
 have hb':s1.6<=b:=by
  simp only[ay,aH,or_false] at hb;rcases hb with rfl | rfl | rfl | rfl | rfl | rfl <;> first | exact rg _ _ | exact ah _
 exact I1.fpOk hb' (I1.hok.fresh hb')
theorem ME {K:FG9} {g:TG} (Pv:Nat->List V->Hp->Prop) (hz:xs.9<=YB) (hw:ws.9=xs.9) (hv:zs.9=xs.9) (h0:Pv 0 [] H) (hl:∀i ys H,i<=xs.9->Pv i ys H->br K H l1 xs/\br K H l2 ws/\br K H l3 zs)
  (hs:∀i x y t ys H p,xs[i]?=some x->ws[i]?=some y->zs[i]?=some t->ys.9<=i->Pv i ys H->H p=none->qN σ₀ g tf te (.ref p) (upd H p (.tup [x,y,t])) (λy H'=>Pv (i+1) (ys++[y]) H') (λH'=>Pv (i+1) ys H'))
  (hd:∀ys H,ys.9<=xs.9->Pv xs.9 ys H->∀p,H p=none->Q (.ref p) (upd H p (.lst ys))):qX (VH K l1 l2 l3) σ₀ g tf te Q H:=by
 refine #[λi m ys H=>m=xs.9 - i/\i<=xs.9/\ys.9<=i/\Pv i ys H,#[xs.9,by simp,a8 _,a8 _,h0],?_];rintro i m ys H ⟨rfl,hi,hy,p⟩;obtain q1|q2|q3:=hl i ys H hi p;by_cases hlt:i < xs.9
 ·refine .inr #[#[xs,ws,zs,xs[i],ws[i]'(),zs[i]'(),q1,q2,q3,by simp [hlt],by simp,by simp],(),λy H'=>Pv (i+1) (ys++[y]) H',λH'=>Pv (i+1) ys H',λy H' p'=>#[xs.9 - (i+1),(),rfl,hlt,by rw[ao,aQ];lia,p'],λH' p'=>#[xs.9 - (i+1),(),rfl,hlt,(),p'],λx H' y=>?_];obtain r|x'|y'|t'|rfl|hr|rfl|e1|e2|e3:=y;exact hs i x' y' t' ys _ r (e1 xs q1) (e2 ws q2) (e3 zs q3) hy p hr
 ·have e:i=xs.9:=()
  subst e;exact .inl #[#[xs,ws,zs,q1,q2,q3,ah _],(),hd ys H hy p]
def NH (K:FG9) (C S:Addr) (f:Str):Sp:=λvs H Q _=>∃e y,vs=[.ref e,y]/\H e=some (Jx e (.ref C) none)/\∀dx,H dx=none->dx≠e->Q .non (upd (upd H dx (.xd [(f,y)])) e (Jx e (.ref C) (some dx)))
theorem F5 (hn:H e=none) (s:aE H H1) (hd:H1 dx=none):aE H (yR (upd (upd (upd H1 e u) dx o) e u') e):=λb w q=>by
 have be:b≠e:=λz=>by rw[z,hn] at q;cases q
 have bd:b≠dx:=λz=>by have:=s _ _ q;rw[z,hd] at this;cases this
 rw[ui be,aY be,aY bd,aY be];exact s _ _ q
inductive NG (K:FG9) (C Cn:Addr) (vs:List V) (H:Hp) (Q:VK) (E:XK):Prop
 | mk (x:Addr) (a c:Nat) (H0:Hp) (mv pt lk:LR9):vs=[.ref x]->oo K H0 H C x mv pt lk->js mv pt lk->mM mv pt a c->(∀R ps,bX (iX mv pt mv.9) mv.9 R ps->(∃w,Ck R mv.9 w)/\∀xs∈R,∀x∈xs,jV x)->(∀R ps H',aE H H'->bX (iX mv pt mv.9) mv.9 R ps->ps.9=mv.9->Q .non H')->(∀R ps r dx H',bX (iX mv pt mv.9) mv.9 R ps->ps.9 < mv.9->aE H H'->H r=none->df K H' r ((jN R ps mv.9).getD 0 [])->H' dx=some (.xd [("price",.ref r)])->E (.ref Cn) (some dx) H')->NG K C Cn vs H Q E
theorem NU (RR:bX rows n R ps):ps.9<=n:=by
 have inc:∀j,j < ps.9->j<=ps.getD j 0:=by
  intro j
  induction j with
  | zero=>intro _;exact a8 _
  | succ j ih =>
   intro hj;have:=ih ();have:=RR.2.2.inc j (j+1) () hj
   lia
 rcases eJ ps.9 with z | z
 ·lia
 ·have h1:=inc (ps.9 - 1) ();have h2:=RR.2.2.low (ps.9 - 1) ()
  lia
theorem LW (h:ps.9 < n):0 < (jN R ps n).9:=by
 unfold jN;rw[af];refine Nat.pos_of_ne_zero λz=>?_
 have e:Iy ps n=[]:=List.length_eq_zero_iff.mp z
 have all:∀c,c < n->c∈ps:=λc hc=>YM λq=>by
  have:=EB.mpr #[hc,q];rw[e] at this;cases this
 have:∀(k:Nat) (qs:List Nat),qs.9 < k->∃c,c < k/\c∉qs:=by
  intro k
  induction k with
  | zero=>exact λqs h=>absurd h (cP _)
  | succ k ih =>
   intro qs h;by_cases hk:k∈qs
   ·obtain c|hc|hn:=ih (qs.erase k) (by rw[List.length_erase_of_mem hk];have:=zD hk;lia);exact #[c,(),λz=>hn ((List.mem_erase_of_ne ()).mpr z)]
   ·exact #[k,iD _,hk]
 obtain c|hc|hn:=this n ps h;exact hn (all c hc)
def PM (xs:List Rat):Prop:=∃M,vH M (xs.map nm)
theorem NQ (h0:0 < M) (h1:M<=2^4300000) (h2:W<=2^4300000) (h:∀x∈xs,Tp M W x):PM xs:=by
 refine #[M,(),?_,λy hy=>?_]
 ·show ((M:Nat):Int).natAbs < 2^4400000
  rw[b9];exact aZ h1 (dm () ())
 ·obtain x|hx'|rfl:=au.mp hy;have t:=h x hx';refine #[gZ x,rn t,?_];obtain s|e|b:=uY t h0 (gZ x) (zF _) (rn t);have e2:(((nm x).1:Int):Rat)=(s:Rat):=by rw[<- e];exact mS x
  rw[dO.mp e2];exact aZ (ag b h2) (dm () ())
inductive Kp (K:FG9) (vs:List V) (H:Hp) (Q:VK) (E9:XK):Prop
 | mk (p q:Addr) (xs ys:List Rat):vs=[.ref p,.ref q]->df K H p xs->df K H q ys->ys.9=xs.9->xs.9<=1000->PM xs/\PM ys->(∀r H',aE H H'->bY K H' (fX xs ys) (.ref r)->Q (.ref r) H')->Kp K vs H Q E9
inductive Ko (K:FG9) (vs:List V) (H:Hp) (Q:VK) (E9:XK):Prop
 | mk (p q:Addr) (H0:Hp) (rows:LR9) (ys:List Rat):vs=[.ref p,.ref q]->bg K H0 H p rows->df K H q ys->rows.9<=1000->ys.9<=1000->((∀xs∈rows,xs.9=ys.9/\(PM xs/\PM ys)))->(∀r H',H r=none->aE H H'->df K H' r (rows.map λxs=>fX xs ys)->Q (.ref r) H')->Ko K vs H Q E9
inductive zW (K:FG9) (vs:List V) (H:Hp) (Q:VK) (E9:XK):Prop
 | mk (p q:Addr) (w:Nat) (H0 H1:Hp) (one other:LR9):vs=[.ref p,.ref q,.int w]->bg K H0 H p one->bg K H1 H q other->one.9<=1000->other.9<=1000->w<=1000->((∀xs∈one,xs.9=other.9/\∀ys∈cx other w,PM ys/\PM xs))->(∀xs∈other,xs.9=w)->(∀r H',H r=none->aE H H'->bg K H H' r (ju one other w)->Q (.ref r) H')->zW K vs H Q E9
inductive Cv (K:FG9) (C:Addr) (vs:List V) (H:Hp) (Q:VK) (E9:XK):Prop
 | mk (x p:Addr) (H0 H1:Hp) (mv pt lk N:LR9):vs=[.ref x,.ref p]->oo K H0 H C x mv pt lk->js mv pt lk->bg K H1 H p N->N.9<=100->((∀xs∈N,xs.9=mv.9/\∀ys∈cx mv mv.9,PM ys/\PM xs))->(∀r H',H r=none->aE H H'->bg K H H' r (ju N mv mv.9)->Q (.ref r) H')->Cv K C vs H Q E9
def Xx (K:FG9) (a:Addr) (n:Nat):It :=
 #[λi H=>i < n/\∃xs x,br K H a xs/\xs[n - 1 - i]?=some x,λi H x H'=>H'=H/\∀xs,br K H a xs->xs[n - 1 - i]?=some x,λi _=>n<=i]
theorem Nn {P:YS} {w:Y9} {K:FG9} {tg:Expr} (a it:Addr) (n:Nat):Turn P w K tg (Xx K a n) [it] it (λi h=>i<=n/\h.IsRevIter it a ((n:Int) - 1 - (i:Nat))) where
 mem:=by simp
 obj:=λi h st b hb=>by
  have e:b=it:=by simpa using hb
  subst e;obtain _|o|e|c|d:=st;exact #[o,e,λv z=>by rw[d] at z;cases z]
 keep:=λi h h' st k=>#[st.1,st.2.at λo e=>k it (by simp) o e]
 item:=by
  intro X hP hw hK hc i pins s σ H E I hf st hg;subst hP hw hK;obtain hi|xs|x|hq|hx:=hg;obtain its|rv|p|hz:=I.list hq;obtain u|hu|ru:=rv.get hx;obtain f0|f1|f2|f3|f4|f5:=hf it (by simp);have st2:=st.2;rw[show (n:Int) - 1 - (i:Nat)=((n - 1 - i:Nat):Int) by lia] at st2;refine wpAny_pyNext_rev_item st2 p.isList (x:=u) (by simpa using hu) λh' st' sb=>?_
  have I1:Inv X pins σ H { s with heap:=h' }:=I.turned (t':=s.toks) (λb o hb e=>(sb.2 b hb).trans e) f0 f1 f3 f4 f5;rw[show ((n - 1 - i:Nat):Int) - 1=(n:Int) - 1 - ((i+1:Nat):Int) by lia] at st';obtain o|e|c|d:=id st';exact #[u,rfl,KO (s:={ s with heap:=h' }) e c d () ⟨x,H,I1,ru,⟨rfl,λys hy=>by rw[I.list_inj hy hq];exact hx⟩,#[hi,st'],λb hb=>(hf b hb).1⟩]
 done:=by
  intro X hP hw hK hc i pins s σ H E I hf st hg;subst hP hw hK;obtain f0|f1|f2|f3|f4|f5:=hf it (by simp);have st2:=st.2;have:n<=i:=hg;have:=st.1;rw[show (n:Int) - 1 - (i:Nat)=-1 by lia] at st2;exact wpAny_pyNext_rev_end (I.ok.hd hc) st2 λh' eb=>#[rfl,I.turned (t':=s.toks) (λb o hb e=>eb b o hb e) f0 f1 f3 f4 f5]
 self:=λ_ _ _ _ _ st h=>wpAny_pyIter_revIter st.2 h
def WS (K:FG9) (ta:TA):TI:=λσ H R=>ta σ H λvs H1=>∃l xs,vs=[.ref l]/\br K H1 l xs/\R (Xx K l xs.9) H1
theorem US {X:Cx} {e1:Expr} {ta:TA} {p pos:Pos} {tg:Expr} (hg:Gl X "reversed") (hm:X.mg "reversed"=none) (ha:PA X [e1] ta) (hs:Yu [e1] X.env=[(false,eval e1 X.env)]:=by rfl) :
  PI X tg (.Call (.Name "reversed" p) [e1] [] pos) (WS X.K ta):=by
 intro pins s σ H R I h;refine Call_ (mJ I hg hm boot_reversed (YE (ib (ha pos pins s σ H _ I h) λus s1 #[vs,H1,I1,r1,q1]=>?_) hs rfl));obtain l|xs|e|qx|q:=q1;subst e;obtain u|rfl|ru:=vals1 r1;cases ru;obtain us|rx|px|_:=I1.list qx;have lx:=rx.9;have kp:∀b o,s1.heap.get? b=some o->(s1.heap.push (revObj l ((us.5.7:Int) - 1))).get? b=some o:=λb o e=>Ym _ e
 have st:(s1.heap.push (revObj l ((us.5.7:Int) - 1))).IsRevIter s1.heap.objs.size l ((us.5.7:Int) - 1):=#[_,Yw _ rfl,rfl,rfl];refine call_reversed_list px.isList (wpAny_pyIter_revIter st ?_);have I2:Inv X pins σ H1 { s1 with heap:=s1.heap.push (revObj l ((us.5.7:Int) - 1)) }:=I1.kept (t':=s1.toks) kp;refine #[_,[s1.6],_,_,H1,rfl,I2,Nn l s1.heap.objs.size xs.9,#[a8 _,?_],λb hb=>?_,q]
 ·have e:((us.5.7:Int) - 1)=(xs.9:Int) - 1 - ((0:Nat):Int):=by rw[aM];lia
  rw[<- e];exact st
 ·have hb':b=s1.6:=by simpa using hb
  subst hb';exact I1.fpOk (ah _) (I1.hok.fresh (ah _))
theorem RI {K:FG9} {g:TG} {tb:TS} {D:Ends} (Pv:Nat->St->Hp->Prop) (h0:Pv 0 σ H) (hl:∀i σ H,i<=xs.9->Pv i σ H->br K H a xs)
  (hs:∀i x σ H,i < xs.9->xs[xs.9 - 1 - i]?=some x->Pv i σ H->g x σ H λσ2 H2=>tb { D with nx:=Pv (i+1),ct:=Pv (i+1),bk:=D.nx } σ2 H2) (hd:∀σ H,Pv xs.9 σ H->D.nx σ H) :
  ∃W:Nat->Nat->St->Hp->Prop,(∃m,W 0 m σ H)/\∀i m σ H,W i m σ H →
   ((Xx K a xs.9).stop i H/\D.nx σ H)\/((Xx K a xs.9).go i H/\∃N:St->Hp->Prop,(∀σ' H',N σ' H'->∃m',m' < m/\W (i+1) m' σ' H')/\∀x H',(Xx K a xs.9).yld i H x H'->g x σ H' λσ2 H2=>tb { D with nx:=N,ct:=N,bk:=D.nx } σ2 H2):=by
 refine #[λi m σ H=>m=xs.9 - i/\i<=xs.9/\Pv i σ H,#[xs.9,by simp,a8 _,h0],?_];rintro i m σ H ⟨rfl,hi,p⟩;have q:=hl i σ H hi p;by_cases hlt:i < xs.9
 ·refine .inr #[#[hlt,xs,xs[xs.9 - 1 - i]'(),q,ae _],Pv (i+1),λσ' H' p'=>#[xs.9 - (i+1),(),rfl,hlt,p'],λx H' y=>?_];obtain rfl|e:=y;exact hs i x σ _ hlt (e xs q) p
 ·have e:i=xs.9:=()
  subst e;exact .inl #[ah _,hd σ H p]
def DA (mv:LR9) (x:List Rat):List Rat:=(cx mv mv.9).map λys=>fX ys x
def wW (mv:LR9) (row wish:List Rat):Nat->List Rat
 | 0=>row
 | k+1=>W0 (λx y=>x - y) (DA mv (wW mv row wish k)) (row.map λy=>wish.getD (wish.9 - 1 - k) 0*y)
theorem Dz:(DA mv x).9=mv.9:=by unfold DA;rw[af,kr]
theorem yj {mv:LR9} {row wish:List Rat} (h:row.9=mv.9):∀k,(wW mv row wish k).9=mv.9
 | 0=>h
 | k+1=>by
  show (W0 _ _ _).9=_
  rw[aT,Dz,af,h,jZ]
structure Yl (mv:LR9) (row wish:List Rat):Prop where
 col:∀ys∈cx mv mv.9,PM ys
 rw:∀k,k < wish.9->PM (wW mv row wish k)
 tk:∀k,k < wish.9->∀z∈DA mv (wW mv row wish k),jV z
 rz:∀z∈row,jV z
 ws:∀z∈wish,jV z
 mul:∀a∈wish,∀z∈row,jV (a*z)
inductive FU (K:FG9) (C:Addr) (vs:List V) (H:Hp) (Q:VK) (E9:XK):Prop
 | mk (x p q:Addr) (H0:Hp) (mv pt lk:LR9) (row wish:List Rat):vs=[.ref x,.ref p,.ref q]->oo K H0 H C x mv pt lk->js mv pt lk->df K H p row->row.9=mv.9->df K H q wish->wish.9<=100->Yl mv row wish->(∀r H',aE H H'->df K H' r (wW mv row wish wish.9)->Q (.ref r) H')->FU K C vs H Q E9
structure Yk (mv pt lk F:LR9):Prop where
 f2:∀xs∈cx pt mv.9,∀ys∈cx F mv.9,yr ys xs
 sm:∀line∈mv,∀x∈line,jV x
 st:∀more∈ju (cx pt mv.9) F mv.9,∀x∈more,jV x
 ok:MT (kx mv pt F)/\MT pt/\MT lk
inductive zY (K:FG9) (C:Addr) (vs:List V) (H:Hp) (Q:VK) (E9:XK):Prop
 | mk (x p:Addr) (H0 H1:Hp) (mv pt lk F:LR9):vs=[.ref x,.ref p]->oo K H0 H C x mv pt lk->js mv pt lk->bg K H1 H p F->F.9=pt.9->(∀xs∈F,xs.9=mv.9)->Yk mv pt lk F->(∀r H',H r=none->aE H H'->oo K H H' C r (kx mv pt F) pt lk->Q (.ref r) H')->zY K C vs H Q E9
def kF (sts gv:LR9) (n:Nat):LR9:=(Yq (n+1)).map λj=>sts.getD j []++gv.getD j []++[if j=n then 1 else 0]
def ic (R:LR9) (n i:Nat):LR9:=cx (R.map (·.drop n)) (i+1)
structure Yf (mv pt lk:LR9) (wish:List Rat) (pu:List Rat) (R:LR9):Prop where
 cl:Yk mv pt lk ((ic R mv.9 pt.9).take pt.9)
 am:Yl (kx mv pt ((ic R mv.9 pt.9).take pt.9)) ((ic R mv.9 pt.9).getD pt.9 []) wish
 rz:∀xs∈(ic R mv.9 pt.9).take pt.9,∀z∈xs,jV z
 mz:∀z∈wW (kx mv pt ((ic R mv.9 pt.9).take pt.9)) ((ic R mv.9 pt.9).getD pt.9 []) wish wish.9,jV z/\∀b∈pu,jV (b*z)
 gz:∃M N,0 < M/\M<=2^12000/\0 < N/\N<=2^12000/\(∀xs∈(ic R mv.9 pt.9).take pt.9,∀z∈xs,Fr M (2^12000) z)/\∀z∈wW (kx mv pt ((ic R mv.9 pt.9).take pt.9)) ((ic R mv.9 pt.9).getD pt.9 []) wish wish.9,Fr N (2^12000) z
def Sv (mv pt lk:LR9) (wish:List Rat):Prop:=∀sts pus,Fs mv pt sts pus->pus.9=mv.9->(∀pu∈pus,∀z∈pu,z=(0:Rat)\/z=1)->∃w,Ck ((kF sts (pus++[Mg pt.9 0]) mv.9).drop 1) (mv.9+pt.9+1) w/\∀R ps,bX ((kF sts (pus++[Mg pt.9 0]) mv.9).drop 1) (mv.9+pt.9+1) R ps->ps.9=mv.9->Yf mv pt lk wish ((pus++[Mg pt.9 0]).getD 0 []) R
def Yj (mv pt:LR9) (wish:List Rat) (G:LR9):Prop:=(∀x:List Rat,x.9=mv.9->∀c,(jr (kx mv pt G) mv.9 x).getD c 0=aK mv.9 λi=>wish.getD i 0*(jr (kx mv pt G) i x).getD c 0)/\∃N,0 < N/\N<=2^24000/\∀xs∈G,∀z∈xs,Fr N (2^12001) z
theorem Pk (h:xs.9=k+1):qU xs none (some (-1))=xs.take k:=by
 unfold qU
 have e:HT.D3 xs.9 xs.9 (some (-1))=k:=by
  show (if (-1:Int) < 0 then ((-1:Int)+(xs.9:Int)).toNat else min (-1:Int).toNat xs.9)=k
  rw[if_pos (),h]
  lia
 rw[e,HT.tY,List.drop_zero,Nat.sub_zero]
theorem Ue (h:z=0\/z=1):jV z:=by
 rcases h with rfl | rfl
 ·exact zH
 ·exact j7 (M:=1) (W:=1) #[1,by rw[show ((1:Nat):Rat)=1 from rfl,show ((1:Int):Rat)=1 from rfl];grind,()] () bC bC
theorem JP {mv pt sts pus:LR9} {M1 M2 V1 B:Nat} (gm:GF M1 V1 mv) (gp:GF M2 V1 pt) (hB:(mv.9+pt.9)*V1<=B) (B1:1<=B) (C:Fs mv pt sts pus) (z01:∀pu∈pus,∀z∈pu,z=(0:Rat)\/z=1):∀j,j < sts.9->∀c,Fr (M1^j*M2) (B^j) (aS sts j c)
 | 0,_,c=>by rw[C.zero c];exact Fr.zero
 | j+1,hj,c=>by
  have hj':j < pus.9:=by have:=C.len;lia
  rw[C.step j hj' c];have ih:=JP gm gp hB B1 C z01 j ()
  have f1:Fr (M1^(j+1)*M2) (mv.9*(V1*B^j)) (aK mv.9 λi=>aS mv c i*aS sts j i):=zd _ λi _=>by
   have:=(qL (i:=c) (j:=i) gm).mul (ih i);rw[show M1*(M1^j*M2)=M1^(j+1)*M2 by rw[c7,<- cD,bu M1 (M1^j)]] at this;exact this
  have f2:Fr (M1^(j+1)*M2) (pt.9*V1) (aK pt.9 λl=>aS pus j l*aS pt l c):=zd _ λl _=>by
   have hz:aS pus j l=0\/aS pus j l=1:=by
    unfold aS;rw[aa (l:=pus),ae hj'];show (pus[j]).getD l 0=0\/(pus[j]).getD l 0=1
    rw[aa];cases e:(pus[j])[l]? with
    | none=>exact .inl rfl
    | some z=>exact z01 _ (az hj') z (ai e)
   rcases hz with z | z
   ·rw[z,show (0:Rat)*aS pt l c=0 by grind];exact Fr.zero
   ·rw[z,show (1:Rat)*aS pt l c=aS pt l c by grind];exact (qL gp).scaleL (M1^(j+1))
  refine (f1.add f2).mono ?_;have b1:1<=B^j:=Nat.one_le_pow _ _ B1
  have e1:mv.9*(V1*B^j)+pt.9*V1<=(mv.9+pt.9)*V1*B^j:=by
   rw[PU,PU,cD mv.9];exact Nat.add_le_add_left (eU _ b1) _
  rw[c7,bu (B^j) B];exact ag e1 (ax _ hB)
theorem EY (D:js mv pt lk) (m1:0 < M1) (m2:0 < M2) (gm:GF M1 V1 mv) (gp:GF M2 V1 pt) (v1:1<=V1) (hB:(mv.9+pt.9)*V1<=B) (ha:M1^mv.9*M2<=2^a) (hb:B^mv.9<=2^b) (f1:(a+a)+(b+b)<=3930000) (a15:a<=1800000) (b18:b<=1800000) (f2:8*(a+b+4)<=8900000):SE mv pt:=by
 intro sts pus C z01 hk;have d8:=D.n8;have n1:1<=mv.9:=()
 have B1:V1<=B:=ag (cG _ ()) hB;have B0:1<=B:=ag v1 B1;have lC:=C.len;have fr:=JP gm gp hB B0 C z01;have pM:∀j,j<=mv.9->∃q,0 < q/\M1^mv.9*M2=q*(M1^j*M2):=λj hj=>#[M1^(mv.9 - j),jW m1,by rw[<- cD,<- bG,IE hj]]
 have pB:∀j,j<=mv.9->B^j<=B^mv.9:=λj hj=>ar B0 hj
 have up:∀{j:Nat} {V':Nat} {x:Rat},j<=mv.9->Fr (M1^j*M2) V' x->V'<=B^mv.9->Fr (M1^mv.9*M2) (B^mv.9) x:=λ{j V' x} hj h hv=>by
  obtain q|_|e:=pM j hj;rw[e];exact (h.scaleL q).mono hv
 have M0:0 < M1^mv.9*M2:=b8 (jW m1) m2;have st:∀j,j < sts.9->∀c,Fr (M1^mv.9*M2) (B^mv.9) (aS sts j c):=λj hj c=>up () (fr j hj c) (pB j ())
 have lst:∀x∈sts.getD pus.9 [],Fr (M1^mv.9*M2) (B^mv.9) x:=λx hx=>by
  obtain c|hc|rfl:=bN hx;have:=st pus.9 () c;unfold aS at this;rw[aa (l:=sts.getD pus.9 []),ae hc] at this;exact this
 have gmv:∀xs∈mv,∀x∈xs,Fr (M1^mv.9*M2) (B^mv.9) x:=λxs hx x hx'=>by
  have h:=(gm xs hx x hx').scaleL (M1^(mv.9 - 1)*M2)
  rw[show M1^(mv.9 - 1)*M2*M1=M1^mv.9*M2 by
   have:M1^mv.9=M1^(mv.9 - 1)*M1:=by rw[<- c7,Nat.succ_eq_add_one,IE n1]
   rw[this,cD,cD,bu M2 M1]] at h
  exact h.mono (ag B1 (by have:=pB 1 n1;rwa [Nat.pow_one] at this))
 have gpt:∀xs∈pt,∀x∈xs,Fr (M1^mv.9*M2) (B^mv.9) x:=λxs hx x hx'=>by
  refine up (j:=0) (a8 _) (V':=V1) ?_ (ag B1 (by have:=pB 1 n1;rwa [Nat.pow_one] at this));rw[Nat.pow_zero,xf];exact gp xs hx x hx'
 refine #[λxs hx=>#[a,b,a,b,#[_,_,M0,ha,hb,gmv xs hx],#[_,_,M0,ha,hb,lst],()],#[a+b,_,B^mv.9*(M1^mv.9*M2),M0,ag ha (ar () ()),b8 (jW B0) M0,?_,λys hy x hx=>?_,(),?_,?_],λpu hpu=>#[_,_,M0,ag ha (ar () a15),ag hb (ar () b18),λx hx=>?_]]
 ·rw[bG,bu];exact aP ha hb
 ·unfold cx at hy;obtain c|hc|rfl:=au.mp hy;obtain xs|hxs|rfl:=au.mp hx
  have key:∀y∈xs,Fr (M1^mv.9*M2) (B^mv.9) y:=by
   rcases aB.mp hxs with z | z
   ·intro y hy;obtain j|hj|rfl:=bN z;obtain d|hd|rfl:=bN hy;have:=st j hj d;unfold aS at this;rw[aa (l:=sts),ae hj] at this;show Fr _ _ _
    rw[show ((some sts[j]).getD [])=sts[j] from rfl,aa,ae hd] at this;exact this
   ·rcases ay.mp z with rfl | z
    ·intro y hy;obtain d|hd|rfl:=bN hy
     have lw:(sts.getD pus.9 []).9=mv.9:=by
      rw[aa,ae ()];exact C.wide _ (az _)
     have e:=CO (R:=[sts.getD pus.9 []]) (i:=0) rfl D.mw (λxs hx=>by rw[aU.mp hx];exact lw) Nat.one_pos d
     have e':(oS mv (sts.getD pus.9 []))[d]=aK mv.9 λi=>aS mv d i*aS sts pus.9 i:=by
      rw[<- show (oS mv (sts.getD pus.9 [])).getD d 0=(oS mv (sts.getD pus.9 []))[d] by rw[aa,ae hd];rfl];exact e
     rw[e'];refine up (j:=pus.9+1) () (V':=mv.9*(V1*B^pus.9)) (zd _ λi _=>?_) ?_
     ·have:=(qL (i:=d) (j:=i) gm).mul (fr pus.9 () i);rw[show M1*(M1^pus.9*M2)=M1^(pus.9+1)*M2 by rw[c7,<- cD,bu M1 (M1^pus.9)]] at this;exact this
     ·refine ag ?_ (pB (pus.9+1) ());rw[c7,bu (B^_) B,<- cD];exact ax _ (ag (ax _ (rg _ _)) hB)
    ·exact gpt xs z
  have:Fr (M1^mv.9*M2) (B^mv.9) (xs.getD c 0):=by
   rw[aa];cases e:xs[c]? with
   | none=>exact Fr.zero
   | some y=>exact key y (ai e)
  exact this
 ·rw[kr];lia
 ·refine ag (ax _ (Nat.min_le_left ..)) ?_;rw[kr];exact ag (ax _ d8) f2
 ·rcases aB.mp hx with z | z
  ·exact lst x z
  ·rcases hpu x z with rfl | rfl
   ·exact Fr.zero
   ·exact #[((M1^mv.9*M2:Nat):Int),by rw[aJ];grind,by rw[b9];exact cG _ (jW B0)]
theorem T7 (h:M<=W):Tp M W 1:=#[((M:Nat):Int),by rw[aJ];grind,by rw[b9];exact h]
theorem Nr (h:M<=W) (hz:z=0\/z=1):Tp M W z:=by
 rcases hz with rfl | rfl
 ·exact Tp.zero
 ·exact T7 h
theorem UZ (h:x∈rows.getD j []):∃d,x=aS rows j d:=by
 obtain d|hd|rfl:=bN h;refine #[d,?_];unfold aS;rw[aa (l:=rows.getD j []),ae hd];rfl
theorem eF (h:a<=b):2^a<=2^b:=ar () h
theorem ie (h1:x<=2^a) (h2:y<=2^b):x*y<=2^(a+b):=by rw[bG];exact aP h1 h2
theorem qR (h:x<=2^a) (n:Nat):x^n<=2^(a*n):=by rw[w5];exact nM h n
theorem WJ (B:Bd mv pt M1 M2 V1 a1 a2 c) (D:js mv pt lk) (C:Fs mv pt sts pus) (lp:pus.9=mv.9) (z01:∀pu∈pus,∀z∈pu,z=(0:Rat)\/z=1):∀xs∈(kF sts (pus++[Mg pt.9 0]) mv.9).drop 1,∀x∈xs,Tp (M1^mv.9*M2) (2^(a1*mv.9+a2+c*mv.9)) x:=by
 intro xs hx x hx';have i4:=D.i4;have B0:1<=2^c:=bC;have hM:M1^mv.9*M2<=2^(a1*mv.9+a2):=ie (qR B.b1 _) B.b2;have hM':M1^mv.9*M2<=2^(a1*mv.9+a2+c*mv.9):=ag hM (eF ());have fr:=JP B.gm B.gp (B:=2^c) (ag (ax _ ()) B.vc) B0 C z01;unfold kF at hx;obtain j|hj|rfl:=au.mp (md hx);have hj':=dh.mp hj;have lC:=C.len;rcases aB.mp hx' with hx' | hx'
 ·rcases aB.mp hx' with hx' | hx'
  ·obtain d|rfl:=UZ hx';have e:M1^mv.9*M2=M1^(mv.9 - j)*(M1^j*M2):=by rw[<- cD,<- bG,IE ()]
   have f:=(fr j () d).scaleL (M1^(mv.9 - j));rw[<- e] at f;refine Tp.of (f.mono (ar B0 (show j<=mv.9 by lia))) ?_;rw[ij (a1*mv.9+a2)];exact ie (qR (ah _) _) hM
  ·refine Nr hM' ?_;rw[aa] at hx';cases e:(pus++[Mg pt.9 (0:Rat)])[j]? with
   | none=>rw[e] at hx';cases hx'
   | some pu =>
    rw[e] at hx';rcases aB.mp (ai e) with z | z
    ·exact z01 pu z x hx'
    ·rw[aU.mp z] at hx';exact .inl (gJ hx')
 ·refine Nr hM' ?_;rw[aU.mp hx']
  split
  ·exact .inr rfl
  ·exact .inl rfl
theorem Tu (B:Bd mv pt M1 M2 V1 a1 a2 c) (i4:pt.9<=4) (M0:0 < M) (hM:M<=2^e) (hF:∀xs∈F,∀x∈xs,Tp M (2^e) x):∀xs∈kx mv pt F,∀x∈xs,Tp (M1*(M2*M)) (2^(c+a1+a2+e+1)) x:=by
 intro xs hx x hx';have vc:=B.vc;have v4:4*V1<=2^c:=ag (ax _ ()) vc;unfold kx fR at hx;obtain a|_|rfl:=au.mp hx;obtain b|_|rfl:=au.mp hx'
 have t1:Tp (M1*(M2*M)) (2^(c+a1+a2+e)) (aS mv a b):=by
  refine Tp.up (Tp.of (qL B.gm) (ah _)) _ ?_;rw[show c+a1+a2+e=(c+a1)+(a2+e) by lia];exact ie (ie () B.b1) (ie B.b2 hM)
 have t2:Tp (M1*(M2*M)) (2^(c+a1+a2+e)) (aK pt.9 λk=>aS pt k a*aS F k b):=by
  have h:Tp (M2*M) (pt.9*(V1*M2*2^e)) (aK pt.9 λk=>aS pt k a*aS F k b):=Tp.sum λk _=>Tp.mul (Tp.of (qL B.gp) (ah _)) (SH hF k b)
  have h2:=h.up M1 (ah _);rw[bu (M2*M)] at h2;refine h2.mono ?_;rw[show c+a1+a2+e=(c+(a2+e))+a1 by lia,show pt.9*(V1*M2*2^e)=(pt.9*V1)*(M2*2^e) by simp only[cD]];exact ie (ie (ag (ax _ i4) v4) (ie B.b2 (ah _))) B.b1
 refine (t1.add t2).mono ?_;rw[c7]
 lia
theorem Xq {M Mc e g Mw ew:Nat} (hMw:Mw<=2^ew) (n4:A.9<=8) (lr:row.9=A.9) (hA:∀xs∈A,∀x∈xs,Tp Mc (2^g) x) (hg:Mc<=2^g) (hr:∀x∈row,Tp M (2^e) x) (hw:∀z∈wish,Tp Mw (2^ew) z):∀k,(∀x∈wW A row wish k,Tp (Mc^k*(M*Mw)) (2^(e+ew+k*(g+4))) x)/\∀x∈DA A (wW A row wish k),Tp (Mc^(k+1)*(M*Mw)) (2^(e+ew+k*(g+4)+(g+3))) x:=by
 have tk:∀(k:Nat) (l:List Rat),l.9=A.9->(∀x∈l,Tp (Mc^k*(M*Mw)) (2^(e+ew+k*(g+4))) x)->∀x∈DA A l,Tp (Mc^(k+1)*(M*Mw)) (2^(e+ew+k*(g+4)+(g+3))) x:=by
  intro k l ll h x hx;unfold DA at hx;obtain ys|hy|rfl:=au.mp hx;have ly:ys.9=A.9:=mB ys hy;rw[iO (by rw[ly,ll])];have t:=vL (n:=A.9) hA ys hy;have s:Tp (Mc*(Mc^k*(M*Mw))) (ys.9*(2^g*2^(e+ew+k*(g+4)))) (aK ys.9 λj=>ys.getD j 0*l.getD j 0):=Tp.sum λj _=>Tp.mul (pC t j) (pC h j)
  rw[<- cD,bu Mc (Mc^k),<- c7] at s;refine s.mono ?_;rw[show e+ew+k*(g+4)+(g+3)=3+(g+(e+ew+k*(g+4))) by lia];exact ie () (ie (ah _) (ah _))
 intro k
 have main:∀x∈wW A row wish k,Tp (Mc^k*(M*Mw)) (2^(e+ew+k*(g+4))) x:=by
  induction k with
  | zero =>
   intro x hx;rw[Nat.pow_zero,xf,Ln,zC];refine (hr x hx).up Mw ?_;exact ie (ah _) hMw
  | succ k ih =>
   intro x hx;have hx:x∈W0 (λx y=>x - y) (DA A (wW A row wish k)) (row.map λy=>wish.getD (wish.9 - 1 - k) 0*y):=hx;obtain i|hi|rfl:=bN hx;have hi1:i < (DA A (wW A row wish k)).9:=by rw[aT] at hi;lia
   have hi2:i < row.9:=by rw[aT,af] at hi;lia
   rw[dn,cK,IA];have h1:=tk k _ (yj lr k) ih _ (az hi1)
   have h2:Tp (M*Mw) (2^(ew+e)) (wish.getD (wish.9 - 1 - k) 0*row[i]):=by
    have:=Tp.mul (pC hw (wish.9 - 1 - k)) (hr _ (az hi2));rw[bu Mw M,<- bG] at this;exact this
   have h3:=(h2.up (Mc^(k+1)) (ah _)).neg;rw[bu (M*Mw)] at h3;refine (h1.add h3).mono ?_;have b1:2^(ew+e)*Mc^(k+1)<=2^(ew+e+g*(k+1)):=ie (ah _) (qR hg _)
   have b2:ew+e+g*(k+1)<=e+ew+k*(g+4)+(g+3):=by
    rw[o8,bu g k,o8]
    lia
   have b3:=eF b2;rw[show e+ew+(k+1)*(g+4)=e+ew+k*(g+4)+(g+3)+1 by rw[dG];lia,c7 2]
   lia
 exact #[main,tk k _ (yj lr k) main]
theorem DE (Mw0:0 < Mw) (hMw:Mw<=2^ew) (B:Bd mv pt M1 M2 V1 a1 a2 c) (D:js mv pt lk) (n4:mv.9<=8) (hl:MT lk) (lw:wish.9=mv.9) (hw:∀z∈wish,Tp Mw (2^ew) z) {e g:Nat} (he:mv.9*(a1*mv.9+a2+c*mv.9+4)=e) (hg:c+a1+a2+e+1=g) (hz:e+ew+mv.9*(g+4)<=3970000) (hz2:2*e+a2+c<=3930000) (hz3:e+g+ew+20<=3970000) (hz4:c+a1<=12000) (hz5:e+ew+mv.9*(g+4)<=12000):Sv mv pt lk wish:=by
 intro sts pus C lp z01;have i4:=D.i4;have m1:=B.m1;have m2:=B.m2;have v0:V1<=2^c:=ag (cG _ ()) B.vc;have t0:=WJ B D C lp z01;have lC:=C.len;have lL:((kF sts (pus++[Mg pt.9 0]) mv.9).drop 1).9=mv.9:=by unfold kF;rw[eV,af,aN];lia
 have wL:∀xs∈(kF sts (pus++[Mg pt.9 0]) mv.9).drop 1,xs.9=mv.9+pt.9+1:=λxs hx=>by
  unfold kF at hx;obtain j|hj|rfl:=au.mp (md hx);have hj':=dh.mp hj;rw[ao,ao,aQ]
  have e1:(sts.getD j []).9=mv.9:=by
   rw[aa,ae ()];exact C.wide _ (az _)
  have e2:((pus++[Mg pt.9 0]).getD j []).9=pt.9:=by
   have hl:j < (pus++[Mg pt.9 (0:Rat)]).9:=by rw[ao,aQ];lia
   rw[aa,ae hl];rcases aB.mp (az hl) with z | z
   ·exact C.wpu _ z
   ·show ((pus++[Mg pt.9 (0:Rat)])[j]).9=_
    rw[aU.mp z];exact cE
  lia
 generalize (kF sts (pus++[Mg pt.9 0]) mv.9).drop 1=L at t0 lL wL ⊢
 have zp:∀b∈(pus++[Mg pt.9 (0:Rat)]).getD 0 [],b=0\/b=1:=λb hb=>by
  rw[aa] at hb;cases e:(pus++[Mg pt.9 (0:Rat)])[0]? with
  | none=>rw[e] at hb;cases hb
  | some pu =>
   rw[e] at hb;rcases aB.mp (ai e) with z | z
   ·exact z01 pu z b hb
   ·rw[aU.mp z] at hb;exact .inl (gJ hb)
 generalize (pus++[Mg pt.9 (0:Rat)]).getD 0 []=p0 at zp ⊢;have hM:M1^mv.9*M2<=2^(a1*mv.9+a2):=ie (qR B.b1 _) B.b2;have M0:0 < M1^mv.9*M2:=b8 (jW m1) m2;have mn:min L.9 (mv.9+pt.9+1)=mv.9:=by rw[lL];lia
 have sw:mv.9=0\/a1*mv.9+a2+c*mv.9+4<=e:=by
  rcases eJ mv.9 with z | z
  ·exact .inl z
  ·exact .inr (by rw[<- he];exact cG _ z)
 have sw':a1*mv.9+a2+c*mv.9<=4000000:=by
  rcases sw with z | z
  ·rw[z];lia
  ·lia
 have SL:Ck L (mv.9+pt.9+1) (a1*mv.9+a2+c*mv.9):=#[_,_,M0,ag hM (eF ()),bC,ah _,t0,(),(),by rw[mn,he];lia];refine #[_,SL,λR ps RR rk=>?_];obtain _|M|Mp|Me|tR:=SX wL SL RR;rw[mn,he] at Me tR
 have tS:∀xs∈ic R mv.9 pt.9,∀x∈xs,Tp M (2^e) x:=by
  unfold ic;refine vL λxs hx x hx'=>?_
  obtain ys|hy|rfl:=au.mp hx;exact tR ys hy x (md hx')
 have lR:R.9=mv.9:=RR.1.trans rk;have lS:(ic R mv.9 pt.9).9=pt.9+1:=kr
 have wS:∀xs∈ic R mv.9 pt.9,xs.9=mv.9:=λxs hx=>by
  unfold ic at hx;rw[mB xs hx,af,lR]
 have mr:(ic R mv.9 pt.9).getD pt.9 []∈ic R mv.9 pt.9:=by
  rw[aa,ae ()];exact az _
 have lr:=wS _ mr;have tr:=tS _ mr;have tF:∀xs∈(ic R mv.9 pt.9).take pt.9,∀x∈xs,Tp M (2^e) x:=λxs hx=>tS xs (ck hx)
 have lF:((ic R mv.9 pt.9).take pt.9).9<=4:=by rw[bf];lia
 suffices h:Yk mv pt lk ((ic R mv.9 pt.9).take pt.9)/\Yl (kx mv pt ((ic R mv.9 pt.9).take pt.9)) ((ic R mv.9 pt.9).getD pt.9 []) wish/\(∀xs∈((ic R mv.9 pt.9).take pt.9),∀z∈xs,jV z)/\(∀z∈wW (kx mv pt ((ic R mv.9 pt.9).take pt.9)) ((ic R mv.9 pt.9).getD pt.9 []) wish wish.9,jV z/\∀b∈p0,jV (b*z))/\∃M N,0 < M/\M<=2^12000/\0 < N/\N<=2^12000/\(∀xs∈(ic R mv.9 pt.9).take pt.9,∀z∈xs,Fr M (2^12000) z)/\∀z∈wW (kx mv pt ((ic R mv.9 pt.9).take pt.9)) ((ic R mv.9 pt.9).getD pt.9 []) wish wish.9,Fr N (2^12000) z from #[h.1,h.2.1,h.2.2.1,h.2.2.2.1,h.2.2.2.2]
 generalize (ic R mv.9 pt.9).getD pt.9 []=row at lr tr ⊢;have tC:=Tu B i4 Mp Me tF;rw[hg] at tC;have hMc:M1*(M2*M)<=2^g:=ag (ie B.b1 (ie B.b2 Me)) (eF ());have Mc0:0 < M1*(M2*M):=b8 m1 (b8 m2 Mp);have lc:(kx mv pt ((ic R mv.9 pt.9).take pt.9)).9=mv.9:=fw;generalize (ic R mv.9 pt.9).take pt.9=F at tF lF tC lc ⊢;have g39:g<=3970000:=()
 have e39:e<=3970000:=()
 have AM:=Xq (wish:=wish) hMw (by rw[lc];exact n4) (by rw[lc,lr]) tC hMc tr hw;have kk:∀k,k<=mv.9->e+ew+k*(g+4)<=3970000:=λk hk=>ag (Nat.add_le_add_left (ax _ hk) _) hz
 have mk:∀k,k<=mv.9->(M1*(M2*M))^k*(M*Mw)<=2^3990000:=λk hk=>by
  refine ag (ie (qR hMc k) (ie Me hMw)) (eF ?_);have:=kk k hk;rw[o8] at this;rw[bu g k]
  lia
 have mp:∀k,0 < (M1*(M2*M))^k*(M*Mw):=λk=>b8 (jW Mc0) (b8 Mp Mw0)
 have amz:∀k,k<=mv.9->∀x∈wW (kx mv pt F) row wish k,jV x:=λk hk x hx=>j7 ((AM k).1 x hx) (mp k) (ag (mk k hk) (eF ())) (eF (ag (kk k hk) ()))
 have zr:∀x∈row,jV x:=λx hx=>yt (tr x hx) Mp Me (ah _) ()
 refine #[#[λxs hx ys hy=>#[e,e,a2,c,#[M,_,Mp,Me,ah _,λx h=>(vL tF ys hy x h).fr Mp],#[M2,V1,m2,B.b2,v0,Dx B.gp xs hx],()],λxs hx x h=>?_,λxs hx x h=>?_,λxs hx x h=>?_,λxs hx x h=>?_,hl],#[λys hy=>?_,λk hk=>?_,λk hk x hx=>?_,zr,λz hz'=>yt (hw z hz') Mw0 hMw (ah _) (),λa ha z hz'=>?_],λxs hx x h=>yt (tF xs hx x h) Mp Me (ah _) (),λz hz'=>?_,#[M,_,Mp,ag Me (eF ()),mp mv.9,?_,λxs hx z h=>((tF xs hx z h).fr Mp).mono (eF ()),λz hz'=>(((AM mv.9).1 z (by rw[lw] at hz';exact hz')).fr (mp _)).mono (eF hz5)]]
 ·exact yt (Tp.of (B.gm xs hx x h) (ie v0 B.b1)) m1 (ag B.b1 (eF ())) (ah _) ()
 ·unfold ju at hx;obtain us|hu|rfl:=au.mp hx;obtain ys|hy|rfl:=au.mp h;have ly:ys.9=F.9:=mB ys hy;have f:=Fr.dot (λx h=>(vL tF ys hy x h).fr Mp) (Dx B.gp us hu);refine yt (Tp.of f (ah _)) (b8 Mp m2) (a:=2+(e+c)+(e+a2)) (ag (ie Me B.b2) (eF ())) (ie (ie () (ie (ah _) v0)) (ie Me B.b2)) ()
 ·exact DB (yt (tC xs hx x h) Mc0 hMc (ah _) ())
 ·exact DB (yt (Tp.of (B.gp xs hx x h) (ie v0 B.b2)) m2 (ag B.b2 (eF ())) (ah _) ())
 ·exact NQ Mc0 (ag hMc (eF ())) (eF ()) (vL tC ys hy)
 ·exact NQ (mp k) (ag (mk k ()) (eF ())) (eF (ag (kk k ()) ())) (AM k).1
 ·refine j7 ((AM k).2 x hx) (mp (k+1)) (ag (mk (k+1) ()) (eF ())) (eF ?_);have:=kk (k+1) ();rw[dG] at this
  lia
 ·have:=Tp.mul (hw a ha) (tr z hz');exact yt this (b8 Mw0 Mp) (a:=ew+e) (ie hMw Me) (ie (ah _) (ah _)) ()
 ·rw[lw] at hz';have h0:=amz _ (ah _) z hz';refine #[h0,λb hb=>?_];rcases zp b hb with rfl | rfl
  ·rw[show (0:Rat)*z=0 by grind];exact zH
  ·rw[show (1:Rat)*z=z by grind];exact h0
 ·refine ag (ie (qR hMc mv.9) (ie Me hMw)) (eF ?_);rw[o8] at hz5;rw[bu g mv.9]
  lia
section
variable {X:Cx} {pins:List (Addr×Obj)} {σ:St} {H H':Hp} {s:Yo} {C:Addr} {x:Str} {hpos np:Pos}
theorem Inv.unsm (ok:X.Ok) (I:Inv (X.sm ea) pins σ H s):Inv X pins σ H s:=#[ok,I.os,I.bare,I.base,I.loc,I.cell,I.free,I.freeC,I.pin,I.hok,I.len]
def hNo (K:FG9) (C:Addr) (ts:Addr->TS) (hr:Ends->St->Value->Option Addr->Hp->Prop):Ends->St->Value->Option Addr->Hp->Prop:=λD σ cls dx H =>
 (PySem.W.exmOne K cls (.ref C)=some true/\∀ea,ts ea (Uo D) σ H)\/(PySem.W.exmOne K cls (.ref C)=some false/\hr D σ cls dx H)
theorem WT {b₀:Stmt} {suite:List Stmt} {rest:List ExceptHandler} {ts:Addr->TS} {hr:Ends->St->Value->Option Addr->Hp->Prop} (hex:X.ex=[]) (hg:Gl X x) (hm:X.mg x=some (.ref C))
  (hs:∀ea,Dm (X.sm ea) (b₀ :: suite) (ts ea)) (hrest:HB X rest hr) (hdb:(x == ("__debug__":Str))=false:=by decide) :
  HB X (.ExceptHandler (some (.Name x np)) none (b₀ :: suite) hpos :: rest) (hNo X.K C ts hr):=by
 intro pins σ H0 s0 H' ea tt cls dx B s1 h D L fl up dc hq;have J:=L.inv fl up;refine wpAny_handleBy_cons (codeAny_handlers_test (uG (X:=X.sm ea) (J.sm ea) hg hm ?_ hdb)) (by intro q;cases q)
 have LT:PySem.W.Looks (model X.prog X.w) h (typeOf (.ref ea)) cls:=by
  obtain o|e|c:=fl.there;exact c ▸ (PySem.W.Looks.ld e).andThen .now
 rcases hq with ⟨hb,hts⟩ | ⟨hb,hq⟩
 ·refine (PySem.W.exm_one (show X.K.In h from J.kIn) LT hb) _ _ _ _ (λ_ _ q=>q) ?_;refine codeAny_handlers_suite ?_;refine YX (lands_againW (E:=λ_ _=>False) (Q:=λ_ s2=>∃h6,s2={ s1 with heap:=h6 }/\ZF B X.stack ea cls (.ref tt) h6/\h.UpToSlots h6) fl λh6 fl6 up6=>#[h6,rfl,fl6,up6]) ?_ (λ_ _ z=>z.elim);rintro _ _ ⟨h6,rfl,fl6,up6⟩;have J6:=(L.inv fl6 (up.trans up6)).sm ea;refine YX (hs ea pins _ _ _ _ J6 (hts ea)) (λf s2 hsp=>?_) λ_ _ z=>YL z
  cases f with
  | next=>obtain _|_|_|z:=hsp;exact YL z
  | brk=>obtain _|_|_|z:=hsp;exact YL z
  | cont=>obtain _|_|_|z:=hsp;exact YL z
  | ret u =>
   obtain v|σ'|H2|J2|rv|q:=hsp;exact #[v,_,H2,J2.unsm L.I.ok,rv,q]
 ·refine (PySem.W.exm_one (show X.K.In h from J.kIn) LT hb) _ _ _ _ (λ_ _ q=>q) ?_;exact hrest pins σ H0 s0 H' ea tt cls dx B s1 h D L fl up dc hq
end
structure PK (mv pt lk:LR9):Prop where
 un:Ye mv pt 1000
 lw:∃w a,TN (iX mv pt mv.9) mv.9 w a
 pr:∃a c,mM mv pt a c/\mv.9*(a+c)<=300
 cs:SE mv pt
 st:∀(wish:List Rat) (Mw:Nat),wish.9=mv.9->0 < Mw->Mw<=2^480->(∀z∈wish,Tp Mw (2^480) z)->Sv mv pt lk wish
theorem U0 (K:mM mv pt a c) (D:js mv pt lk) (h:2*(mv.9*(mv.9*(a+c)+4)+mv.9*a)<=3990000):TN (iX mv pt mv.9) mv.9 (mv.9*(a+c)) (mv.9*a):=by
 obtain M|V|M0|Ma|hV|fm|fp|_:=K;have d8:=D.n8;have f:=Et rfl D.mw D.pw hV fm fp mv.9;have hM:M^mv.9<=2^(mv.9*a):=by rw[bu];exact qR Ma _
 refine #[M^mv.9,2^(mv.9*(a+c)),jW M0,hM,bC,ah _,λxs hx x hx'=>Tp.of (f xs hx x hx') ?_,ag (rf ..) (),?_]
 ·rw[show mv.9*(a+c)=c*mv.9+mv.9*a by rw[o8,bu c];lia];exact ie (ah _) hM
 ·refine ag (cY _ (Nat.add_le_add_right (ax _ (rf ..)) _)) h
theorem zb (B:Bd mv pt M1 M2 V1 a1 a2 c) (D:js mv pt lk) (v1:1<=V1) (hl:MT lk) (h:(mv.9<=4/\M2=M1/\a1=12/\a2=12/\c=16)\/(mv.9<=2/\a1=40/\a2=80/\c=23)):PK mv pt lk:=by
 have vc:=B.vc;have i4:=D.i4;have d8:=D.n8;have n04:mv.9<=4:=()
 rcases h with ⟨n4,rfl,rfl,rfl,rfl⟩ | ⟨n2,rfl,rfl,rfl⟩
 ·have hn:mv.9=0\/mv.9=1\/mv.9=2\/mv.9=3\/mv.9=4:=()
  have KF:mM mv pt 12 16:=#[M2,V1,B.m1,B.b1,ag (ax _ ()) vc,B.gm,B.gp,(),(),by rcases hn with h | h | h | h | h <;> rw[h] <;> decide,by rcases hn with h | h | h | h | h <;> rw[h] <;> decide];refine #[#[d8,D.mw,D.pw,#[12,16,KF,?_,?_],()],#[_,_,U0 KF D (by rcases hn with h | h | h | h | h <;> rw[h] <;> decide)],#[12,16,KF,()],?_,λwish Mw lw Mw0 Mwb hw=>?_]
  ·rcases hn with h | h | h | h | h <;> rw[h] <;> decide
  ·rcases hn with h | h | h | h | h <;> rw[h] <;> decide
  ·refine EY D B.m1 B.m1 B.gm B.gp v1 (B:=2^16) (ag (ax _ ()) vc) (a:=12*mv.9+12) (b:=16*mv.9) (ie (qR B.b1 _) B.b1) (qR (ah _) _) () () () ()
  ·refine DE Mw0 Mwb B D () hl lw hw rfl rfl ?_ ?_ ?_ () ?_
   ·rcases hn with h | h | h | h | h <;> rw[h] <;> decide
   ·rcases hn with h | h | h | h | h <;> rw[h] <;> decide
   ·rcases hn with h | h | h | h | h <;> rw[h] <;> decide
   ·rcases hn with h | h | h | h | h <;> rw[h] <;> decide
 ·have hn:mv.9=0\/mv.9=1\/mv.9=2:=()
  have dv1:M1∣M1*M2:=lU ..;have dv2:M2∣M1*M2:=iE ..;have KF:mM mv pt 120 23:=#[M1*M2,V1,b8 B.m1 B.m2,ie B.b1 B.b2,ag (ax _ ()) vc,λxs hx x hx'=>(B.gm xs hx x hx').dvd dv1,λxs hx x hx'=>(B.gp xs hx x hx').dvd dv2,(),(),by rcases hn with h | h | h <;> rw[h] <;> decide,by rcases hn with h | h | h <;> rw[h] <;> decide];refine #[#[d8,D.mw,D.pw,#[120,23,KF,?_,?_],()],#[_,_,U0 KF D (by rcases hn with h | h | h <;> rw[h] <;> decide)],#[120,23,KF,()],?_,λwish Mw lw Mw0 Mwb hw=>?_]
  ·rcases hn with h | h | h <;> rw[h] <;> decide
  ·rcases hn with h | h | h <;> rw[h] <;> decide
  ·refine EY D B.m1 B.m2 B.gm B.gp v1 (B:=2^23) (ag (ax _ ()) vc) (a:=40*mv.9+80) (b:=23*mv.9) (ie (qR B.b1 _) B.b2) (qR (ah _) _) () () () ()
  ·refine DE Mw0 Mwb B D () hl lw hw rfl rfl ?_ ?_ ?_ () ?_
   ·rcases hn with h | h | h <;> rw[h] <;> decide
   ·rcases hn with h | h | h <;> rw[h] <;> decide
   ·rcases hn with h | h | h <;> rw[h] <;> decide
   ·rcases hn with h | h | h <;> rw[h] <;> decide
theorem KS {M V:Nat} (h:GF M V rows) (m0:0 < M) (hM:M<=2^100) (hV:V<=2^30):MT rows:=λxs hx x hx'=>DB (Ud (h xs hx x hx') m0 (ag hM (eF ())) (ag hV (eF ())))
theorem QU (P:Yi n i o w c mv pt lk) (D:js mv pt lk) (lm:mv.9=n) (i4:i<=4) (o4:o<=4) (hw:(n<=4/\w<=9)\/(n<=2/\c=10)):PK mv pt lk/\PK (cx mv mv.9) lk pt/\PL mv pt lk:=by
 obtain M1|M2|M3|V1|p1|p2|p3|g1|g2|g3|hc:=P;have et:(cx mv mv.9).9=mv.9:=eK;have D':js (cx mv mv.9) lk pt:=D.turn;have g1':GF M1 V1 (cx mv mv.9):=Dx g1;have fin:∀{a1 a2 a3 c:Nat},M1<=2^a1->M2<=2^a2->M3<=2^a3->V1<=2^30->a1+(a2+a3)<=400->PL mv pt lk:=λ{a1 a2 a3 c} h1 h2 h3 h4 h5=>#[M1*(M2*M3),V1,b8 p1 (b8 p2 p3),ag (ie h1 (ie h2 h3)) (eF h5),ag h4 (eF ()),λxs hx x hx'=>(g1 xs hx x hx').dvd (lU ..),λxs hx x hx'=>(g2 xs hx x hx').dvd (Iu (lU ..) (iE ..)),λxs hx x hx'=>(g3 xs hx x hx').dvd (Iu (iE ..) (iE ..))]
 rcases hc with ⟨w9,rfl,rfl,rfl,rfl⟩ | ⟨w9,b1,b2,b3,rfl⟩
 ·have n4:mv.9<=4:=()
  have vc:(mv.9+4)*(9^3*9)<=2^16:=ag (ax _ (show mv.9+4<=8 by lia)) ();exact #[zb #[p1,p2,(),(),g1,g2,vc] D () (KS g3 p3 () ()) (.inl #[n4,rfl,rfl,rfl,rfl]),zb #[p1,p3,(),(),g1',g3,by rw[et];exact vc] D' () (KS g2 p2 () ()) (.inl #[by rw[et];exact n4,rfl,rfl,rfl,rfl]),fin (a1:=12) (a2:=12) (a3:=12) (c:=0) () () () () ()]
 ·obtain ⟨n2,rfl⟩:n<=2/\c=10:=()
  have e1:10*(n*n)<=40:=by have:n*n<=2*2:=aP n2 n2;lia
  have e2:10*(i*n)<=80:=by have:i*n<=4*2:=aP i4 n2;lia
  have e3:10*(o*n)<=80:=by have:o*n<=4*2:=aP o4 n2;lia
  have b1:=ag b1 (eF e1);have b2:=ag b2 (eF e2);have b3:=ag b3 (eF e3);have vc:(mv.9+4)*(9^3*2^10)<=2^23:=ag (ax _ (show mv.9+4<=6 by lia)) ();exact #[zb #[p1,p2,b1,b2,g1,g2,vc] D () (KS g3 p3 (ag b3 (eF ())) ()) (.inr #[(),rfl,rfl,rfl]),zb #[p1,p3,b1,b3,g1',g3,by rw[et];exact vc] D' () (KS g2 p2 (ag b2 (eF ())) ()) (.inr #[by rw[et];lia,rfl,rfl,rfl]),fin (c:=0) b1 b2 b3 () ()]
def mF (n:Nat) (A:Nat->Nat->Rat) (x:Nat->Rat):Nat->Rat:=λc=>aK n λi=>A c i*x i
def pF (n:Nat) (A:Nat->Nat->Rat):Nat->(Nat->Rat)->Nat->Rat
 | 0,x=>x
 | t+1,x=>mF n A (pF n A t x)
def dF (n:Nat) (g x:Nat->Rat):Rat:=aK n λi=>g i*x i
section
variable {n:Nat} {A A':Nat->Nat->Rat} {g m w:Nat->Rat} {s:Nat->Nat->Rat} {x y:Nat->Rat} {k:Rat}
theorem OE:mF n A (λc=>x c+k*y c)=λc=>mF n A x c+k*mF n A y c:=by
 funext c;unfold mF;rw[<- bW,<- gO];exact aA λi _=>by grind
theorem Je:∀t,pF n A t (λc=>x c+k*y c)=λc=>pF n A t x c+k*pF n A t y c
 | 0=>rfl
 | t+1=>by
  show mF n A (pF n A t _)=_
  rw[Je t,OE];rfl
theorem mR:∀t,pF n A (t+1) x=pF n A t (mF n A x)
 | 0=>rfl
 | t+1=>by
  show mF n A (pF n A (t+1) x)=_
  rw[mR t];rfl
theorem JM:dF n g (λc=>x c+k*y c)=dF n g x+k*dF n g y:=by
 unfold dF;rw[<- bW,<- gO];exact aA λi _=>by grind
theorem OD {f:Nat->Nat->Rat}:mF n A (λc=>aK q λi=>w i*f i c)=λc=>aK q λi=>w i*mF n A (f i) c:=by
 funext c;unfold mF
 have:∀j,A c j*(aK q λi=>w i*f i j)=aK q λi=>w i*(A c j*f i j):=λj=>by
  rw[<- bW];exact aA λi _=>by grind
 rw[aA λj _=>this j,fV];exact aA λi _=>by rw[bW]
theorem Oj {q:Nat} {f:Nat->Nat->Rat} {w:Nat->Rat}:∀t,pF n A t (λc=>aK q λi=>w i*f i c)=λc=>aK q λi=>w i*pF n A t (f i) c
 | 0=>rfl
 | t+1=>by
  show mF n A (pF n A t _)=_
  rw[Oj t,OD];rfl
theorem JL {f:Nat->Nat->Rat}:dF n g (λc=>aK q λi=>w i*f i c)=aK q λi=>w i*dF n g (f i):=by
 unfold dF
 have:∀j,g j*(aK q λi=>w i*f i j)=aK q λi=>w i*(g j*f i j):=λj=>by
  rw[<- bW];exact aA λi _=>by grind
 rw[aA λj _=>this j,fV];exact aA λi _=>by rw[bW]
theorem ack (h1:∀j,1<=j->j < n->mF n A (s j)=s (j+1)) (h2:∀j,1<=j->j<=n->dF n g (s j)=if j=n then 1 else 0) (h3:∀x,dF n m x=dF n g (pF n A n x) - aK n λi=>w i*dF n g (pF n A i x)) (h4:∀x,mF n A' x=λc=>mF n A x c+-(dF n m x)*s 1 c)
  (C:(Nat->Rat)->Prop) (h5:∀x,C x->∃k:Nat->Rat,x=λc=>aK n λj=>k j*s (j+1) c) (h6:∀x,C x->C (mF n A' x)) (h7:∀x,C x->C λc=>pF n A' n x c+-1*aK n λi=>w i*pF n A' i x c):∀x,C x->∀c,pF n A' n x c=aK n λi=>w i*pF n A' i x c:=by
 have it:∀i j,1<=j->i+j<=n->pF n A i (s j)=s (i+j):=by
  intro i
  induction i with
  | zero=>intro j _ _;rw[jm];rfl
  | succ i ih =>
   intro j hj hn;show mF n A (pF n A i (s j))=_
   rw[ih j hj (),h1 _ () ()];congr 1
   lia
 have stp:∀i x,i < n->(∀x,dF n g (pF n A' i x)=dF n g (pF n A i x))->dF n g (pF n A' (i+1) x)=dF n g (pF n A (i+1) x)+-(dF n m x)*dF n g (s (i+1)):=λi x hi ih=>by
  rw[mR,ih,h4,Je,JM,it i 1 () (),<- mR]
 have gA:∀i,i < n->∀x,dF n g (pF n A' i x)=dF n g (pF n A i x):=by
  intro i
  induction i with
  | zero=>intro _ _;rfl
  | succ i ih =>
   intro hi x;rw[stp i x () (ih ()),h2 (i+1) () (),if_neg ()];grind
 intro x hx;obtain ⟨z,ez⟩:∃z:(Nat->Rat)->Nat->Rat,z=λx c=>pF n A' n x c+-1*aK n λi=>w i*pF n A' i x c:=#[_,rfl]
 have gz:∀x,dF n g (z x)=0:=λx=>by
  rw[ez];show dF n g (λc=>pF n A' n x c+-1*aK n λi=>w i*pF n A' i x c)=0
  rw[JM,JL];cases n with
  | zero=>show (0:Rat)+-1*0=0;grind
  | succ n' =>
   have e1:=stp n' x () (gA n' ());rw[h2 (n'+1) () (ah _),if_pos rfl] at e1;rw[e1,aA λi hi=>by rw[gA i hi x],h3 x];grind
 have zc:∀x,mF n A' (z x)=z (mF n A' x):=λx=>by
  rw[ez];show mF n A' (λc=>pF n A' n x c+-1*aK n λi=>w i*pF n A' i x c)=_
  rw[OE,OD];funext c
  dsimp only
  rw[<- mR];congr 2;exact aA λi _=>by rw[<- mR];rfl
 have zp:∀i x,pF n A' i (z x)=z (pF n A' i x):=by
  intro i
  induction i with
  | zero=>intro x;rfl
  | succ i ih =>
   intro x;show mF n A' (pF n A' i (z x))=_
   rw[ih,zc];rfl
 have all0:∀i,i < n->dF n g (pF n A i (z x))=0:=λi hi=>by rw[<- gA i hi,zp,gz]
 obtain k|ek:=h5 (z x) (by rw[ez];exact h7 x hx)
 have kz:∀d,d < n->k (n - 1 - d)=0:=by
  intro d
  induction d using Nat.strongRecOn with
  | ind d ih =>
   intro hd;have e:=all0 d hd;rw[ek,Oj,JL,eH (show n - 1 - d < n by lia) λj hj ne=>?_,it d (n - 1 - d+1) () (),h2 _ () (),if_pos (),ji] at e
   ·exact e
   ·rcases aR j (n - 1 - d) with q | q
    ·rw[it d (j+1) () (),h2 _ () (),if_neg (),du]
    ·have:=ih (n - 1 - j) () ();rw[show n - 1 - (n - 1 - j)=j by lia] at this;rw[this,cA]
 intro c
 have e0:z x c=0:=by
  rw[ek]
  exact bZ λj hj=>by
   have:=kz (n - 1 - j) ();rw[show n - 1 - (n - 1 - j)=j by lia] at this;rw[this,cA]
 rw[ez] at e0
 dsimp only at e0
 grind
end
section
variable {mv pt sts pus R F G L:LR9} {wish x:List Rat} {ps:List Nat} {n i m:Nat}
theorem Ve {p:Nat->Nat} (h1:∀i j,i < j->j < k->p i < p j) (h2:∀j,j < k->p j < k):∀j,j < k->p j=j:=by
 have lo:∀j,j < k->j<=p j:=by
  intro j
  induction j with
  | zero=>intro _;exact a8 _
  | succ j ih=>intro h;have:=ih ();have:=h1 j (j+1) () h;lia
 have hi:∀d j,j+d+1=k->p j<=j:=by
  intro d
  induction d with
  | zero=>intro j h;have:=h2 j ();lia
  | succ d ih=>intro j h;have:=ih (j+1) ();have:=h1 j (j+1) () ();lia
 exact λj hj=>ou (hi (k - 1 - j) j ()) (lo j hj)
theorem U5 (ls:sts.9=n+1) (lg:gv.9=n+1) (ws:∀xs∈sts,xs.9=n) (wg:∀xs∈gv,xs.9=i) (hj:j < n):(∀c,c < n->aS ((kF sts gv n).drop 1) j c=aS sts (j+1) c)/\(∀c,c < i->aS ((kF sts gv n).drop 1) j (n+c)=aS gv (j+1) c)/\aS ((kF sts gv n).drop 1) j (n+i)=if j+1=n then 1 else 0:=by
 have e1:((kF sts gv n).drop 1).getD j []=sts.getD (j+1) []++gv.getD (j+1) []++[if j+1=n then 1 else 0]:=by
  unfold kF;rw[aa,uW,ij 1 j,aw,bI ()];rfl
 have w1:(sts.getD (j+1) []).9=n:=by
  rw[aa,ae ()];exact ws _ (az _)
 have w2:(gv.getD (j+1) []).9=i:=by
  rw[aa,ae ()];exact wg _ (az _)
 unfold aS;rw[e1];refine #[λc hc=>?_,λc hc=>?_,?_]
 ·rw[aa,cy,bM (),<- aa]
 ·rw[aa,bM (by rw[ao];lia),bE (),w1,Nat.add_sub_cancel_left,<- aa]
 ·rw[aa,bE (by rw[ao];lia),ao,w1,w2,jo];rfl
theorem U6 (C:Fs mv pt sts pus) (lp:pus.9=n) (lm:mv.9=n) (hl:∀j,j < n->∀c,c < n->aS L j c=aS sts (j+1) c) (lL:L.9=n) (RR:bX L m R ps) (hps:ps.9=n):(∀j,j < n->ps.getD j 0=j)/\(∀j,j < n->∀c,aS L j c=aK n λt=>aS sts (j+1) t*aS R t c)/\∀t,t < n->∃y:Nat->Rat,∀c,c < n->aK n (λj=>y j*aS sts (j+1) c)=if t=c then 1 else 0:=by
 have rr:=RR.2.2;rw[lL,hps] at rr
 have sw:∀j,j<=n->∀c,n<=c->aS sts j c=0:=λj hj c hc=>by
  unfold aS;rw[aa (l:=sts),ae (by have:=C.len;lia),aa,aG (by rw[jM,C.wide _ (az _),lm];exact hc)];rfl
 have lt:∀t,t < n->ps.getD t 0 < n:=λt ht=>by
  rcases aR (ps.getD t 0) n with q | q
  ·exact q
  ·obtain y|hy:=rr.back t ht
   have y0:=Lc C (y:=y) (λc=>by
    rw[lp];rcases aR c n with hc | hc
    ·rw[<- rr.lead t ht c (),hy c];exact aA λj hj=>by rw[hl j hj c hc]
    ·exact bZ λj hj=>by rw[sw (j+1) () c hc,du])
   have u:=rr.unit t ht t ht;rw[if_pos rfl,hy,bZ λj hj=>by rw[y0 j (),cA]] at u;exact absurd u ()
 have id_:=Ve (p:=λj=>ps.getD j 0) (k:=n) rr.inc lt;refine #[id_,λj hj c=>?_,λt ht=>?_]
 ·rw[rr.coef (rr.span j hj) c];exact aA λt ht=>by rw[show ps.getD t 0=t from id_ t ht,hl j hj t ht]
 ·obtain y|hy:=rr.back t ht;refine #[y,λc hc=>?_];have u:=rr.unit t ht c hc;rw[show ps.getD c 0=c from id_ c hc,hy c] at u;rw[<- u];exact aA λj hj=>by rw[hl j hj c hc]
theorem D6 {A:LR9} (lA:A.9=n) (wA:∀xs∈A,xs.9=n) (lx:x.9=n):∀t,(λc=>(jr A t x).getD c 0)=pF n (aS A) t λc=>x.getD c 0
 | 0=>rfl
 | t+1=>by
  show _=mF n (aS A) (pF n (aS A) t _)
  rw[<- D6 lA wA lx t];funext c;show ((A.map λxs=>fX xs (jr A t x)).getD c 0)=_
  unfold mF;rcases aR c n with hc | hc
  ·have w:=wA _ (az (l:=A) (n:=c) ());rw[getD_map (),iO (by rw[w,D5 (by rw[lx,lA]),lA]),w];refine aA λi hi=>?_
   congr 1;unfold aS;rw[aa (l:=A),ae ()];rfl
  ·rw[aa,aG (by rw[af];lia)];refine (bZ λi hi=>?_).symm
   have:aS A c i=0:=by
    unfold aS;rw[aa (l:=A),aG ()];rfl
   rw[this,cA]
end
theorem W3:aS rows k t=(rows.getD k []).getD t 0:=rfl
theorem Wi (hk:k < i+1) (ht:t < R.9):aS (ic R n i) k t=aS R t (n+k):=by
 unfold ic aS;rw[aa (l:=cx _ _),sZ hk];show ((R.map (·.drop n)).map λxs=>xs.getD k 0).getD t 0=_
 rw[gI,getD_map ht,aa (l:=R),ae ht];show (R[t].drop n).getD k 0=R[t].getD (n+k) 0
 rw[aa,uW,aa]
theorem Sk (lA:A.9=n) (wA:∀xs∈A,xs.9=n) (lr:row.9=n) (lw:wish.9=n):∀k,k<=n->∀y:Nat->Rat,dF n (λc=>(wW A row wish k).getD c 0) y=dF n (λc=>row.getD c 0) (pF n (aS A) k y) - aK k λl=>wish.getD (n - k+l) 0*dF n (λc=>row.getD c 0) (pF n (aS A) l y):=by
 have tk:∀(r:List Rat) (y:Nat->Rat),r.9=n->dF n (λc=>(DA A r).getD c 0) y=dF n (λc=>r.getD c 0) (mF n (aS A) y):=λr y hr=>by
  unfold dF mF
  have e:∀c,c < n->(DA A r).getD c 0=aK n λa=>aS A a c*r.getD a 0:=λc hc=>by
   unfold DA;rw[aa,aw,lA,sZ hc];show fX (A.map λxs=>xs.getD c 0) r=_
   rw[iO (by rw[af,lA,hr]),af,lA];refine aA λa ha=>?_
   rw[getD_map ()];unfold aS;rw[aa (l:=A),ae ()];rfl
  have e1:∀c,c < n->(DA A r).getD c 0*y c=aK n λa=>r.getD a 0*(aS A a c*y c):=λc hc=>by
   rw[e c hc,de,<- bW];exact aA λa _=>by grind
  rw[aA e1,fV];exact aA λa _=>by rw[bW]
 intro k
 induction k with
 | zero =>
  intro _ y;show dF n (λc=>row.getD c 0) y=dF n (λc=>row.getD c 0) y - 0
  generalize dF n (λc=>row.getD c 0) y=q;clear tk;grind
 | succ k ih =>
  intro hk y;have la:=yj (mv:=A) (wish:=wish) (show row.9=A.9 by rw[lr,lA]) k;rw[lA] at la
  have e1:dF n (λc=>(wW A row wish (k+1)).getD c 0) y=dF n (λc=>(DA A (wW A row wish k)).getD c 0+-(wish.getD (n - 1 - k) 0)*row.getD c 0) y:=aA λc hc=>by
   have lt:(DA A (wW A row wish k)).9=n:=by rw[Dz,lA]
   dsimp only
   congr 1;show (W0 _ _ _).getD c 0=_
   rw[Nf (by rw[lt,af,lr]) (),getD_map (),lw,aa (l:=row),ae (),jM];grind
  have e2:dF n (λc=>(DA A (wW A row wish k)).getD c 0+-(wish.getD (n - 1 - k) 0)*row.getD c 0) y=dF n (λc=>(DA A (wW A row wish k)).getD c 0) y+-(wish.getD (n - 1 - k) 0)*dF n (λc=>row.getD c 0) y:=by
   unfold dF;rw[<- bW,<- gO];exact aA λc _=>by grind
  rw[e1,e2,tk _ _ la,ih (),<- mR,pI,show n - (k+1)+0=n - 1 - k by lia];have e3:(aK k λl=>wish.getD (n - k+l) 0*dF n (λc=>row.getD c 0) (pF n (aS A) l (mF n (aS A) y)))=aK k λl=>wish.getD (n - (k+1)+(l+1)) 0*dF n (λc=>row.getD c 0) (pF n (aS A) (l+1) y):=aA λl _=>by rw[<- mR,show n - (k+1)+(l+1)=n - k+l by lia]
  rw[e3];show _=_ - (wish.getD (n - 1 - k) 0*dF n _ y+_)
  grind
theorem Vm (h1:Fr M W f) (h2:Fr M W m) (hb:b=0\/b=1):Fr M (W+W) (f - b*m):=by
 rcases hb with rfl | rfl
 ·rw[cA,IA,Rat.neg_zero,jk];exact h1.mono (rg _ _)
 ·rw[wZ];exact h1.sub h2
structure MV (K:FG9) (C:Addr) (H0 H:Hp) (sy:Addr) (mv pt lk:LR9):Prop where
 S:oo K H0 H C sy mv pt lk
 D:js mv pt lk
 F:PL mv pt lk
 Y:PK mv pt lk
theorem MV.same {K:FG9} (h:MV K C H0 H sy mv pt lk) (s:aE H H'):MV K C H0 H' sy mv pt lk:=#[h.S.same s,h.D,h.F,h.Y]
theorem QV (P:Yi n i o w c mv pt lk) (lm:mv.9=n) (n4:n<=4) (i4:i<=4) (hw:(n<=4/\w<=9)\/(n<=2/\c=10)):∃M1 M2 V,Bd mv pt M1 M2 V 40 80 23:=by
 obtain M1|M2|M3|V1|p1|p2'|p3|g1|g2|g3|hc:=P;rcases hc with ⟨w9,rfl,rfl,rfl,rfl⟩ | ⟨w9,b1,b2,b3,rfl⟩
 ·exact #[_,_,_,p1,p2',(),(),g1,g2,ag (ax _ (show mv.9+4<=8 by lia)) ()]
 ·obtain ⟨n2,rfl⟩:n<=2/\c=10:=()
  have e1:10*(n*n)<=40:=by have:n*n<=2*2:=aP n2 n2;lia
  have e2:10*(i*n)<=80:=by have:i*n<=4*2:=aP i4 n2;lia
  exact #[_,_,_,p1,p2',ag b1 (eF e1),ag b2 (eF e2),g1,g2,ag (ax _ (show mv.9+4<=6 by lia)) ()]
theorem JA {l:List Rat} (h:∀x∈l,Dr (max f 6) x) (hf:(f=9/\l.9<=4)\/(f=1000/\l.9<=2)):∃B,0 < B/\B<=2^22/\∀x∈l,Fr B (2^22) x:=by
 rcases hf with ⟨rfl,hl⟩ | ⟨rfl,hl⟩
 ·obtain B|h0|h1|h2:=C3 (c:=4) (l:=l) (λx hx=>#[ag (h x hx).1 (),ag (h x hx).2 ()]) ();exact #[B,h0,ag h1 (eF ()),h2]
 ·obtain B|h0|h1|h2:=C3 (c:=10) (l:=l) (λx hx=>#[ag (h x hx).1 (),ag (h x hx).2 ()]) ();exact #[B,h0,ag h1 (eF ()),h2]
section
variable {g m d:Nat->Rat} {s:Nat->Nat->Rat}
theorem Nj (h1:∀j,1<=j->j < n->mF n A (s j)=s (j+1)) (h2:∀j,1<=j->j<=n->dF n g (s j)=if j=n then 1 else 0) (h4:∀x,mF n A' x=λc=>mF n A x c+-(dF n m x)*s 1 c)
  (hd:∀j,1<=j->j<=n->∀c,(aK n λi=>d i*pF n A' i (s j) c)=0):∀i,i < n->d i=0:=by
 have it:∀i j,1<=j->i+j<=n->pF n A i (s j)=s (i+j):=by
  intro i
  induction i with
  | zero=>intro j _ _;rw[jm];rfl
  | succ i ih =>
   intro j hj hn;show mF n A (pF n A i (s j))=_
   rw[ih j hj (),h1 _ () ()];congr 1
   lia
 have gA:∀i,i < n->∀x,dF n g (pF n A' i x)=dF n g (pF n A i x):=by
  intro i
  induction i with
  | zero=>intro _ _;rfl
  | succ i ih =>
   intro hi x;rw[mR,ih (),h4,Je,JM,it i 1 () (),<- mR,h2 (i+1) () (),if_neg ()];grind
 have ze:∀e,e < n->d (n - 1 - e)=0:=by
  intro e
  induction e using Nat.strongRecOn with
  | ind e ih =>
   intro he
   have q:dF n g (λc=>aK n λi=>d i*pF n A' i (s (e+1)) c)=0:=by
    unfold dF;exact bZ λc _=>(congrArg (g c*·) (hd (e+1) () () c)).trans (du _)
   rw[JL,eH (show n - 1 - e < n by lia) λj hj ne=>?_,gA _ (),it (n - 1 - e) (e+1) () (),h2 _ () (),if_pos (),ji] at q
   ·exact q
   ·rcases aR j (n - 1 - e) with z | z
    ·rw[gA j hj,it j (e+1) () (),h2 _ () (),if_neg (),du]
    ·have:=ih (n - 1 - j) () ();rw[show n - 1 - (n - 1 - j)=j by lia] at this;rw[this,cA]
 exact λi hi=>by
  have:=ze (n - 1 - i) ();rwa [show n - 1 - (n - 1 - i)=i by lia] at this
end
section
variable {mv pt lk sts pus R F G L:LR9} {wish x row p0 me:List Rat} {ps:List Nat} {n i m:Nat}
set_option maxHeartbeats 4000000 in
theorem Rz (D:js mv pt lk) (C:Fs mv pt sts pus) (lp:pus.9=mv.9) (RR:bX ((kF sts (pus++[Mg pt.9 0]) mv.9).drop 1) (mv.9+pt.9+1) R ps) (hps:ps.9=mv.9) (lq:wish.9=mv.9)
  (hF:F=(ic R mv.9 pt.9).take pt.9) (hr:row=(ic R mv.9 pt.9).getD pt.9 []) (hm:me=wW (kx mv pt F) row wish wish.9) (hp:p0=(pus++[Mg pt.9 0]).getD 0 []) (hG:G=W0 (λrow b=>W0 (λx y=>x - y) row (me.map λy=>b*y)) F p0) :
  (∀x:List Rat,x.9=mv.9->∀c,(jr (kx mv pt G) mv.9 x).getD c 0=aK mv.9 λi=>wish.getD i 0*(jr (kx mv pt G) i x).getD c 0)/\∀w':List Rat,w'.9=mv.9->(∀x:List Rat,x.9=mv.9->∀c,(jr (kx mv pt G) mv.9 x).getD c 0=aK mv.9 λi=>w'.getD i 0*(jr (kx mv pt G) i x).getD c 0)->w'=wish:=by
 obtain ⟨n,en⟩:∃n,mv.9=n:=#[_,rfl];obtain ⟨gv,eg⟩:∃gv,pus++[Mg pt.9 (0:Rat)]=gv:=#[_,rfl];rw[eg] at RR hp;rw[en] at lp RR hps lq hF hr ⊢;have lR:R.9=n:=by rw[RR.1,hps]
 have lg:gv.9=n+1:=by rw[<- eg,ao,lp];rfl
 have wg:∀xs∈gv,xs.9=pt.9:=λxs hx=>by
  rw[<- eg] at hx;rcases aB.mp hx with hx | hx
  ·exact C.wpu xs hx
  ·rw[aU.mp hx,cE]
 have ls:sts.9=n+1:=by rw[C.len,lp]
 have ws:∀xs∈sts,xs.9=n:=λxs hx=>by rw[C.wide xs hx,en]
 have lL:((kF sts gv n).drop 1).9=n:=by unfold kF;rw[eV,af,aN];rfl
 have lnr:=λj (hj:j < n)=>U5 (i:=pt.9) ls lg ws wg hj
 obtain _|cf|ba:=U6 C lp en (λj hj c hc=>(lnr j hj).1 c hc) lL RR hps;obtain ⟨S9,eS⟩:∃S,ic R n pt.9=S:=#[_,rfl];rw[eS] at hF hr;have lS:S9.9=pt.9+1:=by rw[<- eS];exact eK
 have wS:∀xs∈S9,xs.9=n:=λxs hx=>by rw[<- eS] at hx;rw[mB xs hx,af,lR]
 have fS:∀k,k < pt.9+1->∀t,t < n->aS S9 k t=aS R t (n+k):=λk hk t ht=>by rw[<- eS];exact Wi hk ()
 have lF:F.9=pt.9:=by rw[hF,bf];lia
 have fF:∀k,k < pt.9->∀t,aS F k t=aS S9 k t:=λk hk t=>by
  rw[hF];unfold aS;rw[aa (l:=S9.take _),eB hk,<- aa]
 have tell:∀j,j < n->∀k,k < pt.9->aK n (λt=>aS F k t*aS sts (j+1) t)=aS gv (j+1) k:=λj hj k hk=>by
  rw[<- (lnr j hj).2.1 k hk,cf j hj];exact aA λt ht=>by rw[fF k hk,fS k () t ht,de]
 have tellg:∀j,j < n->aK n (λt=>row.getD t 0*aS sts (j+1) t)=if j+1=n then 1 else 0:=λj hj=>by
  rw[<- (lnr j hj).2.2,cf j hj];refine aA λt ht=>?_
  rw[hr,<- W3,fS _ () t ht,de]
 have lr:row.9=n:=by
  rw[hr,aa,ae ()];exact wS _ (az _)
 have sw:∀j,j < n+1->∀c,n<=c->aS sts j c=0:=λj hj c hc=>by
  unfold aS;rw[aa (l:=sts),ae (),aa,aG (by rw[jM,ws _ (az _)];exact hc)];rfl
 have far:∀{X:LR9} {c t:Nat},X.9=n->n<=c->aS X c t=0:=λ{X c t} h hc=>by
  unfold aS;rw[aa (l:=X),aG ()];rfl
 have lA:(kx mv pt F).9=n:=by rw[fw,en]
 have wA:∀xs∈kx mv pt F,xs.9=n:=λxs hx=>by rw[C7 xs hx,en]
 have lA':(kx mv pt G).9=n:=by rw[fw,en]
 have wA':∀xs∈kx mv pt G,xs.9=n:=λxs hx=>by rw[C7 xs hx,en]
 have lp0:p0.9=pt.9:=by
  rw[hp,aa,ae ()];exact wg _ (az _)
 have lme:me.9=n:=by
  rw[hm];have:=yj (wish:=wish) (show row.9=(kx mv pt F).9 by rw[lr,lA]) wish.9;rw[this,lA]
 have wF:∀xs∈F,xs.9=n:=λxs hx=>wS xs (by rw[hF] at hx;exact ck hx)
 have fG:∀k,k < pt.9->∀b,b < n->aS G k b=aS F k b - p0.getD k 0*me.getD b 0:=λk hk b hb=>by
  have w1:=wF _ (az (l:=F) (n:=k) ());rw[hG];unfold aS;rw[aa (l:=W0 _ _ _),bV,ae (show k < F.9 by lia),ae (show k < p0.9 by lia),aa (l:=F),ae (show k < F.9 by lia),aa (l:=p0),ae (show k < p0.9 by lia)];show (W0 (λx y=>x - y) F[k] (me.map λy=>p0[k]*y)).getD b 0=_
  rw[Nf (by rw[w1,af,lme]) (),getD_map (),aa (l:=me),ae ()];rfl
 have s1:∀c,c < n->aS sts 1 c=aK pt.9 λl=>p0.getD l 0*aS pt l c:=λc hc=>by
  have:=C.step 0;rcases eJ n with z | z
  ·lia
  rw[this () c,bZ λt ht=>by rw[C.zero,du],uK];refine aA λl hl=>?_
  congr 1;rw[hp,<- eg];unfold aS;rw[aa (l:=pus++_),bM (),<- aa]
 have H1:∀j,1<=j->j < n->mF n (aS (kx mv pt F)) (aS sts j)=aS sts (j+1):=by
  intro j h1 h2;funext a;unfold mF;rcases aR a n with ha | ha
  ·obtain ⟨j,rfl⟩:∃j',j=j'+1:=#[j - 1,()];rw[C.step (j+1) () a,en]
   have e:∀b,b < n->aS (kx mv pt F) a b*aS sts (j+1) b=aS mv a b*aS sts (j+1) b+aK pt.9 λk=>aS pt k a*(aS F k b*aS sts (j+1) b):=λb hb=>by
    rw[E2 () (),Rat.add_mul,de (aK _ _),<- bW];congr 1;exact aA λk _=>by grind
   rw[aA e,gO,fV];congr 1;refine aA λk hk=>?_
   rw[bW,tell j () k hk,de];congr 1;rw[<- eg];unfold aS;rw[aa (l:=pus++_),bM (),<- aa]
  ·rw[sw (j+1) () a ha];exact bZ λb _=>by rw[far lA ha,cA]
 have H2:∀j,1<=j->j<=n->dF n (λc=>row.getD c 0) (aS sts j)=if j=n then 1 else 0:=by
  intro j h1 h2;obtain ⟨j,rfl⟩:∃j',j=j'+1:=#[j - 1,()];exact tellg j ()
 have H4:∀y,mF n (aS (kx mv pt G)) y=λc=>mF n (aS (kx mv pt F)) y c+-(dF n (λc=>me.getD c 0) y)*aS sts 1 c:=by
  intro y;funext a;unfold mF;rcases aR a n with ha | ha
  ·have e:∀b,b < n->aS (kx mv pt G) a b*y b=aS (kx mv pt F) a b*y b+-(aS sts 1 a)*(me.getD b 0*y b):=λb hb=>by
    rw[E2 () (),E2 () (),s1 a ha]
    have e2:(aK pt.9 λk=>aS pt k a*aS G k b)=(aK pt.9 λk=>aS pt k a*aS F k b)+-(me.getD b 0)*aK pt.9 λl=>p0.getD l 0*aS pt l a:=by
     rw[<- bW,<- gO];exact aA λk hk=>by rw[fG k hk b hb];grind
    rw[e2];grind
   rw[aA e,gO,bW];unfold dF;grind
  ·rw[bZ λb _=>by rw[far lA' ha,cA],bZ λb _=>by rw[far lA ha,cA],show aS sts 1 a=0 from by
    rcases eJ n with z | z
    ·unfold aS;rw[aa (l:=sts),aG ()];rfl
    ·exact sw 1 () a ha]
   grind
 have pe:∀(x:List Rat),x.9=n->∀c t,(jr (kx mv pt G) t x).getD c 0=pF n (aS (kx mv pt G)) t (λc=>x.getD c 0) c:=λx lx c t=>congrFun (D6 lA' wA' lx t) c
 have KP:∀x:List Rat,x.9=n->∀c,(jr (kx mv pt G) n x).getD c 0=aK n λi=>wish.getD i 0*(jr (kx mv pt G) i x).getD c 0:=by
  intro x lx c;rw[pe x lx,aA λt _=>by rw[pe x lx]];refine ack (A:=aS (kx mv pt F)) (g:=λc=>row.getD c 0) (m:=λc=>me.getD c 0) (w:=λj=>wish.getD j 0) (s:=aS sts) H1 H2 ?_ H4 (λy=>∀c,n<=c->y c=0) ?_ ?_ ?_ (λc=>x.getD c 0) (λc hc=>by rw[aa,aG ()];rfl) c
  ·intro y;have:=Sk lA wA lr lq n (ah _) y;rw[hm,lq,this];congr 1;exact aA λl _=>by rw[jo,jm]
  ·intro y hy
   have:∀t,∃z:Nat->Rat,t < n->∀c,c < n->aK n (λj=>z j*aS sts (j+1) c)=if t=c then 1 else 0:=λt=>by
    by_cases ht:t < n
    ·obtain z|hz:=ba t ht;exact #[z,λ_=>hz]
    ·exact #[λ_=>0,λh=>absurd h ht]
   obtain z|hz:=Classical.axiomOfChoice this;refine #[λj=>aK n λt=>y t*z t j,?_];funext c;rcases aR c n with hc | hc
   ·have e:∀j,(aK n λt=>y t*z t j)*aS sts (j+1) c=aK n λt=>y t*(z t j*aS sts (j+1) c):=λj=>by
     rw[de,<- bW];exact aA λt _=>by grind
    rw[aA λj _=>e j,fV,eH hc λt ht ne=>by rw[bW,hz t ht c hc,if_neg ne,du],bW,hz c hc c hc,if_pos rfl,ji]
   ·rw[hy c hc];exact (bZ λj hj=>by rw[sw (j+1) () c hc,du]).symm
  ·intro y _ c hc;exact bZ λb _=>by rw[far lA' hc,cA]
  ·intro y hy c hc
   have z:∀t,pF n (aS (kx mv pt G)) t y c=0:=λt=>by
    cases t with
    | zero=>exact hy c hc
    | succ t=>exact bZ λb _=>by rw[far lA' hc,cA]
   dsimp only
   rw[z,bZ λt _=>by rw[z,du]];grind
 refine #[KP,λw' lw' h'=>?_]
 have d0:=Nj (d:=λi=>wish.getD i 0 - w'.getD i 0) H1 H2 H4 λj hj1 hj2 c=>by
  have lx:(sts.getD j []).9=n:=by
   rw[aa,ae ()];exact ws _ (az _)
  have k1:=KP _ lx c;have k2:=h' _ lx c;rw[k1] at k2;rw[aA λt _=>by rw[pe _ lx],aA (f:=λi=>w'.getD i 0*(jr (kx mv pt G) i (sts.getD j [])).getD c 0) λt _=>by rw[pe _ lx]] at k2
  have e:(aK n λi=>(wish.getD i 0 - w'.getD i 0)*pF n (aS (kx mv pt G)) i (aS sts j) c)=(aK n λi=>wish.getD i 0*pF n (aS (kx mv pt G)) i (λc=>(sts.getD j []).getD c 0) c)+-1*aK n λi=>w'.getD i 0*pF n (aS (kx mv pt G)) i (λc=>(sts.getD j []).getD c 0) c:=by
   rw[<- bW,<- gO]
   exact aA λi _=>by
    rw[show aS sts j=λc=>(sts.getD j []).getD c 0 from rfl];grind
  rw[e,k2];grind
 refine cz () λi h1 h2=>?_
 have:=d0 i ();rw[aa,ae h2,aa,ae h1] at this;have:wish[i] - w'[i]=0:=this;grind
end
def Ka (rows:LR9) (n k i:Nat) (pu:List Rat):Prop:=∃R ps f,bX (cx rows n) rows.9 R ps/\f∈ps/\k<=f/\(∀g∈ps,k<=g->f<=g)/\pu=if f=k then Mg i 0 else jP i ((f - k - 1:Nat):Int)
def wY (mv pt sts pus:LR9):Prop:=∀j,j < pus.9->Ka (sts.take (j+1)++(oS mv (sts.getD j []) :: pt)) mv.9 (j+1) pt.9 (pus.getD j [])
section
variable {mv pt sts pus sts' pus' rows G G':LR9} {n k i:Nat} {pu pu' wish:List Rat}
theorem Ka.uniq (h:Ka rows n k i pu) (h':Ka rows n k i pu'):pu=pu':=by
 obtain R|ps|f|RR|m|l|mn|rfl:=h;obtain R'|ps'|f'|RR'|m'|l'|mn'|rfl:=h';obtain _|rfl:=RR.same RR';have:f=f':=ou (mn _ m' l') (mn' _ m l);rw[this]
theorem Rx:wY mv pt l []:=λj h=>absurd h (cP _)
theorem wY.next (h:wY mv pt sts pus) (l:sts.9=pus.9+1) (s':List Rat) (a:Ka (sts++(oS mv (sts.getD pus.9 []) :: pt)) mv.9 sts.9 pt.9 pu):wY mv pt (sts++[s']) (pus++[pu]):=by
 intro j hj;rw[ao,aQ] at hj;have e1:(sts++[s']).take (j+1)=sts.take (j+1):=List.take_append_of_le_length ();have e2:(sts++[s']).getD j []=sts.getD j []:=by rw[aa,bM (),<- aa]
 rw[e1,e2];rcases aR j pus.9 with z | z
 ·rw[show (pus++[pu]).getD j []=pus.getD j [] by rw[aa,bM z,<- aa]];exact h j z
 ·obtain rfl:j=pus.9:=()
  rw[show (pus++[pu]).getD pus.9 []=pu by rw[aa,bE (ah _),jo];rfl,<- l,List.take_length];exact a
theorem Jw {S S':LR9} (l:S.9=S'.9) (h:∀t,t < S.9->S.getD t []=S'.getD t []):S=S':=by
 refine cz l λt h1 h2=>?_
 have:=h t h1;rw[aa,ae h1,aa,ae h2] at this;exact this
theorem OK (C:Fs mv pt sts pus) (L:wY mv pt sts pus) (C':Fs mv pt sts' pus') (L':wY mv pt sts' pus') (e:pus.9=pus'.9):sts=sts'/\pus=pus':=by
 have l1:=C.len;have l2:=C'.len
 have w:∀{S:LR9} {t:Nat},(∀xs∈S,xs.9=mv.9)->t < S.9->(S.getD t []).9=mv.9:=λ{S t} h ht=>by
  rw[aa,ae ht];exact h _ (az _)
 have key:∀j,j<=pus.9->(∀t,t<=j->sts.getD t []=sts'.getD t [])/\∀t,t < j->pus.getD t []=pus'.getD t []:=by
  intro j
  induction j with
  | zero =>
   intro _;refine #[λt ht=>?_,λt ht=>absurd ht (cP _)];obtain rfl:t=0:=()
   exact Js (by rw[w C.wide (),w C'.wide ()]) λc _=>(C.zero c).trans (C'.zero c).symm
  | succ j ih =>
   intro hj;obtain h1|h2:=ih ()
   have pj:pus.getD j []=pus'.getD j []:=by
    have a:=L j ();have b:=L' j ()
    have et:sts.take (j+1)=sts'.take (j+1):=by
     refine Jw (by rw[bf,bf,l1,l2,e]) λt ht=>?_
     rw[bf] at ht;rw[aa,eB (),<- aa,aa (l:=sts'.take _),eB (),<- aa];exact h1 t ()
    rw[et,h1 j (ah _)] at a;exact a.uniq b
   refine #[λt ht=>?_,λt ht=>?_]
   ·rcases aR j t with z | z
    ·obtain rfl:t=j+1:=()
     refine Js (by rw[w C.wide (),w C'.wide ()]) λc _=>?_
     refine (C.step j () c).trans (Eq.trans ?_ (C'.step j () c).symm);unfold aS;rw[h1 j (ah _),pj]
    ·exact h1 t z
   ·rcases aR t j with z | z
    ·exact h2 t z
    ·obtain rfl:t=j:=()
     exact pj
 obtain k1|k2:=key _ (ah _);exact #[Jw () λt ht=>k1 t (),Jw e λt ht=>k2 t ht]
def Ir (mv pt:LR9) (wish:List Rat) (G:LR9):Prop:=∃sts pus R ps,Fs mv pt sts pus/\wY mv pt sts pus/\pus.9=mv.9/\bX ((kF sts (pus++[Mg pt.9 0]) mv.9).drop 1) (mv.9+pt.9+1) R ps/\G=W0 (λrow b=>W0 (λx y=>x - y) row ((wW (kx mv pt ((ic R mv.9 pt.9).take pt.9)) ((ic R mv.9 pt.9).getD pt.9 []) wish wish.9).map λy=>b*y)) ((ic R mv.9 pt.9).take pt.9) ((pus++[Mg pt.9 0]).getD 0 [])
theorem Ir.uniq (h:Ir mv pt wish G) (h':Ir mv pt wish G'):G=G':=by
 obtain sts|pus|R|ps|C|L|lp|RR|e:=h;obtain sts'|pus'|R'|ps'|C'|L'|lp'|RR'|e':=h';obtain rfl|rfl:=OK C L C' L' ();obtain rfl|_:=RR.same RR';rw[e,e']
end
def PR (mv pt:LR9) (wish:List Rat) (G:LR9):Prop:=Yj mv pt wish G/\∀w':List Rat,w'.9=mv.9->(∀x:List Rat,x.9=mv.9->∀c,(jr (kx mv pt G) mv.9 x).getD c 0=aK mv.9 λi=>w'.getD i 0*(jr (kx mv pt G) i x).getD c 0)->w'=wish
inductive zR (K:FG9) (C:Addr) (vs:List V) (H:Hp) (Q:VK) (E9:XK):Prop
 | mk (x p:Addr) (w:Nat) (H0 H1:Hp) (mv pt lk sts pus Rk:LR9) (pk:List Nat):vs=[.ref x,.ref p]->oo K H0 H C x mv pt lk->js mv pt lk->bg K H1 H p sts->Fs mv pt sts pus->pus.9 < mv.9->bX (iX mv pt mv.9) mv.9 Rk pk->pk.9=mv.9->(∀xs∈mv,yr xs (sts.getD pus.9 []))->Ck (cx (sts++(oS mv (sts.getD pus.9 []) :: pt)) mv.9) (sts++(oS mv (sts.getD pus.9 []) :: pt)).9 w->(∀r pu H',Ka (sts++(oS mv (sts.getD pus.9 []) :: pt)) mv.9 sts.9 pt.9 pu->H r=none->aE H H'->df K H' r pu->pu.9=pt.9->(∀z∈pu,z=0\/z=1)->(∀s':List Rat,s'.9=mv.9->(∀c,s'.getD c 0=aK mv.9 (λi=>aS mv c i*aS sts pus.9 i)+aK pt.9 λl=>pu.getD l 0*aS pt l c)->Fs mv pt (sts++[s']) (pus++[pu]))->Q (.ref r) H')->zR K C vs H Q E9
inductive zZ (K:FG9) (C:Addr) (vs:List V) (H:Hp) (Q:VK) (E9:XK):Prop
 | mk (x:Addr) (H0:Hp) (mv pt lk Rk:LR9) (pk:List Nat):vs=[.ref x]->oo K H0 H C x mv pt lk->js mv pt lk->PL mv pt lk->bX (iX mv pt mv.9) mv.9 Rk pk->pk.9=mv.9->SE mv pt->(∀t a b sts pus H',wY mv pt sts pus->aE H H'->H' t=some (.tup [.ref a,.ref b])->bg K H H' a sts->bg K H H' b (pus++[Mg pt.9 0])->Fs mv pt sts pus->pus.9=mv.9->(∀pu∈pus,∀z∈pu,z=0\/z=1)->Q (.ref t) H')->zZ K C vs H Q E9
inductive zL (K:FG9) (C Cn:Addr) (vs:List V) (H:Hp) (Q:VK) (E:XK):Prop
 | mk (x q:Addr) (a c:Nat) (H0:Hp) (mv pt lk:LR9) (wish:List Rat):vs=[.ref x,.ref q]->oo K H0 H C x mv pt lk->js mv pt lk->PL mv pt lk->mM mv pt a c->(∀R ps,bX (iX mv pt mv.9) mv.9 R ps->(∃w,Ck R mv.9 w)/\∀xs∈R,∀x∈xs,jV x)->SE mv pt->Sv mv pt lk wish->df K H q wish->wish.9=mv.9->(∀R ps r G H',aE H H'->bX (iX mv pt mv.9) mv.9 R ps->ps.9=mv.9->H r=none->bg K H H' r G->G.9=pt.9->(∀xs∈G,xs.9=mv.9)->PR mv pt wish G->Ir mv pt wish G->Q (.ref r) H')->(∀R ps r dx H',bX (iX mv pt mv.9) mv.9 R ps->ps.9 < mv.9->aE H H'->H r=none->df K H' r ((jN R ps mv.9).getD 0 [])->H' dx=some (.xd [("price",.ref r)])->E (.ref Cn) (some dx) H')->zL K C Cn vs H Q E
inductive Cu (K:FG9) (C:Addr) (vs:List V) (H:Hp) (Q:VK) (E9:XK):Prop
 | mk (sy wq:Addr) (H0:Hp) (mv pt lk R:LR9) (ps:List Nat) (wish:List Rat):vs=[.ref sy,.ref wq]->MV K C H0 H sy mv pt lk->df K H wq wish->wish.9=mv.9->Sv mv pt lk wish->bX (iX mv pt mv.9) mv.9 R ps->(ps.9=mv.9->∀t r G H',aE H H'->H' t=some (.tup [.str (YV "yes"),.ref r])->H r=none->bg K H H' r G->G.9=pt.9->(∀xs∈G,xs.9=mv.9)->PR mv pt wish G->Ir mv pt wish G->Q (.ref t) H')->(ps.9 < mv.9->∀t H',aE H H'->H' t=some (.tup [.str (YV "no"),.non])->Q (.ref t) H')->Cu K C vs H Q E9
def MU (mv:LR9):Prop:=∃D:Nat,0 < D/\D<=2^500000/\(∀xs∈mv,sL 500000 500000 xs)/\∀k,k<=mv.9->(∀i j,i < mv.9->j < mv.9->Tp D (2^500000) ((mK (aS mv) mv.9 k).1 i j))/\Tp D (2^500000) (mK (aS mv) mv.9 k).2
theorem MU.gk (h:MU mv) (hi:i<=mv.9):∀xs∈mv,∀j,j < mv.9->yr xs ((Yq mv.9).map λl=>Gk (aS mv) mv.9 i l j):=λxs hx j hj=>by
 obtain D|D0|D1|f|t:=h;refine #[500000,500000,500000,500001,f xs hx,#[D,2^500001,D0,D1,ah _,λx hx=>?_],()];obtain l|hl|rfl:=au.mp hx;have hl:=dh.mp hl;cases i with
 | zero=>exact Fr.zero
 | succ i =>
  obtain t1|t2:=t i ();have e:(2:Nat)^500000+2^500000=2^500001:=(Nat.two_mul _).symm.trans (Nat.pow_succ' (n:=500000)).symm;show Fr D (2^500001) (_+_)
  by_cases z:l=j
  ·rw[if_pos z];have:=(t1 l j hl hj).add t2;rw[e] at this;exact this.fr D0
  ·rw[if_neg z,jk];exact ((t1 l j hl hj).mono (ar () ())).fr D0
inductive zQ (K:FG9) (vs:List V) (H:Hp) (Q:VK) (E9:XK):Prop
 | mk (p:Addr) (H0:Hp) (mv:LR9):vs=[.ref p]->bg K H0 H p mv->(∀xs∈mv,xs.9=mv.9)->mv.9<=4->MU mv->(∀r H',H r=none->aE H H'->df K H' r (P9 (aS mv) mv.9)->Q (.ref r) H')->zQ K vs H Q E9
section
variable {A:Nat->Nat->Rat} {mv pt lk G:LR9} {wish:List Rat} {n M M1 M2 V1 a a1 a2 c e:Nat}
theorem Qg (h:Tp M W x):Tp (M*(k+1)) W (x / ((k+1:Nat):Rat)):=by
 obtain t|ht|hw:=h;refine #[t,?_,hw]
 have k0:((k+1:Nat):Rat)≠0:=λz=>by
  have:(((k+1:Nat):Int):Rat)=0:=by rw[aJ];exact z
  have:=pS this
  lia
 have em:((M*(k+1):Nat):Rat)=(M:Rat)*((k+1:Nat):Rat):=by
  rw[<- aJ,<- aJ M,<- aJ (k+1),<- aL];congr 1
 rw[em,<- ht,c6];have:((k+1:Nat):Rat)⁻¹*((k+1:Nat):Rat)=1:=IC _ k0;grind
theorem Vp:4*2^Y=2^(Y+2):=by rw[bG];lia
theorem O3 (M0:0 < M) (Ma:M<=2^a) (n4:n<=4) (hA:∀i j,i < n->j < n->Tp M (2^e) (A i j)):∀K,K<=4->∃D,0 < D/\D<=2^(K*(a+2))/\∀k,k<=K->(∀i j,i < n->j < n->Tp D (2^(K*(e+a+7))) ((mK A n k).1 i j))/\Tp D (2^(K*(e+a+7))) (mK A n k).2
 | 0,_=>#[1,(),by rw[Ln];decide,λk hk=>by
   obtain rfl:k=0:=()
   exact #[λ_ _ _ _=>Tp.zero,1,by show (1:Rat)*_=_;rw[wZ];rfl,bC]]
 | K+1,hK=>by
  obtain D|D0|Db|ih:=O3 M0 Ma n4 hA K ()
  have kb:M*(K+1)<=2^(a+2):=by
   rw[bG];exact aP Ma ()
  refine #[D*(M*(K+1)),b8 D0 (b8 M0 ()),?_,λk hk=>?_]
  ·rw[dG,bG];exact aP Db kb
  have up0:2^(K*(e+a+7))*(M*(K+1))<=2^((K+1)*(e+a+7)):=by
   rw[dG K,bG 2 (K*_)];exact cY _ (ag kb (eF ()))
  rcases aR K k with z | z
  ·obtain rfl:k=K+1:=()
   obtain h1|h2:=ih K (ah _)
   have g:∀i j,i < n->j < n->Tp (M*D) (4*(2^e*(2^(K*(e+a+7))+2^(K*(e+a+7))))) ((mK A n (K+1)).1 i j):=λi j hi hj=>by
    refine (Tp.sum (k:=n) λl hl=>(hA i l hi hl).mul ((h1 l j hl hj).add (W':=2^(K*(e+a+7))) ?_)).mono (ax _ n4)
    split
    ·exact h2
    ·exact Tp.zero
   have eW:4*(2^e*(2^(K*(e+a+7))+2^(K*(e+a+7))))=2^(K*(e+a+7)+e+3):=by
    rw[<- Nat.two_mul,c7,c7,c7,bG];generalize 2^e=x;generalize 2^(K*(e+a+7))=y;rw[Nat.mul_left_comm x 2 y,bu x y]
    lia
   rw[eW] at g;refine #[λi j hi hj=>?_,?_]
   ·have t:=(g i j hi hj).up (K+1) (cY _ (show K+1<=2^2 by lia));rw[bu M D,cD] at t;refine t.mono ?_;rw[<- bG];exact eF (by rw[dG];lia)
   ·have t:Tp (M*D) (4*2^(K*(e+a+7)+e+3)) (aK n λi=>(mK A n (K+1)).1 i i):=(Tp.sum (k:=n) λi hi=>g i i hi hi).mono (ax _ n4);have t:=Qg (k:=K) t.neg;rw[bu M D,cD] at t;refine t.mono ?_;rw[Vp];exact eF (by rw[dG];lia)
  ·obtain h1|h2:=ih k z;exact #[λi j hi hj=>(h1 i j hi hj).up _ up0,h2.up _ up0]
theorem Th (h:∀xs∈mv,∀x∈xs,Tp M W x) (i j:Nat):Tp M W (aS mv i j):=by
 unfold aS;refine pC (λx hx=>?_) j;rw[aa] at hx;cases e:mv[i]? with
 | none=>rw[e] at hx;cases hx
 | some r=>rw[e] at hx;exact h r (ai e) x hx
theorem KU (n4:mv.9<=4) (M0:0 < M) (Ma:M<=2^a) (a9:a<=30000) (e9:e<=60000) (hA:∀xs∈mv,∀x∈xs,Tp M (2^e) x):MU mv:=by
 obtain D|D0|Db|h:=O3 M0 Ma n4 (λi j _ _=>Th hA i j) mv.9 n4;have e1:mv.9*(a+2)<=500000:=ag (aP n4 (ah _)) ();have e2:mv.9*(e+a+7)<=500000:=ag (aP n4 (ah _)) ();exact #[D,D0,ag Db (eF e1),λxs hx=>#[M,2^e,M0,ag Ma (eF ()),eF (),λx hx'=>(hA xs hx x hx').fr M0],λk hk=>#[λi j hi hj=>((h k hk).1 i j hi hj).mono (eF e2),(h k hk).2.mono (eF e2)]]
theorem Up (M0:0 < M) (Ma:M<=2^a) (a9:a<=30000) (e9:e<=60000) (hA:∀xs∈mv,∀x∈xs,Tp M (2^e) x):∃N,vH N (mv.flatten.map nm):=by
 refine #[(M:Int),(),?_,λn hn=>?_]
 ·show ((M:Nat):Int).natAbs < 2^4400000
  rw[b9];exact aZ (ag Ma (eF a9)) (dm () ())
 ·obtain x|hx|rfl:=au.mp hn;obtain xs|h1|h2:=yI.mp hx;have t:=(hA xs h1 x h2);exact #[gZ x,(t.fr M0).den,(j7 t M0 (ag Ma (eF ())) (eF ())).1.mono ()]
theorem Wz (hM:∃N,vH N (mv.flatten.map nm)) (n4:mv.9<=4) (hw:∀xs∈mv,xs.9=mv.9) (x:List Rat) (lx:x.9=mv.9) (k:Nat):(jr mv mv.9 x).getD k 0=aK mv.9 λi=>(P9 (aS mv) mv.9).getD i 0*(jr mv i x).getD k 0:=by
 obtain N|hM:=hM
 have e:∀t,FI mv x t=jr mv t x:=λt=>by
  induction t with
  | zero=>rfl
  | succ t ih=>show (mv.map λxs=>fX xs (FI mv x t))=oS mv (jr mv t x);rw[ih];rfl
 have h:=RB n4 hM hw lx 0;rw[jm,e] at h;have lp:∀t,(jr mv t x).9=mv.9:=λt=>D5 lx t
 rcases aR k mv.9 with hk | hk
 ·rw[<- h,Ke hk,FA,<- Ni n4 hM hw];refine aA λi hi=>?_
  congr 1;unfold aS;rw[aa (l:=YO _ _),aw,bI hi];show (FI mv x (0+i)).getD k 0=_
  rw[jm,e]
 ·have z:∀t,(jr mv t x).getD k 0=0:=λt=>by rw[aa,aG (by rw[lp];exact hk)];rfl
  rw[z,bZ λi _=>by rw[z,du]]
theorem Kf:(P9 A n).9=n:=by unfold P9;rw[Fw,af,aN]
theorem OO (B:Bd mv pt M1 M2 V1 a1 a2 c) (hb:c+a1+a2<=400) (i4:pt.9<=4) (n4:mv.9<=4) (h:PR mv pt wish G):P9 (aS (kx mv pt G)) (kx mv pt G).9=wish/\MU (kx mv pt G):=by
 obtain ⟨_,N,N0,Nb,fN⟩|un:=h;have tG:∀xs∈G,∀x∈xs,Tp N (2^36001) x:=λxs hx x hx'=>Tp.of (fN xs hx x hx') (by rw[show (36001:Nat)=12001+24000 from rfl,bG];exact cY _ Nb)
 have tC:=Tu B i4 N0 (ag Nb (eF ())) tG;have C0:0 < M1*(M2*N):=b8 B.m1 (b8 B.m2 N0);have Cb:M1*(M2*N)<=2^(a1+(a2+24000)):=ie B.b1 (ie B.b2 Nb);have hM:=Up C0 Cb () () tC;have l4:(kx mv pt G).9<=4:=by rw[fw];exact n4
 refine #[un _ (by rw[Kf,fw]) λx lx k=>?_,KU l4 C0 Cb () () tC];have:=Wz hM l4 (λxs hx=>by rw[C7 xs hx,fw]) x (by rw[fw];exact lx) k;rw[fw] at this ⊢;exact this
def PJ (wish:List Rat):Prop:=∃Mw,0 < Mw/\Mw<=2^480/\∀z∈wish,Tp Mw (2^480) z
theorem Nh (B:Bd mv pt M1 M2 V1 a1 a2 c) (ha:a1<=40) (hc:c<=23) (n4:mv.9<=4):PJ (P9 (aS mv) mv.9)/\MU mv:=by
 have t:∀xs∈mv,∀x∈xs,Tp M1 (2^63) x:=λxs hx x hx'=>Tp.of (B.gm xs hx x hx') (ag (ie B.v1 B.b1) (eF ()))
 have f:=KU n4 B.m1 B.b1 () () t;obtain D|D0|Db|h:=O3 B.m1 B.b1 n4 (λi j _ _=>Th t i j) mv.9 n4;have e1:mv.9*(a1+2)<=480:=ag (aP n4 (ah _)) ();have e2:mv.9*(63+a1+7)<=480:=ag (aP n4 (ah _)) ();refine #[#[D,D0,ag Db (eF e1),λz hz=>?_],f];unfold P9 at hz;obtain k|hk|rfl:=au.mp (List.mem_reverse.mp hz);have:=dh.mp hk;exact ((h (k+1) ()).2.mono (eF e2)).neg
end
structure XA (mv pt F:LR9):Prop where
 sp:∀k i,jV (aS pt k i)
 sf:∀k b,jV (aS F k b)
 sq:∀k i b,jV (aS pt k i*aS F k b)
 sj:∀j i b,j<=pt.9->jV (aS mv i b+aK j λk=>aS pt k i*aS F k b)
inductive vT (K:FG9) (vs:List V) (H:Hp) (Q:VK) (E9:XK):Prop
 | mk (r p m pp l:Addr) (H0 H1 H2:Hp) (mv pt lk F:LR9):vs=[.ref r,.ref p]->H r=some (.tup [.ref m,.ref pp,.ref l])->bg K H0 H m mv->bg K H2 H pp pt->js mv pt lk->bg K H1 H p F->F.9=pt.9->(∀xs∈F,xs.9=mv.9)->XA mv pt F->(∀t m2 H',aE H H'->H' t=some (.tup [.ref m2,.ref pp,.ref l])->H m2=none->bg K H H' m2 (kx mv pt F)->Q (.ref t) H')->vT K vs H Q E9
inductive yu (K:FG9) (vs:List V) (H:Hp) (Q:VK) (E9:XK):Prop
 | mk (b r:Addr) (H0:Hp) (M1 M2 Vx:Nat) (mv pt lk:LR9):vs=[.ref b,.ref r]->kH H b->H0 b≠none->o6 K H0 H r mv pt lk->js mv pt lk->mv.9<=4->Bd mv pt M1 M2 Vx 40 80 23->(∀q wish H',q≠b->kH H' b->dD b H H'->df K H' q wish->wish.9=mv.9->PJ wish->Q (.ref q) H')->yu K vs H Q E9
inductive yw (K:FG9) (C:Addr) (vs:List V) (H:Hp) (Q:VK) (E9:XK):Prop
 | mk (sy r wq:Addr) (fl:Bool) (H0 H1:Hp) (M1 M2 Vx:Nat) (mv pt lk R:LR9) (ps:List Nat) (wish:List Rat):vs=[.ref sy,.ref r,.ref wq,.bl fl]->MV K C H1 H sy mv pt lk->o6 K H0 H r mv pt lk->mv.9<=4->Bd mv pt M1 M2 Vx 40 80 23->df K H wq wish->wish.9=mv.9->PJ wish->bX (iX mv pt mv.9) mv.9 R ps->fl=decide (ps.9=mv.9)->(∀H',aE H H'->Q (.bl true) H')->yw K C vs H Q E9
theorem Sd (B:Bd mv pt M1 M2 V1 a1 a2 c) (hb:c+a1+a2<=400) (i4:pt.9<=4) (h:PR mv pt wish G):XA mv pt G/\∀xs∈G,∀z∈xs,jV z:=by
 obtain ⟨_,N,N0,Nb,fN⟩|_:=h;have v1:=B.v1;have C0:0 < M1*(M2*N):=b8 B.m1 (b8 B.m2 N0);have Cb:M1*(M2*N)<=2^(a1+(a2+24000)):=ie B.b1 (ie B.b2 Nb);have q:∀k i b,Fr (M2*N) (V1*2^12001) (aS pt k i*aS G k b):=λk i b=>(qL B.gp).mul (qL fN)
 have w:V1*2^12001<=2^(c+12001):=ie v1 (ah _);refine #[#[λk i=>yc B.m2 B.b2 v1 () (qL B.gp),λk b=>yc N0 Nb (ah (2^12001)) () (qL fN),λk i b=>yc (b8 B.m2 N0) (ie B.b2 Nb) w () (q k i b),λj i b hj=>?_],λxs hx z hz=>yc N0 Nb (ah (2^12001)) () (fN xs hx z hz)];have s:=((qL (i:=i) (j:=b) B.gm).dvd (lU M1 (M2*N))).add ((Uj (λk _=>q k i b) (show j<=4 by lia)).dvd (iE (M2*N) M1));refine yc C0 Cb (b:=c+12001+3) ?_ () s;have e:2^(c+12001+3)=8*2^(c+12001):=by rw[bG];lia
 have:V1<=2^(c+12001):=ag v1 (eF ())
 lia
theorem Kg (h:∀z∈l,z=0\/z=1):PJ l:=#[1,(),bC,λz hz=>Nr bC (h z hz)]
theorem zG (h:∃B,0 < B/\B<=2^22/\∀x∈l,Fr B (2^22) x):PJ l:=by
 obtain B|h0|h1|h2:=h;exact #[B,h0,ag h1 (eF ()),λz hz=>Tp.of (h2 z hz) (ag (cY _ h1) (by rw[<- bG];exact eF ()))]
section
variable {n:Nat} {ls x wish:List Rat} {mv R G:LR9} {ps:List Nat}
theorem Pl (hi:i+1 < n) (hj:j < n):aS (mL n ls) i j=if j=i+1 then 1 else 0:=by
 unfold aS mL;rw[aa (l:=YO _ _),aw,bI ()];show (if i+1=n then ls else _).getD j 0=_
 rw[if_neg (),aa,aw,bI hj];rfl
theorem R9 (hn:0 < n):aS (mL n ls) (n - 1) j=ls.getD j 0:=by
 unfold aS mL;rw[aa (l:=YO _ _),aw,bI ()];show (if n - 1+1=n then ls else _).getD j 0=_
 rw[if_pos ()]
theorem zh {A:Nat->Nat->Rat} (h:∀a,a+1 < n->∀b,b < n->A a b=if b=a+1 then 1 else 0) {y:Nat->Rat}:∀t a,a+t < n->pF n A t y a=y (a+t)
 | 0,a,_=>rfl
 | t+1,a,ha=>by
  show aK n (λb=>A a b*pF n A t y b)=_
  rw[eH (i:=a+1) () λb hb ne=>by rw[h a () b hb,if_neg ne,cA],h a () _ (),if_pos rfl,wZ,zh h t (a+1) ()];congr 1
  lia
theorem KG {e:List Rat}:∀t,iX mv [e] t=(Yq t).map λi=>jr mv i e
 | 0=>rfl
 | t+1=>by
  show [e]++(iX mv [e] t).map (oS mv)=_
  rw[KG t,gI,List.range_succ_eq_map,iB,gI];rfl
theorem L9 (hl:ls.9=n) (RR:bX (iX (mL n ls) [jP n ((n - 1:Nat):Int)] n) n R ps):ps.9=n:=by
 refine ou RR.le (M7 λlt=>?_);have lc:(mL n ls).9=n:=jg
 have fnk:∀i,i < n->∀c,aS (iX (mL n ls) [jP n ((n - 1:Nat):Int)] n) i c=pF n (aS (mL n ls)) i (λc=>(jP n ((n - 1:Nat):Int)).getD c 0) c:=λi hi c=>by
  rw[KG,<- congrFun (D6 lc (Tt hl) uA i) c];unfold aS;rw[aa (l:=YO _ _),aw,bI hi];rfl
 have kl:(iX (mL n ls) [jP n ((n - 1:Nat):Int)] n).9=n:=by rw[zu,aQ,Nat.mul_one]
 obtain y|⟨i,hi,hy⟩|h0:=EH lt λi hi=>RR.2.2.span i (by rw[kl];exact hi)
 have ze:∀e,e < n->y (n - 1 - e)=0:=by
  intro e
  induction e using Nat.strongRecOn with
  | ind e ih =>
   intro he;have q:=h0 e
   have v:∀j,j<=n - 1 - e->aS (iX (mL n ls) [jP n ((n - 1:Nat):Int)] n) j e=if e+j=n - 1 then 1 else 0:=λj hj=>by
    rw[fnk j (),zh (λa ha b hb=>Pl ha hb) j e (),xn ()]
   rw[eH (show n - 1 - e < n by lia) λj hj ne=>?_,v _ (ah _),if_pos (),ji] at q
   ·exact q
   ·rcases aR j (n - 1 - e) with z | z
    ·rw[v j (),if_neg (),du]
    ·have:=ih (n - 1 - j) () ();rw[show n - 1 - (n - 1 - j)=j by lia] at this;rw[this,cA]
 refine hy ?_;have:=ze (n - 1 - i) ();rwa [show n - 1 - (n - 1 - i)=i by lia] at this
theorem OI (hl:ls.9=n) (n0:0 < n) (lw:wish.9=n) (lG:G.9=1) (wG:∀xs∈G,xs.9=n) (h:PR (mL n ls) [jP n ((n - 1:Nat):Int)] wish G):G=[W0 (λx y=>x - y) wish ls]:=by
 obtain ⟨g,rfl⟩:∃g,G=[g]:=OJ lG;have lg:=wG g cU;obtain ⟨key,_⟩|_:=h;rw[jg] at key;obtain ⟨A,eA⟩:∃A,kx (mL n ls) [jP n ((n - 1:Nat):Int)] [g]=A:=#[_,rfl];have lA:A.9=n:=by rw[<- eA,fw,jg]
 have wA:∀xs∈A,xs.9=n:=λxs hx=>by rw[<- eA] at hx;rw[C7 xs hx,jg]
 have hA:∀a,a < n->∀b,b < n->aS A a b=aS (mL n ls) a b+(if a=n - 1 then 1 else 0)*g.getD b 0:=λa ha b hb=>by
  rw[<- eA,E2 (by rw[jg];exact ha) (by rw[jg];exact hb)];congr 1;show (0:Rat)+(jP n ((n - 1:Nat):Int)).getD a 0*g.getD b 0=_
  rw[uK,xn ()]
 have sh:∀a,a+1 < n->∀b,b < n->aS A a b=if b=a+1 then 1 else 0:=λa ha b hb=>by
  rw[hA a () b hb,Pl ha hb,if_neg (show ¬a=n - 1 by lia),cA,jk]
 rw[eA] at key;refine congrArg (λz=>[z]) (Js (by rw[lg,aT,lw,hl,jZ]) λj hj=>?_);rw[lg] at hj;have pe:∀t,(jr A t (jP n ((j:Nat):Int))).getD 0 0=pF n (aS A) t (λc=>(jP n ((j:Nat):Int)).getD c 0) 0:=λt=>congrFun (D6 lA wA uA t) 0
 have k:=key (jP n ((j:Nat):Int)) uA 0;rw[pe,aA λi hi=>by rw[pe,zh sh i 0 (),jm,xn hj],eH hj λi hi ne=>by rw[if_neg ne,du],if_pos rfl,ji] at k
 have e1:pF n (aS A) n (λc=>(jP n ((j:Nat):Int)).getD c 0) 0=aS A (n - 1) j:=by
  obtain ⟨m,rfl⟩:∃m,n=m+1:=#[n - 1,()];rw[mR,zh sh m 0 (),jm];show aK (m+1) (λb=>aS A m b*(jP (m+1) ((j:Nat):Int)).getD b 0)=_
  rw[eH hj λb hb ne=>by rw[xn hj,if_neg ne,du],xn hj,if_pos rfl,ji];rfl
 rw[e1,hA _ () j hj,R9 n0,if_pos rfl,wZ] at k;rw[aa (l:=W0 _ _ _),bV,ae (show j < wish.9 by lia),ae (show j < ls.9 by lia)];show _=wish[j] - ls[j]
 rw[aa (l:=ls),ae (show j < ls.9 by lia),aa (l:=wish),ae (show j < wish.9 by lia)] at k;have k:ls[j]+g.getD j 0=wish[j]:=k;grind
theorem Er (hl:ls.9=n) (n8:n<=8) (hf:∀x∈ls,Fr 1 2 x):Bd (mL n ls) [jP n ((n - 1:Nat):Int)] 1 1 2 0 0 5:=by
 refine #[(),(),ah _,ah _,λxs hx x hx'=>?_,λxs hx x hx'=>?_,by rw[jg];lia]
 ·obtain i|_|rfl:=au.mp hx
  try dsimp only at hx'
  split at hx'
  ·exact hf x hx'
  ·obtain j|_|rfl:=au.mp hx'
   try dsimp only
   split
   ·exact Fr.one ()
   ·exact Fr.zero
 ·rw[aU.mp hx] at hx';exact (T5 x hx').mono ()
theorem U7 (hl:ls.9=n) (n8:n<=8):js (mL n ls) [jP n ((n - 1:Nat):Int)] []:=#[by rw[jg];exact n8,(show 1<=4 by decide),(show 0<=4 by decide),λxs hx=>by rw[jg];exact Tt hl xs hx,λxs hx=>by rw[aU.mp hx,uA,jg],λxs hx=>nomatch hx]
theorem OH (hl:ls.9=n) (n8:n<=8) (hf:∀x∈ls,Fr 1 2 x):PL (mL n ls) [jP n ((n - 1:Nat):Int)] []:=#[1,2,(),bC,(),(Er hl n8 hf).gm,(Er hl n8 hf).gp,λxs hx=>nomatch hx]
theorem Rv (B:Bd mv pt 1 1 2 0 0 5) (D:js mv pt lk) (hl:MT lk):PK mv pt lk:=by
 have vc:=B.vc;have i4:=D.i4;have d8:=D.n8;have hn:mv.9=0\/mv.9=1\/mv.9=2\/mv.9=3\/mv.9=4\/mv.9=5\/mv.9=6\/mv.9=7\/mv.9=8:=()
 have KF:mM mv pt 0 5:=#[1,2,B.m1,B.b1,ag (ax _ ()) vc,B.gm,B.gp,(),(),by rcases hn with h | h | h | h | h | h | h | h | h <;> rw[h] <;> decide,by rcases hn with h | h | h | h | h | h | h | h | h <;> rw[h] <;> decide];refine #[#[d8,D.mw,D.pw,#[0,5,KF,?_,?_],()],#[_,_,U0 KF D (by rcases hn with h | h | h | h | h | h | h | h | h <;> rw[h] <;> decide)],#[0,5,KF,()],?_,λwish Mw lw Mw0 Mwb hw=>?_]
 ·rcases hn with h | h | h | h | h | h | h | h | h <;> rw[h] <;> decide
 ·rcases hn with h | h | h | h | h | h | h | h | h <;> rw[h] <;> decide
 ·refine EY D B.m1 B.m1 B.gm B.gp () (B:=2^5) (ag (ax _ ()) vc) (a:=0*mv.9+0) (b:=5*mv.9) (ie (qR B.b1 _) B.b1) (qR (ah _) _) () () () ()
 ·refine DE Mw0 Mwb B D () hl lw hw rfl rfl ?_ ?_ ?_ () ?_
  all_goals rcases hn with h | h | h | h | h | h | h | h | h <;> rw[h] <;> decide
end
section
variable {mv pt:LR9}
theorem GI:∀t,iX mv pt (t+1)=iX mv pt t++pt.map (jr mv t)
 | 0=>by
  show pt++[]=[]++pt.map λx=>x
  rw[fK,dg,List.map_id']
 | t+1=>by
  show pt++(iX mv pt (t+1)).map (oS mv)=(pt++(iX mv pt t).map (oS mv))++pt.map λx=>oS mv (jr mv t x)
  rw[GI t,cR,cy,gI];rfl
theorem Oe:(pt.map (jr mv t)).map (oS mv)=pt.map (jr mv (t+1)):=by rw[gI];rfl
end
inductive CH (K:FG9) (vs:List V) (H:Hp) (Q:VK) (E9:XK):Prop
 | mk (b:Addr):vs=[.ref b]->kH H b->(∀H',Q (.bl true) H')->CH K vs H Q E9
inductive zM (K:FG9) (vs:List V) (H:Hp) (Q:VK) (E9:XK):Prop
 | mk (r:Addr) (a c:Nat) (H0 Hz:Hp) (mv pt lk:LR9):vs=[.ref r]->o6 K H0 H r mv pt lk->js mv pt lk->mM mv pt a c->(∀q,H0 q=none->Hz q=none)->(∀q,H q=none->Hz q=none)->(∀l H',H l=none->aE H H'->bg K Hz H' l (iX mv pt mv.9)->Q (.ref l) H')->zM K vs H Q E9
def PN (b:Addr) (H:Hp) (c:Int×Int) (v:V):Prop:=∃t,v=.ref t/\t≠b/\H t=some (.tup [.int c.1,.int c.2])
theorem PN.upto (h:PN b H c v) (u:dD b H H'):PN b H' c v:=by
 obtain t|e|n|g:=h;exact #[t,e,n,u.other n g]
theorem S7 {a c:Int} (ha:a.natAbs<=4) (c1:1<=c) (c3:c<=3):Fr 6 4 ((a:Rat) / (c:Rat))/\(lo a c,hi a c)=nm ((a:Rat) / (c:Rat)):=by
 have c0:(c:Rat)≠0:=λz=>by have:=eQ.mp z;lia
 have ec:(a:Rat) / (c:Rat)*(c:Rat)=(a:Rat):=by
  rw[c6,xj,IC _ c0,ji]
 refine #[?_,oi () ec]
 obtain ⟨d,hd,d0,d6⟩:∃d:Int,c*d=6/\0<=d/\d<=6:=by
  rcases (show c=1\/c=2\/c=3 by lia) with rfl | rfl | rfl
  ·exact #[6,(),(),()]
  ·exact #[3,(),(),()]
  ·exact #[2,(),(),()]
 refine #[a*d,?_,?_]
 ·rw[show ((6:Nat):Rat)=(c:Rat)*(d:Rat) by rw[<- aL,hd];rfl,<- xj,ec,aL]
 ·rw[eC];exact aP ha ()
theorem Sa (n0:0 < n):((Yq (n - 1)).map λ(i:Nat)=>(Yq n).map λ(j:Nat)=>(((if decide ((j:Int)=(i:Int)+1)=true then 1 else 0:Int)):Rat))++[ls]=mL n ls:=by
 obtain ⟨m,rfl⟩:∃m,n=m+1:=#[n - 1,()];unfold mL;rw[show m+1 - 1=m by lia,i8,cR,List.map_singleton,if_pos rfl,<- i8];congr 1;refine cF λi hi=>?_
 have:=dh.mp hi;rw[if_neg ()];refine cF λj _=>?_
 by_cases y:j=i+1
 ·rw[if_pos y,if_pos (decide_eq_true ())];rfl
 ·rw[if_neg y,if_neg (λz=>y (by have:=of_decide_eq_true z;lia))];rfl
def Nx (N:St->Hp->Prop) (u:TS) (D:Ends):Prop:=∀σ H,u D σ H->N σ H
theorem Qv (h:∀N:St->Hp->Prop,Nx N u D->t { D with nx:=N } σ H):V6 t u D σ H:=h (u D) λ_ _ q=>q
theorem N2 (hN:Nx N u D) (h:u D σ H):N σ H:=hN _ _ h
theorem iC {K:FG9}:(yU CX P w K mg base N qual scope f cd A outer s H E).nox.K=K:=rfl
end L2
open L2
local macro_rules | `(tactic| walk_at "hl") => `(tactic| first | (show _ ≤ YB; with_unfolding_all decide) | (with_unfolding_all exact (by decide)))
local macro_rules | `(tactic| walk_at "sq") => `(tactic| first | with_reducible assumption | with_reducible exact pA.of (by assumption) | with_reducible exact br.of (by assumption) | with_reducible exact pA.of aD | with_reducible exact br.of aD | assumption)
local macro_rules | `(tactic| walk_at "sc") => `(tactic| first | (with_reducible show (0 : Int) < _; decide) | with_reducible exact K9 (by decide) (by decide) | with_reducible exact La (by decide) (by decide) | with_reducible exact cpow_of (by decide) (by decide) (by decide))
def walkOf(x:String)(b:Lean.TSyntax `tactic):Lean.MacroM (Lean.TSyntax `tactic):=do
 let i:=Lean.mkIdent (.mkSimple (x.drop 1).toString)
 let a←match x.front with
  |'0'=>`(tactic|with_reducible refine $i ?_)
  |'1'=>`(tactic|((with_reducible refine' $i ?h ?_);(case h=>with_unfolding_all rfl)))
  |'3'=>`(tactic|((with_reducible refine' $i ?h ?_);(case h=>walk_at "sc")))
  |'4'=>`(tactic|((with_reducible refine' $i ?h ?k ?l ?_);(case h=>with_reducible first|assumption|exact aD);(case k=>with_unfolding_all rfl);(case l=>with_unfolding_all rfl)))
  |'5'=>`(tactic|((with_reducible refine' $i ?h ?_);(case h=>with_reducible assumption)))
  |_=>`(tactic|((with_reducible refine' $i ?h ?k ?_);(case h=>walk_at "sq");(case k=>with_unfolding_all rfl)))
 `(tactic|first|$a:tactic|$b:tactic)
local macro_rules | `(tactic| walk_at "rd") => do
 let b←("0Qy 0UK 0N8 1Ur 0XX 0Wp 0Ws 0Wl 0XY 0UJ 0Uy 0UI 0rd_neS 0rd_eqB 0Uz 0QD 0Ja 0UH 0Qu 0Qz 0QC 0N7 0Qt 0Wm 0Uu 0rd_retN 0UD 0UL 0Wo 0Uw 0QQ 0rd_orV 0Qx 0UE 0Uq 0RD 0WN 0WO 0WQ 0SY 0Ux 0QL 0Us 0UA 0QN 0Wq 0QK 0Uv 0QP 1rd_aug 0UC 0QG 0Oa 0QI 0Wn 0LJ 0Qw 0UG 0N6 0QE 0N5 0N3 1QM 0Qs 0Wr 0rd_bm0 0rd_brk 2QF 0rd_cont 3fW 2UB 2b7 2QJ 4fg 5N2".splitOn " ").foldrM walkOf (←`(tactic|first|with_reducible refine ⟨_, rfl, ?_⟩|with_reducible refine ⟨_, _, rfl, ?_⟩))
 `(tactic|first|(with_reducible refine Qv ?_; intro N hN)|$b:tactic)
namespace L2
open PySem PySem.Spec PyProof.Rows Nm
section
variable {X:Cx} {e e1 e2 e3:Expr} {te t1 t2 t3:TE}
theorem fo (i:Nat) {x:Str} {pos:Pos} (hN:X.N.Nodup:=by walk_at "u") (hi:X.N[i]?=some x:=by rfl) (hx:Loc X.env.scope x:=by first | exact Or.inl rfl | exact Or.inr rfl) (hf:X.fn x=true\/X.env.scope.names.lookup x=some .local:=by first | exact .inl rfl | exact .inr rfl | assumption):PG X (.Name x pos) (CZ i):=Q1 hN hi hx hf
theorem fL (i:Nat) {x:Str} {pos pos':Pos} (hN:X.N.Nodup) (he:PE X e te) (hi:X.N[i]?=some x:=by rfl) (hx:Loc X.env.scope x:=by first | exact Or.inl rfl | exact Or.inr rfl) (hs:swapsWith e (some (.Name x pos')) pos.line X.env=pure false:=by rfl) (hf:X.fn x=true\/X.env.scope.names.lookup x=some .local:=by first | exact .inl rfl | exact .inr rfl | assumption):PS X (.Assign [.Name x pos'] e pos) (NA te (CZ i)):=UQ hN hi hx he hs hf
theorem dj (a:PE X e te) (h0:Yu [e] X.env=(false,eval e X.env) :: Yu [] X.env:=by rfl):PA X [e] (jQ te Bn):=(gQ a jx h0)
theorem cH (a:PE X e te) (b:PE X e1 t1) (h0:Yu [e,e1] X.env=(false,eval e X.env) :: Yu [e1] X.env:=by rfl) (h1:Yu [e1] X.env=(false,eval e1 X.env) :: Yu [] X.env:=by rfl):PA X [e,e1] (jQ te (jQ t1 Bn)):=(gQ a (gQ b jx h1) h0)
theorem Bj (a:PE X e te) (b:PE X e1 t1) (c:PE X e2 t2) (h0:Yu [e,e1,e2] X.env=(false,eval e X.env) :: Yu [e1,e2] X.env:=by rfl) (h1:Yu [e1,e2] X.env=(false,eval e1 X.env) :: Yu [e2] X.env:=by rfl) (h2:Yu [e2] X.env=(false,eval e2 X.env) :: Yu [] X.env:=by rfl):PA X [e,e1,e2] (jQ te (jQ t1 (jQ t2 Bn))):=(gQ a (gQ b (gQ c jx h2) h1) h0)
theorem PY (a:PE X e te) (b:PE X e1 t1) (c:PE X e2 t2) (d:PE X e3 t3) (h0:Yu [e,e1,e2,e3] X.env=(false,eval e X.env) :: Yu [e1,e2,e3] X.env:=by rfl) (h1:Yu [e1,e2,e3] X.env=(false,eval e1 X.env) :: Yu [e2,e3] X.env:=by rfl) (h2:Yu [e2,e3] X.env=(false,eval e2 X.env) :: Yu [e3] X.env:=by rfl) (h3:Yu [e3] X.env=(false,eval e3 X.env) :: Yu [] X.env:=by rfl):PA X [e,e1,e2,e3] (jQ te (jQ t1 (jQ t2 (jQ t3 Bn)))):=(gQ a (gQ b (gQ c (gQ d jx h3) h2) h1) h0)
abbrev bQ:=@pv X 0
abbrev cL:=@pv X 1
abbrev fh:=@pv X 2
abbrev jC:=@pv X 3
abbrev uM:=@pv X 4
abbrev xO:=@pv X 5
abbrev rd:=@pv X 6
abbrev Bw:=@pv X 7
abbrev Iw:=@pv X 8
abbrev sC (N:List Str) (k:Nat) (st:Stmt):Prop:=pU N (N.take k) (dz st)
end
end L2
local macro_rules | `(tactic| walk_at "w") => `(tactic| repeat walk_at "rd")
local macro_rules | `(tactic| walk_at "d") => `(tactic| exact ⟨rfl,rfl,rfl,by decide +kernel,rfl,by decide +kernel,by decide +kernel⟩)
namespace Lw
open PySem PySem.Spec PyProof.Rows L2 Nm
abbrev bv (P:YS):Prop:=P.given.tree=none
local macro_rules | `(tactic| exists $e) => `(tactic| (walk_at "w";refine $e))
local macro_rules | `(tactic| walk_at "n") => `(tactic| (intro vs H Q E h;repeat first|(subst_vars;rfl)|(cases h;subst_vars;rfl)|rcases h with ⟨_,h⟩))
local macro_rules | `(tactic| walk_at "i") => `(tactic| set_option tactic.hygienic false in intros)
local macro_rules | `(tactic| walk_at "s") => `(tactic| refine nD (by dsimp only [Uk] <;> rfl) ?_)
local macro_rules | `(tactic| walk_at "d") => `(tactic| exact ⟨rfl, rfl, rfl, by decide +kernel, rfl, by decide +kernel, by decide +kernel⟩)
local macro_rules | `(tactic| walk_at "u") => `(tactic| (change ZC (α := Str) (_::_);decide +kernel))
set_option maxHeartbeats 4000000
def top (i:Nat):Stmt:=PySem.Challenge.pw_helmsum_k84_steered.main.body.getD i (.Pass #[0,0,0,0])
abbrev vo:Stmt:=top 67
abbrev tL:Stmt:=top 68
abbrev vm:Stmt:=top 69
abbrev tz:Stmt:=top 55
abbrev vf:Stmt:=top 10
abbrev mC:Stmt:=top 11
abbrev tI:Stmt:=top 13
abbrev Ac:Stmt:=top 19
abbrev qq:Stmt:=top 56
abbrev fq:Stmt:=inClass (top 57) 0
abbrev tD:Stmt:=top 24
abbrev kK:Stmt:=top 12
abbrev nP:Stmt:=top 23
abbrev rN:Stmt:=top 36
abbrev xH:Stmt:=top 38
abbrev rO:Stmt:=top 37
abbrev DU:Stmt:=top 39
abbrev Ab:Stmt:=top 14
abbrev xD:Stmt:=top 40
abbrev xC:Stmt:=top 25
abbrev xG:Stmt:=top 29
abbrev rL:Stmt:=top 46
abbrev qe:Stmt:=top 47
abbrev rH:Stmt:=top 48
abbrev dI:Stmt:=inClass (top 6) 0
abbrev vd:Stmt:=top 27
abbrev nO:Stmt:=top 33
abbrev xF:Stmt:=top 34
abbrev DW:Stmt:=top 16
abbrev xE:Stmt:=top 43
abbrev qj:Stmt:=top 35
abbrev DV:Stmt:=top 44
abbrev j8:Stmt:=top 61
abbrev rJ:Stmt:=top 26
abbrev qi:Stmt:=top 30
abbrev rK:Stmt:=top 41
abbrev qh:Stmt:=top 62
abbrev ip:Stmt:=inClass (top 57) 1
abbrev DX:Stmt:=top 63
abbrev tH:Stmt:=top 21
abbrev rM:Stmt:=top 31
abbrev rG:Stmt:=top 50
abbrev DS:Stmt:=top 17
abbrev tE:Stmt:=top 22
abbrev DY:Stmt:=top 64
abbrev IX:Stmt:=top 15
abbrev ve:Stmt:=top 20
abbrev Ad:Stmt:=top 59
abbrev xB:Stmt:=top 65
abbrev tK:Stmt:=top 96
abbrev tX:Stmt:=top 71
abbrev rT:Stmt:=top 88
abbrev tW:Stmt:=top 98
abbrev nV:Stmt:=top 85
abbrev qB:Stmt:=top 74
abbrev vh:Stmt:=top 75
abbrev tU:Stmt:=top 82
abbrev vg:Stmt:=top 70
abbrev tQ:Stmt:=top 77
abbrev tP:Stmt:=top 72
abbrev xJ:Stmt:=top 78
abbrev rS:Stmt:=top 83
abbrev rR:Stmt:=top 84
abbrev qD:Stmt:=top 86
abbrev tV:Stmt:=top 87
abbrev tO:Stmt:=top 73
abbrev oM:Stmt:=top 89
abbrev vn:Stmt:=top 76
abbrev xI:Stmt:=top 90
abbrev rQ:Stmt:=top 91
abbrev mD:Stmt:=top 79
abbrev qC:Stmt:=top 80
abbrev oO:Stmt:=top 81
abbrev oN:Stmt:=top 92
abbrev tJ:Stmt:=top 93
abbrev qE:Stmt:=top 94
abbrev rP:Stmt:=top 97
abbrev qv:Stmt:=top 95
abbrev NP:Stmt:=top 99
set_option genInjectivity false in
set_option genSizeOf false in
structure Ads where
 J0:Addr
 JK:Yn
 Ib:Addr
 Hq:Yn
 JY:Addr
 JI:Yn
 HU:Addr
 GU:Yn
 JV:Addr
 JF:Yn
 ym:Addr
 yf:Yn
 HY:Addr
 GY:Yn
 PD:Addr
 Pg:Yn
 Cd:Addr
 BP:Yn
 lN:Addr
 lK:Yn
 HV:Addr
 GV:Yn
 wX:Addr
 wU:Yn
 yY:Addr
 yT:Yn
 Fe:Addr
 EO:Yn
 MQ:Addr
 Mz:Yn
 Ff:Addr
 ER:Yn
 So:Addr
 RU:Yn
 PC:Addr
 Pf:Yn
 MM:Addr
 Mt:Yn
 MK:Addr
 Ms:Yn
 MP:Addr
 My:Yn
 Fc:Addr
 EM:Yn
 BY:Addr
 BL:Yn
 E7:Addr
 EJ:Yn
 gF:Addr
 i5:Yn
 JT:Addr
 JD:Yn
 yX:Addr
 yS:Yn
 MO:Addr
 Mx:Yn
 Sr:Addr
 RW:Yn
 MN:Addr
 Mu:Yn
 Cc:Addr
 BO:Yn
 Sq:Addr
 RV:Yn
 vG:Addr
 vF:Yn
 E8:Addr
 EK:Yn
 Ca:Addr
 BN:Yn
 Fb:Addr
 EL:Yn
 BZ:Addr
 BM:Yn
 o5:Addr
 oV:Yn
 Ss:Addr
 RX:Yn
 HX:Addr
 GX:Yn
 Fd:Addr
 EN:Yn
 E6:Addr
 EI:Yn
 Sm:Addr
 RT:Yn
 HW:Addr
 GW:Yn
 Su:Addr
 RY:Yn
 VD:Addr
 Vw:Yn
 JU:Addr
 JE:Yn
 PH:Addr
 Ph:Yn
 MJ:Addr
 Mr:Yn
 Ia:Addr
 Ho:Yn
 Ik:Addr
 HH:Yn
 Fm:Addr
 EX:Yn
 Ij:Addr
 HG:Yn
 Fg:Addr
 ES:Yn
 Cf:Addr
 BR:Yn
 JX:Addr
 JH:Yn
 Ih:Addr
 Hw:Yn
 JW:Addr
 JG:Yn
 Ig:Addr
 Hu:Yn
 Ie:Addr
 Ht:Yn
 MS:Addr
 MC:Yn
 Fl:Addr
 EW:Yn
 Fj:Addr
 EV:Yn
 Ci:Addr
 BU:Yn
 Ii:Addr
 HF:Yn
 Ic:Addr
 Hs:Yn
 A7:Addr
 AX:Yn
 JZ:Addr
 JJ:Yn
 MR:Addr
 MB:Yn
 Fi:Addr
 EU:Yn
 yn:Addr
 yg:Yn
 Cg:Addr
 BS:Yn
 A9:Addr
 AZ:Yn
 A8:Addr
 AY:Yn
 HZ:Addr
 GZ:Yn
 Cj:Addr
 BV:Yn
 Fh:Addr
 ET:Yn
 Ce:Addr
 BQ:Yn
 TL:Addr
 Ts:Yn
 a_NOUGHT:Addr
 a_ONE:Addr
 t_MOST_STATES:Tok
 t_MOST_PUTS:Tok
 t_MOST_LOOKS:Tok
 a_System:Addr
 a_SumError:Addr
 a_NotSteered:Addr
structure Txt (K:W.Frag) (mg:Str->Option Value) (Z:Ads):Prop where
 pR:Df K mg "_law_bag" vo ["_law_script"] Z.J0 Z.JK
 bx:Df K mg "_law_take" tL ["_law_bag_here","_law_many"] Z.Ib Z.Hq
 dR:Df K mg "_law_low" vm ["_law_top","_law_bottom"] Z.JY Z.JI
 jE:Df K mg "want_list" tz ["thing","at","most"] Z.HU Z.GU
 nF:Df K mg "is_whole" vf ["thing"] Z.JV Z.JF
 ft:Df K mg "common_divisor" mC ["one","other"] Z.ym Z.yf
 nX:Df K mg "is_number" tI ["thing"] Z.HY Z.GY
 uE:Df K mg "is_row" Ac ["thing","many"] Z.PD Z.Pg
 iu:Df K mg "copied_rows" qq ["things","wide"] Z.Cd Z.BP
 jh:Binds K Z.lK ["self","move","put","look"] []
 pV:Iq K "__init__" "System.__init__" fq Z.lN Z.lK
 gR:Df K mg "tops_over" tD ["row","bottom"] Z.HV Z.GV
 iJ:Df K mg "common_multiple" kK ["wholes"] Z.wX Z.wU
 dQ:Df K mg "common_bottom" nP ["row"] Z.yY Z.yT
 mW:Df K mg "first_with" rN ["lines","begin","place"] Z.Fe Z.EO
 sv:Df K mg "cleared" xH ["lines","at","place","before"] Z.MQ Z.Mz
 mX:Df K mg "brought_up" rO ["lines","at","to"] Z.Ff Z.ER
 ug:Df K mg "swept" DU ["rows","wide"] Z.So Z.RU
 jF:Df K mg "lowest" Ab ["top","bottom"] Z.PC Z.Pf
 mI:Df K mg "reduced" xD ["rows","wide"] Z.MM Z.Mt
 jz:Df K mg "row_dot" xC ["one","other"] Z.MK Z.Ms
 jA:Df K mg "grid_on" xG ["grid","row"] Z.MP Z.My
 jS:Df K mg "moved_rows" rL ["system","rows"] Z.Fc Z.EM
 kW:Df K mg "reach_grown" qe ["system","steps"] Z.BY Z.BL
 mU:Df K mg "reach_rows" rH ["system","steps"] Z.E7 Z.EJ
 lX:Binds K Z.i5 ["self","price"] []
 lY:Iq K "__init__" "NotSteered.__init__" dI Z.gF Z.i5
 nE:Df K mg "unit_row" vd ["many","at"] Z.JT Z.JD
 jG:Df K mg "leading_place" nO ["row"] Z.yX Z.yS
 oU:Df K mg "leading" xF ["rows"] Z.MO Z.Mx
 uh:Df K mg "minus" DW ["one","other"] Z.Sr Z.RW
 su:Df K mg "null_at" xE ["rows","wide","at"] Z.MN Z.Mu
 kZ:Df K mg "free_places" qj ["rows","wide"] Z.Cc Z.BO
 wo:Df K mg "nulls" DV ["rows","wide"] Z.Sq Z.RV
 d7:Df K mg "refuse_unsteered" j8 ["system"] Z.vG Z.vF
 iW:Df K mg "nought_row" rJ ["many"] Z.E8 Z.EK
 dY:Df K mg "grid_turned" qi ["grid","wide"] Z.Ca Z.BN
 mV:Df K mg "new_places" rK ["rows","wide"] Z.Fb Z.EL
 kY:Df K mg "leading_out" qh ["system","states"] Z.BZ Z.BM
 sS:VG K Z.a_System "moved" Z.o5
 uu:Binds K Z.oV ["self","state","puts"] []
 uy:Iq K "moved" "System.moved" ip Z.o5 Z.oV
 wu:Df K mg "chain" DX ["system"] Z.Ss Z.RX
 kU:Df K mg "row_minus" tH ["one","other"] Z.HX Z.GX
 h9:Df K mg "grid_times" rM ["one","other","wide"] Z.Fd Z.EN
 mT:Df K mg "taken_over" rG ["system","rows"] Z.E6 Z.EI
 wj:Df K mg "times" DS ["one","other"] Z.Sm Z.RT
 kT:Df K mg "row_times" tE ["by","row"] Z.HW Z.GW
 wB:Df K mg "amiss" DY ["system","row","wish"] Z.Su Z.RY
 zm:Df K mg "plus" IX ["one","other"] Z.VD Z.Vw
 pQ:Df K mg "row_plus" ve ["one","other"] Z.JU Z.JE
 uF:Df K mg "closed" Ad ["system","rows"] Z.PH Z.Ph
 mH:Df K mg "steered" xB ["system","wish"] Z.MJ Z.Mr
 jH:Df K mg "_law_told" tK ["_law_system","_law_wish_here"] Z.Ia Z.Ho
 oh:Df K mg "_law_less" tX ["_law_one","_law_other"] Z.Ik Z.HH
 jT:Df K mg "_law_minus" rT ["_law_one","_law_other"] Z.Fm Z.EX
 og:Df K mg "_law_long" tW ["_law_bag_here"] Z.Ij Z.HG
 mY:Df K mg "_law_sizes" nV ["_law_bag_here"] Z.Fg Z.ES
 lH:Df K mg "_law_number" qB ["_law_bag_here","_law_wide"] Z.Cf Z.BR
 iF:Df K mg "_law_row" vh ["_law_bag_here","_law_many","_law_wide"] Z.JX Z.JH
 nZ:Df K mg "_law_move" tU ["_law_bag_here","_law_n","_law_way","_law_first","_law_wide"] Z.Ih Z.Hw
 gU:Df K mg "_law_sum" vg ["_law_one","_law_other"] Z.JW Z.JG
 lE:Df K mg "_law_plus" tQ ["_law_one","_law_other"] Z.Ig Z.Hu
 iK:Df K mg "_law_prod" tP ["_law_one","_law_other"] Z.Ie Z.Ht
 kh:Df K mg "_law_by" xJ ["_law_by_here","_law_row_here"] Z.MS Z.MC
 m7:Df K mg "_law_mixed" rS ["_law_bag_here","_law_move_here","_law_put","_law_look"] Z.Fl Z.EW
 m6:Df K mg "_law_parts" rR ["_law_bag_here","_law_n","_law_ins","_law_outs","_law_wide"] Z.Fj Z.EV
 gE:Df K mg "_law_copied" qD ["_law_grid"] Z.Ci Z.BU
 oa:Df K mg "_law_made" tV ["_law_parts_here"] Z.Ii Z.HF
 nY:Df K mg "_law_quot" tO ["_law_one","_law_other"] Z.Ic Z.Hs
 jX:Df K mg "_law_reduced" oM ["_law_rows","_law_size"] Z.A7 Z.AX
 nG:Df K mg "_law_dot" vn ["_law_one","_law_other"] Z.JZ Z.JJ
 sE:Df K mg "_law_on" xI ["_law_grid","_law_row_here"] Z.MR Z.MB
 m5:Df K mg "_law_reach" rQ ["_law_parts_here"] Z.Fi Z.EU
 jf:Df K mg "_law_is_number" mD ["_law_thing"] Z.yn Z.yg
 lI:Df K mg "_law_is_row" qC ["_law_thing","_law_many"] Z.Cg Z.BS
 jY:Df K mg "_law_is_grid" oO ["_law_thing","_law_many","_law_wide"] Z.A9 Z.AZ
 iN:Df K mg "_law_product" oN ["_law_one","_law_other"] Z.A8 Z.AY
 lh:Df K mg "_law_wish" tJ ["_law_move_here"] Z.HZ Z.GZ
 lJ:Df K mg "_law_closed" qE ["_law_parts_here","_law_rows"] Z.Cj Z.BV
 mZ:Df K mg "_law_right" rP ["_law_system","_law_parts_here","_law_wish_here","_law_full"] Z.Fh Z.ET
 k6:Df K mg "_law_wished" qv ["_law_bag_here","_law_parts_here"] Z.Ce Z.BQ
 TR:Iq K "law" "law" NP Z.TL Z.Ts
 abs:mg "abs"=none
 len:mg "len"=none
 isinstance:mg "isinstance"=none
 list:mg "list"=none
 int:mg "int"=none
 bool:mg "bool"=none
 tuple:mg "tuple"=none
 all:mg "all"=none
 enumerate:mg "enumerate"=none
 range:mg "range"=none
 zip:mg "zip"=none
 sum:mg "sum"=none
 min:mg "min"=none
 reversed:mg "reversed"=none
 mg_NOUGHT:mg "NOUGHT"=some (.ref Z.a_NOUGHT)
 sq_NOUGHT:∀H,pA K H Z.a_NOUGHT [.int 0,.int 1]
 mg_ONE:mg "ONE"=some (.ref Z.a_ONE)
 sq_ONE:∀H,pA K H Z.a_ONE [.int 1,.int 1]
 mg_MOST_STATES:mg "MOST_STATES"=some (.int 8 Z.t_MOST_STATES)
 mg_MOST_PUTS:mg "MOST_PUTS"=some (.int 4 Z.t_MOST_PUTS)
 mg_MOST_LOOKS:mg "MOST_LOOKS"=some (.int 4 Z.t_MOST_LOOKS)
 mg_System:mg "System"=some (.ref Z.a_System)
 cl_System:M6 K Z.a_System
 na_move:lO K Z.a_System "move"
 na_states:lO K Z.a_System "states"
 na_put:lO K Z.a_System "put"
 na_ins:lO K Z.a_System "ins"
 na_look:lO K Z.a_System "look"
 na_outs:lO K Z.a_System "outs"
 mk_System:Mk K Z.a_System Z.lN
 mg_SumError:mg "SumError"=some (.ref Z.a_SumError)
 mg_NotSteered:mg "NotSteered"=some (.ref Z.a_NotSteered)
 xi_NotSteered:VS K Z.a_NotSteered Z.a_SumError
 in_NotSteered:YH K (.ref Z.a_NotSteered) "__init__"=some (some (.ref Z.gF))
 fn_NotSteered:W.typeIn K (.ref Z.gF)=some (.type "function")
 kp_NotSteered:W.keepIn K (.ref Z.a_NotSteered)=true
 nt_NotSteered:YH K (.ref Z.a_NotSteered) "price"=some none
 ex_SumError:W.excIn K Z.a_SumError xm "ValueError.__new__"=true
 xm_NotSteered_NotSteered:W.exmOne K (.ref Z.a_NotSteered) (.ref Z.a_NotSteered)=some true
 xc_NotSteered:ExC K Z.a_NotSteered
section
variable {K:W.Frag}
theorem F4:sC ["_law_script"] 1 vo:=by walk_at "d"
theorem Gv (T:Txt K mg Z) (ac:bv P):T.pR.o P w base 1 (NK K):=by
 refine T.pR.F.k F4 ?_;walk_at "i";obtain a|ns|rfl|hS|hlen|k:=h;refine #[_,(av (aX (fO (PY aj aj aj (cu ["_law_cell"] [] [] (cM (oP rC bQ rW (pL aj))) (λ_=>(fo 0)) (λ_=>cv) (λ_=>(bF A2 (by rfl) T.abs PyProof.Rows.boot_abs (dj bQ)))))))),?_];walk_at "s"
 try rw[iC]
 exists #[a,_,rfl,hS,λl hl=>?_];have hcl:(qU (ns.map V.int) none (some 63)).9<=63:=ag (yE _ _ _) (by simpa using hlen);refine #[l,rfl,#[_,br.of aD],?_];refine eP (K:=K) (a:=l) (xs:=qU (ns.map V.int) none (some 63)) (λi ys H'=>H'=upd H l (.lst (qU (ns.map V.int) none (some 63)))/\∃cs:List Int,ys=cs.map V.int/\∀x∈cs,0<=x) (ag hcl ()) #[rfl,[],rfl,λ_ z=>nomatch z] (λi ys H' _ #[e,_]=>by subst e;exact br.of aD) ?_ ?_
 ·rintro i x ys H' hx hi ⟨rfl,cs,rfl,hcs⟩
  obtain ⟨z,rfl⟩:∃z,x=V.int z:=by
   have hm:x∈ns.map V.int:=md (ck (ai hx));obtain z|_|e:=au.mp hm;exact #[z,e.symm]
  exists #[rfl,cs++[if z < 0 then -z else z],by simp,λx hx=>?_];rcases aB.mp hx with hx | hx
  ·exact hcs x hx
  ·have e:x=if z < 0 then -z else z:=by simpa using hx
   subst e
   split <;> lia
 ·rintro ys H' hy ⟨rfl,cs,rfl,hcs⟩ p hp;exists #[by show 4<=YB;decide,λb hb=>?_];have n1:b≠p:=λz=>by rw[z,aD] at hb;cases hb
  have hb1:(upd H l (.lst (qU (ns.map V.int) none (some 63)))) b=none:=by rw[aY n1] at hb;exact hb
  have s1:aE H (upd H l (.lst (qU (ns.map V.int) none (some 63)))):=aE.new hl;refine k b _ (s1.free hb1) #[p,0,1234567891,0,cs,aD,by rw[aY n1.symm];exact aD,(),(),(),hcs] ((s1.trans (aE.new hp)).trans (aE.new hb))
theorem fM:sC ["_law_bag_here","_law_many","_law_more","_law_cell","_law_value","_law_first","_law_second"] 2 tL:=by walk_at "d"
theorem bU (T:Txt K mg Z) (ac:bv P):T.bx.o P w base 1 Qm:=by
 refine T.bx.F.k fM ?_;walk_at "i";obtain p|n|rfl|⟨q,a,b,c,cs,hp,hq,ha,hc,hcl,hcs⟩|hn|hn2|k:=h;have nqp:q≠p:=MI hp hq
 refine #[_,(ku (dw (bh fI (aO bA bQ aj) aj (bo _)) (ak (fL 2 fM.nd aj)
  (ku (dw (bh oR (aO bA bQ aj) (bF bc (by rfl) T.len aW (dj (aO bA bQ aj))) (bo _)) (ak (fL 3 fM.nd (aO bA (aO bA bQ aj) (aO bA bQ aj)))
  (ak (QX bQ aj OW aj Vd set_list)
  (ak (dw (bh Ao jC aj (bo _)) (av (gM jC (gX bQ aj set_list))) cg)
  (av (fL 2 fM.nd (bw fj (bw qG jC aj) aj)))))) cg)
  (av (gM (bw qG (bw fj (bw cN (aO bA bQ aj) aj) fh) aj) (gX bQ aj set_list))))) cg)
  (ak (dw (bh An (aO bA bQ aj) aj (bo _)) (ak (fL 4 fM.nd (bw qG (aO bA bQ aj) cL))
  (ak (gM (bw (kO rfl fM rfl rfl rfl ac (wM hr)) (aO bA bQ aj) cL) (gX bQ aj set_list))
  (av (aX uM)))) cg)
  (ak (fL 5 fM.nd (bw qG (bw cN (aO bA bQ aj) aj) aj))
  (ak (fL 6 fM.nd (bw qG (bw cN xO aj) aj))
  (ak (dw (bh An cL aj (bo _)) (av (aX (bw qG (bw fj (bw cN rd aj) xO) cL))) cg)
  (av (aX (bw qG (bw (kO rfl fM rfl rfl rfl ac (wM hr)) rd aj) cL)))))))),?_]
 walk_at "s"
 try rw[iC]
 refine #[λσ' H'=>∃(x y:Option V) (a' b' c':Int),σ'=[some (.ref p),some (.int n),x,y,none,none,none]/\H' p=some (.lst [.int a',.int b',.int c',.ref q])/\0<=a'/\0<=c'/\c'<=cs.9/\dD p H H',?_,?_]
 ·exists iZ (λh0=>?_) (λh0=>?_)
  ·exists #[λσ' H'=>∃(m:Int) (y:Option V) (a' c':Int),σ'=[some (.ref p),some (.int n),some (.int m),y,none,none,none]/\H' p=some (.lst [.int a',.int b,.int c',.ref q])/\0<=a'/\0<=c'/\c'<=cs.9/\dD p H H',?_,?_]
   ·exists #[_,_,rfl,.inl (br.of hq),?_];exists iZ (λh1=>?_) (λh1=>?_)
    ·have h1':c < cs.9:=by simpa using of_decide_eq_true h1
     obtain ⟨z,hz⟩:∃z,cs[c.toNat]?=some z:=#[_,ae ()];have hz0:0<=z:=hcs z (ai hz);exists b7 (br.of hq) (v:=.int z) ?_ ?_
     ·have:=dC (xs:=cs.map V.int) (j:=c.toNat) (v:=.int z) (by rw[aw,hz];rfl);rwa [Int.toNat_of_nonneg hc] at this
     exists iZ (λh2=>?_) (λh2=>?_)
     ·exists #[_,_,z,c+1,rfl,aD,hz0,(),(),(dD.set hp).trans (dD.set aD)]
     ·exists #[_,_,a,c+1,rfl,aD,ha,(),(),dD.set hp]
    ·exists #[_,_,a,c,rfl,hp,ha,hc,hcl,dD.refl _]
   ·rintro σ' H' ⟨m,y,a',c',rfl,hp',ha',hc',hcl',u'⟩;exists #[_,_,a',_,c',rfl,aD,ha',hc',hcl',u'.trans (dD.set hp')]
  ·exists #[_,_,a,b,c,rfl,hp,ha,hc,hcl,dD.refl _]
 ·rintro σ' H' ⟨x,y,a',b',c',rfl,hp',ha',hc',hcl',u'⟩;have hq':H' q=some (.lst (cs.map V.int)):=u'.1 q _ hq nqp
  have sn:Sz 8999000 n:=by
   show n.natAbs < 2^8999000
   exact bD (show n.natAbs < 2^64 by lia) (ar () ())
  exists iZ (λh0=>?_) (λh0=>?_)
  ·exists fW (show (0:Int) < n from hn) ?_;exists fW (show sU _ _ from #[(),sn]) ?_;exists k _ _ (ox _ ()) (j4 _ hn) #[q,_,b',c',cs,aD,by rw[aY nqp];exact hq',?_,hc',hcl',hcs] (u'.trans (dD.set hp'));rw[cV _ ()];exact Int.ediv_nonneg ha' ()
  ·exists iZ (λh1=>?_) (λh1=>?_)
   ·exists fW (show (0:Int) < n from hn) ?_;exact k _ _ (ox _ ()) (j4 _ hn) #[q,a',b',c',cs,hp',hq',ha',hc',hcl',hcs] u'
   ·exists fW (show sU _ _ from #[(),by show (3:Nat) < 2^8999000;exact bD (show 3 < 2^2 by decide) (ar () ())]) ?_;exists fW (show (0:Int) < n from hn) ?_;exact k _ _ (ox _ ()) (j4 _ hn) #[q,a',b',c',cs,hp',hq',ha',hc',hcl',hcs] u'
theorem ks:sC ["_law_top","_law_bottom","_law_one","_law_other"] 2 vm:=by walk_at "d"
theorem fQ (T:Txt K mg Z) (ac:bv P):T.dR.o P w base 1 Um:=by
 refine T.dR.F.k ks ?_;walk_at "i";obtain t|b|rfl|hb|hs|k:=h
 refine #[_,(ak (fL 2 ks.nd (bF A2 (by rfl) T.abs PyProof.Rows.boot_abs (dj bQ)))
  (ak (fL 3 ks.nd cL)
  (ak (vY Yv (bh uS fh aj (bo _))
   (av (Oc (i:=2) (j:=3) rfl ks.nd rfl rfl () rfl rfl (cH (bw qG jC fh) fh) rfl)))
  (av (aX (c8 (cH (bw (kO rfl ks rfl rfl rfl ac (wM hr)) bQ jC) (bw (kO rfl ks rfl rfl rfl ac (wM hr)) cL jC)))))))),?_]
 walk_at "s"
 try rw[iC]
 walk_at "w"
 refine za (λσ' H'=>∃(u v:Int),σ'=[some (.int t),some (.int b),some (.int u),some (.int v)]/\H'=H/\0<=u/\0 < v/\Y8 u v=Y8 t b) (λσ' _=>match σ' with | [_,_,some (.int u),_]=>u.natAbs | _=>0) #[_,b,rfl,rfl,by split <;> lia,hb,by
  split
  ·rw[Int.neg_gcd]
  ·rfl] ?_
 rintro σ' H' ⟨u,v,rfl,rfl,hu,hv,hg⟩;exists iZ (λh=>?_) (λh=>?_)
 ·have hu0:u≠0:=λz=>by subst z;simp at h
  exists fW (show (0:Int) < u by lia) ?_;walk_at "w";have h1:=ox v hu0;have h2:=j4 v (show 0 < u by lia);exact #[#[v % u,u,rfl,rfl,h1,(),by rw[nC,OZ,nC];exact hg],by show (v % u).natAbs < u.natAbs;lia]
 ·have hu0:u=0:=by
   by_cases z:u=0
   ·exact z
   ·exfalso;apply h;simp [z]
  subst hu0
  have e:v=g t b:=by
   unfold g;rw[<- hg,Int.gcd_zero_left]
   lia
  have hgs:Sz 8999000 v:=hs.le (by
   rw[e];have h1:(g t b).natAbs=Y8 t b:=by unfold g;simp
   rw[h1];exact kG () (by have:=gW (a:=t) (b:=b);exact fU.mpr this |> λz=>by simpa using z))
  exists fW (show sU _ _ from #[(),hgs]) ?_;exists fW (show sU _ _ from #[(),hgs]) ?_;exists cw λr H' s' h'=>?_
  rw[cV _ (),cV _ (),e] at h';exact k r H' s' h'
theorem DI:sC ["thing","at","most"] 3 tz:=by walk_at "d"
theorem rX (T:Txt K mg Z) (ac:bv P):T.jE.o P w base 1 Kl:=by
 refine T.jE.F.k DI ?_;walk_at "i";obtain p|xs|a|m|rfl|gx|hm|k:=h
 refine #[_,(ak (dw (mE (kM (xT rfl T.isinstance YD T.list bQ))) (av Od) cg)
  (av (dw (bh An (bF bc (by rfl) T.len aW (dj bQ)) fh (bo _)) (av Od) cg))),?_]
 walk_at "s"
 try rw[iC]
 exists #[_,_,.lst gx,rfl,?_];exists #[_,_,rfl,.inl (br.of gx),?_];walk_at "w";rw[decide_eq_false (show ¬m < (xs.9:Int) by lia)];exists k
theorem FZ:sC ["thing"] 1 vf:=by walk_at "d"
theorem yB (T:Txt K mg Z) (ac:bv P):T.nF.o P w base 1 Lx:=by
 refine T.nF.F.k FZ ?_;walk_at "i";obtain i|rfl|k:=h;refine #[_,(av (aX (Eb (xT rfl T.isinstance YR T.int bQ) (D9 (UU (xT rfl T.isinstance PyProof.Rows.boot_bool T.bool bQ)))))),?_];walk_at "s"
 try rw[iC]
 exists #[_,_,.int i,rfl,?_];exists #[_,_,.int i,rfl,?_];exists k
theorem jb:sC ["one","other","rest"] 2 mC:=by walk_at "d"
theorem kR (T:Txt K mg Z) (ac:bv P):T.ft.o P w base 1 Wh:=by
 refine T.ft.F.k jb ?_;walk_at "i";obtain a|b|rfl|k:=h
 refine #[_,(ak (vY Yv (bh uS cL aj (bo _))
   (ak (fL 2 jb.nd (bw Q7 bQ cL))
  (ak (fL 0 jb.nd cL)
  (av (fL 1 jb.nd fh)))))
  (av (aX (bF A2 (by rfl) T.abs PyProof.Rows.boot_abs (dj bQ))))),?_]
 walk_at "s"
 try rw[iC]
 exists za (λσ' H'=>∃(u v:Int) (r:Option V),σ'=[some (.int u),some (.int v),r]/\H'=H/\Y8 u v=Y8 a b) (λσ' _=>match σ' with | [_,some (.int v),_]=>v.natAbs | _=>0) #[a,b,none,rfl,rfl,rfl] ?_;rintro σ' H' ⟨u,v,r,rfl,rfl,hg⟩;exists iZ (λh=>?_) (λh=>?_)
 ·have hv:v≠0:=λz=>by subst z;simp at h
  exists fW (show v≠0 from hv) ?_;exists #[#[v,u.fmod v,_,rfl,rfl,(OY u v).trans hg],RJ u v hv]
 ·have hv:v=0:=by
   by_cases z:v=0
   ·exact z
   ·exfalso;apply h;simp [z]
  subst hv;walk_at "w"
  have e:(if u < 0 then -u else u)=g a b:=by
   unfold g;rw[<- hg,Int.gcd_zero_right]
   split <;> lia
  rw[e];exact k
theorem DL:sC ["thing"] 1 tI:=by walk_at "d"
theorem Eg (T:Txt K mg Z) (ac:bv P):T.nX.o P w base 2 (LA K):=by
 refine T.nX.F.k DL ?_;walk_at "i";obtain x|n|rfl|⟨p,rfl,hp⟩|hn|k:=h
 refine #[_,(ak (dw (PW.pt (sP (mE (kM (zi rfl T.isinstance PyProof.Rows.boot_tuple T.tuple bQ))) (nQ (bh uS (bF bc (by rfl) T.len aW (dj bQ)) aj (bo _))))) (av (aX sQ)) cg)
  (ak (dw (PW.pt (sP (mE (kM (cT (yB T ac) hr T.nF (dj (aO bH bQ aj))))) (nQ (mE (kM (cT (yB T ac) hr T.nF (dj (aO bH bQ aj)))))))) (av (aX sQ)) cg)
  (av (aX (Eb (ig Ao (aO bH bQ aj) aj (bo _)) (D9 (ig fI (cT (kR T ac) hr T.ft (cH (aO bH bQ aj) (aO bH bQ aj))) aj (bo _)))))))),?_]
 walk_at "s"
 try rw[iC]
 obtain hb|hg|s1|s2:=hn;exists .inr #[p,_,_,rfl,hp,rfl,?_];exists #[_,_,rfl,.inr hp,?_];walk_at "w"
 try refine RD ?_
 exists #[n.1,rfl,?_];exists #[n.2,rfl,?_];walk_at "w";rw[decide_eq_true (show (1:Int)<=n.2 by lia)];exists #[n.1,n.2,rfl,?_];walk_at "w";have e:g n.1 n.2=1:=by unfold g;rw[hg];rfl
 rw[e,decide_eq_true rfl];exact k _ (aE.refl _)
theorem LG:sC ["thing","many"] 2 Ac:=by walk_at "d"
theorem LR (T:Txt K mg Z) (ac:bv P):T.uE.o P w base 3 (xv K):=by
 refine T.uE.F.k LG ?_;walk_at "i";obtain p|ns|rfl|hp|hl|hn|k:=h
 refine #[_,(ak (dw (PW.pt (sP (mE (kM (xT rfl T.isinstance YD T.list bQ))) (nQ (bh uS (bF bc (by rfl) T.len aW (dj bQ)) cL (bo _))))) (av (aX sQ)) cg)
  (av (aX (bF (A1 rfl) (by rfl) T.all PyProof.Rows.boot_all (dj (cu ["value"] [] [] (cM bQ) (λ_=>(fo 0)) (λ_=>cv) (λ_=>(cT (Eg T ac) hr T.nX (dj bQ))))))))),?_]
 walk_at "s"
 try rw[iC]
 obtain xs|gx|qx:=id hp;have lx:=qx.9;exists #[_,_,.lst gx,rfl,?_];exists #[_,_,rfl,.inl (br.of gx),?_];walk_at "w";rw[show ((xs.9:Nat):Int)=(ns.9:Nat) by rw[lx],decide_eq_true rfl];exists #[#[_,br.of gx],?_];refine eP (K:=K) (xs:=xs) (λi ys H'=>aE H H'/\ys=Mg i (.bl true)) ko #[aE.refl _,rfl] (λi ys H' _ #[s,_]=>br.of (s _ _ gx)) ?_ ?_
 ·rintro i x ys H' hx hlen ⟨s,rfl⟩;obtain n|en|z:=bO qx hx;exists #[x,n,rfl,s.num z,hn n (ai en),λH2 s2=>#[s.trans s2,by rw[Dp]]]
 ·rintro ys H' hy ⟨s,rfl⟩ l hl';exists #[l,Mg xs.9 true,rfl,br.of (by rw[aD];simp),?_];have e4:(Mg xs.9 true).all id=true:=by simp
  rw[e4];exact k _ (s.trans (aE.new hl'))
theorem oI:sC ["things","wide","place","thing"] 2 qq:=by walk_at "d"
theorem oT (T:Txt K mg Z) (ac:bv P):T.iu.o P w base 4 (Kq K):=by
 refine T.iu.F.k oI ?_;walk_at "i";obtain p|H0|rows|w|rfl|hp|hl|hw|hn|k:=h
 refine #[_,(ak (eL Yv rfl (D7 rfl T.enumerate (dj bQ)) (vq rfl (cp (fo 2 oI.nd) (cp (fo 3 oI.nd) gP)))
   (av (dw (mE (kM (cT (LR T ac) hr T.uE (cH jC cL)))) (av Od) cg)))
  (av (aX (cu ["row"] [] [] (cM bQ) (λ_=>(fo 0)) (λ_=>cv) (λ_=>(eN (iY K (by rfl)) (by rfl) T.list YD (dj bQ))))))),?_]
 walk_at "s"
 try rw[iC]
 obtain xs|gx|qx|_:=id hp;exists #[#[_,br.of gx],?_];refine GO (K:=K) (l:=p) (xs:=xs) (λi σ' H'=>aE H H'/\∃x y,σ'=[some (.ref p),some (.int w),x,y]) #[aE.refl _,none,none,rfl] (λi σ' H' _ #[s,_]=>br.of (s _ _ gx)) ?_ ?_
 ·rintro i x σ' H' t hx ⟨s,x1,y1,rfl⟩ ht;obtain qs|eq|q|rfl|_|Rq:=bO qx hx;have hm:=ai eq;have st:aE H' (upd H' t (.tup [.int i,.ref q])):=aE.new ht;have gt:(upd H' t (.tup [.int i,.ref q])) t=some (.tup [.int i,.ref q]):=aD;have s2:=s.trans st;generalize upd H' t (.tup [.int i,.ref q])=H2 at st gt s2 ⊢;have lq:(qs.map nm).9=w:=by rw[af];exact (hn qs hm).1
  exists #[q,_,by rw[lq],(Rq.same s2).rowK,by rw[lq];exact hw,λn hn'=>?_,λH3 s3=>?_]
  ·obtain y|hy|rfl:=au.mp hn';exact (hn qs hm).2 y hy
  exists #[s2.trans s3,_,_,rfl]
 ·rintro σ' H' ⟨s,x1,y1,rfl⟩;exists #[#[_,br.of (s _ _ gx)],?_];refine dS (K:=K) (F:=cC K H0) (cC K H) id (s _ _ gx) (ce (λ_ _ z=>z.same s) qx) hl (λa b=>a.same b) (λa b=>a.same b) ?_ ?_
  ·rintro i ns x H2 NY NN en s2 ⟨u,rfl,_,zs,gz,qz⟩ k1;exists #[u,zs,rfl,.inl (br.of gz),λl1 hl1=>?_];exact k1 _ _ (aE.new hl1) #[l1,rfl,s.none (s2.none hl1),zs,aD,ce (λ_ _ z=>z.same (aE.new hl1)) qz]
  ·rintro ys' H2 r hr s2 g pr nx;rw[PV] at pr nx;exact k r H2 (s.none hr) (s.trans s2) #[ys',g,pr,je nx]
theorem va:sC ["self","move","put","look"] 4 fq:=by walk_at "d"
theorem kd (T:Txt K mg Z) (ac:bv P):o7 P w K mg base Kc 5 Z.lN Z.lK ["self","move","put","look"] (Kn K Z.a_System):=by
 refine T.pV.k va ?_;walk_at "i";obtain x|dx|p|q|r|Hb|H0|H1|H2|mv|pt|lk|rfl|nx|ndx|nex|rfl|gp|gq|gr|D|om|op|ol|k:=h
 refine #[_,(ak (jd (cT (rX T ac) hr T.jE (Bj cL aj (mP (v:=.int 8) rfl T.mg_MOST_STATES #[_,rfl]))))
  (ak (xP bQ (cT (oT T ac) hr T.iu (cH cL (bF bc (by rfl) T.len aW (dj cL)))) rfl)
  (ak (xP bQ (bF bc (by rfl) T.len aW (dj (dB bQ rfl))) rfl)
  (ak (jd (cT (rX T ac) hr T.jE (Bj fh aj (mP (v:=.int 4) rfl T.mg_MOST_PUTS #[_,rfl]))))
  (ak (xP bQ (cT (oT T ac) hr T.iu (cH fh (dB bQ rfl))) rfl)
  (ak (xP bQ (bF bc (by rfl) T.len aW (dj (dB bQ rfl))) rfl)
  (ak (jd (cT (rX T ac) hr T.jE (Bj jC aj (mP (v:=.int 4) rfl T.mg_MOST_LOOKS #[_,rfl]))))
  (ak (xP bQ (cT (oT T ac) hr T.iu (cH jC (dB bQ rfl))) rfl)
  (av (xP bQ (bF bc (by rfl) T.len aW (dj (dB bQ rfl))) rfl)))))))))),?_]
 walk_at "s"
 try rw[iC]
 have s0:aE Hb (upd (upd Hb dx (.own x)) x (.ins Z.a_System dx [])):=λb o e=>by
  rw[aY (hZ e nx),aY (hZ e ndx)];exact e
 have hx:(upd (upd Hb dx (.own x)) x (.ins Z.a_System dx [])) x=some (.ins Z.a_System dx []):=aD;have back:∀{b},(upd (upd Hb dx (.own x)) x (.ins Z.a_System dx [])) b=none->Hb b=none:=λh=>s0.none h
 generalize upd (upd Hb dx (.own x)) x (.ins Z.a_System dx [])=Ha at s0 hx back ⊢;obtain xs|gx|qx|_:=id gp;obtain ys|gy|qy|_:=id gq;obtain zs|gz|qz|_:=id gr;have lx:=qx.9;have ly:=qy.9;have lz:=qz.9;have d1:=D.n8;have d2:=D.i4;have d3:=D.o4;exists #[p,xs,0,8,rfl,s0 _ _ gx,(),?_];exists #[_,_,rfl,.inl (br.of (s0 _ _ gx)),?_];exists #[p,H0,mv,mv.9,by rw[lx],gp.same s0,(),(),λws hw=>#[D.mw ws hw,om ws hw],λa H3 na s3 Ga=>?_];have hx3:=s3 _ _ hx;exists #[x,Z.a_System,dx,_,rfl,hx3,T.cl_System,T.na_move,(by show 0 < 1000;decide),?_];have e3:Fq x H3 (upd H3 x (.ins Z.a_System dx (cB "move" (.ref a) []))):=Fq.upd;have i3:uV H3 x:=#[_,_,_,hx3];have hx4:(upd H3 x (.ins Z.a_System dx (cB "move" (.ref a) []))) x=some (.ins Z.a_System dx (cB "move" (.ref a) [])):=aD;have Ga4:=Ga.exc e3 i3;have k4:aE Hb (upd H3 x (.ins Z.a_System dx (cB "move" (.ref a) []))):=(s0.trans s3).after nx;generalize upd H3 x (.ins Z.a_System dx (cB "move" (.ref a) []))=H4 at e3 hx4 Ga4 k4 ⊢;exists #[x,Z.a_System,dx,_,_,rfl,hx4,T.cl_System,T.na_move,(by rw[bB,if_pos rfl]),?_];obtain as|ga|qa|_:=id Ga4;have la:=qa.9;exists #[_,_,rfl,.inl (br.of ga),?_];exists #[x,Z.a_System,dx,_,rfl,hx4,T.cl_System,T.na_states,aZ fE (by show 1 < 1000;decide),?_];rw[show ((as.9:Nat):Int)=((mv.9:Nat):Int) by rw[la]];have e4:Fq x H4 (upd H4 x (.ins Z.a_System dx (cB "states" (.int mv.9) (cB "move" (.ref a) [])))):=Fq.upd;have i4:uV H4 x:=#[_,_,_,hx4];have hx5:(upd H4 x (.ins Z.a_System dx (cB "states" (.int mv.9) (cB "move" (.ref a) [])))) x=some (.ins Z.a_System dx (cB "states" (.int mv.9) (cB "move" (.ref a) []))):=aD;have Ga5:=Ga4.exc e4 i4;have k5:aE Hb (upd H4 x (.ins Z.a_System dx (cB "states" (.int mv.9) (cB "move" (.ref a) [])))):=k4.after nx;generalize upd H4 x (.ins Z.a_System dx (cB "states" (.int mv.9) (cB "move" (.ref a) [])))=H5 at e4 hx5 Ga5 k5 ⊢;clear e3 e4 i3 i4 hx4 Ga4 ga qa;exists #[q,ys,1,4,rfl,k5 _ _ gy,(),?_];exists #[x,Z.a_System,dx,_,_,rfl,hx5,T.cl_System,T.na_states,(by rw[bB,if_pos rfl]),?_];exists #[q,H1,pt,mv.9,rfl,gq.same k5,(),(),λws hw=>#[D.pw ws hw,op ws hw],λb H6 nb s6 Gb=>?_];have hx6:=s6 _ _ hx5;have i6:uV H6 x:=#[_,_,_,hx6];exists #[x,Z.a_System,dx,_,rfl,hx6,T.cl_System,T.na_put,aZ fE (aZ (eT fE) (by show 2 < 1000;decide)),?_];have e6:Fq x H6 (upd H6 x (.ins Z.a_System dx (cB "put" (.ref b) (cB "states" (.int mv.9) (cB "move" (.ref a) []))))):=Fq.upd;have hx7:(upd H6 x (.ins Z.a_System dx (cB "put" (.ref b) (cB "states" (.int mv.9) (cB "move" (.ref a) []))))) x=some (.ins Z.a_System dx (cB "put" (.ref b) (cB "states" (.int mv.9) (cB "move" (.ref a) [])))):=aD;have Ga7:=(Ga5.same s6).exc e6 i6;have Gb7:=(Gb.weak k5).exc e6 i6;have k7:aE Hb (upd H6 x (.ins Z.a_System dx (cB "put" (.ref b) (cB "states" (.int mv.9) (cB "move" (.ref a) []))))):=(k5.trans s6).after nx;generalize upd H6 x (.ins Z.a_System dx (cB "put" (.ref b) (cB "states" (.int mv.9) (cB "move" (.ref a) []))))=H7 at e6 hx7 Ga7 Gb7 k7 ⊢;obtain bs|gb|qb|_:=id Gb7;have lb:=qb.9;exists #[x,Z.a_System,dx,_,_,rfl,hx7,T.cl_System,T.na_put,(by rw[bB,if_pos rfl]),?_];exists #[_,_,rfl,.inl (br.of gb),?_];exists #[x,Z.a_System,dx,_,rfl,hx7,T.cl_System,T.na_ins,aZ fE (aZ (eT (ag fE (eT fE))) (by show 3 < 1000;decide)),?_];rw[show ((bs.9:Nat):Int)=((pt.9:Nat):Int) by rw[lb]];have i7:uV H7 x:=#[_,_,_,hx7];have e7:Fq x H7 (upd H7 x (.ins Z.a_System dx (cB "ins" (.int pt.9) (cB "put" (.ref b) (cB "states" (.int mv.9) (cB "move" (.ref a) [])))))):=Fq.upd;have hx8:(upd H7 x (.ins Z.a_System dx (cB "ins" (.int pt.9) (cB "put" (.ref b) (cB "states" (.int mv.9) (cB "move" (.ref a) [])))))) x=some (.ins Z.a_System dx (cB "ins" (.int pt.9) (cB "put" (.ref b) (cB "states" (.int mv.9) (cB "move" (.ref a) []))))):=aD;have Ga8:=Ga7.exc e7 i7;have Gb8:=Gb7.exc e7 i7;have k8:aE Hb (upd H7 x (.ins Z.a_System dx (cB "ins" (.int pt.9) (cB "put" (.ref b) (cB "states" (.int mv.9) (cB "move" (.ref a) [])))))):=k7.after nx;generalize upd H7 x (.ins Z.a_System dx (cB "ins" (.int pt.9) (cB "put" (.ref b) (cB "states" (.int mv.9) (cB "move" (.ref a) [])))))=H8 at e7 hx8 Ga8 Gb8 k8 ⊢;clear e6 e7 i6 i7 hx7 Ga7 Gb7 gb qb;exists #[r,zs,2,4,rfl,k8 _ _ gz,(),?_];exists #[x,Z.a_System,dx,_,_,rfl,hx8,T.cl_System,T.na_states,(by rw[bB,if_neg (by decide +kernel),bB,if_neg (by decide +kernel),bB,if_pos rfl]),?_];exists #[r,H2,lk,mv.9,rfl,gr.same k8,(),(),λws hw=>#[D.lw ws hw,ol ws hw],λc H9 nc s9 Gc=>?_];have hx9:=s9 _ _ hx8;have i9:uV H9 x:=#[_,_,_,hx9];exists #[x,Z.a_System,dx,_,rfl,hx9,T.cl_System,T.na_look,aZ fE (aZ (eT (ag fE (eT (ag fE (eT fE))))) (by show 4 < 1000;decide)),?_];have e9:Fq x H9 (upd H9 x (.ins Z.a_System dx (cB "look" (.ref c) (cB "ins" (.int pt.9) (cB "put" (.ref b) (cB "states" (.int mv.9) (cB "move" (.ref a) []))))))):=Fq.upd;have hxA:(upd H9 x (.ins Z.a_System dx (cB "look" (.ref c) (cB "ins" (.int pt.9) (cB "put" (.ref b) (cB "states" (.int mv.9) (cB "move" (.ref a) []))))))) x=some (.ins Z.a_System dx (cB "look" (.ref c) (cB "ins" (.int pt.9) (cB "put" (.ref b) (cB "states" (.int mv.9) (cB "move" (.ref a) [])))))):=aD;have GaA:=(Ga8.same s9).exc e9 i9;have GbA:=(Gb8.same s9).exc e9 i9;have GcA:=(Gc.weak k8).exc e9 i9;have kA:aE Hb (upd H9 x (.ins Z.a_System dx (cB "look" (.ref c) (cB "ins" (.int pt.9) (cB "put" (.ref b) (cB "states" (.int mv.9) (cB "move" (.ref a) []))))))):=(k8.trans s9).after nx;generalize upd H9 x (.ins Z.a_System dx (cB "look" (.ref c) (cB "ins" (.int pt.9) (cB "put" (.ref b) (cB "states" (.int mv.9) (cB "move" (.ref a) []))))))=HA at e9 hxA GaA GbA GcA kA ⊢;obtain cs|gc|qc|_:=id GcA;have lc:=qc.9;exists #[x,Z.a_System,dx,_,_,rfl,hxA,T.cl_System,T.na_look,(by rw[bB,if_pos rfl]),?_];exists #[_,_,rfl,.inl (br.of gc),?_];exists #[x,Z.a_System,dx,_,rfl,hxA,T.cl_System,T.na_outs,aZ fE (aZ (eT (ag fE (eT (ag fE (eT (ag fE (eT fE))))))) (by show 5 < 1000;decide)),?_];rw[show ((cs.9:Nat):Int)=((lk.9:Nat):Int) by rw[lc]];have iA:uV HA x:=#[_,_,_,hxA];exact k _ (kA.after nx) #[dx,a,b,c,aD,back na,k5.none nb,k8.none nc,(GaA.exc Fq.upd iA).weak s0,GbA.exc Fq.upd iA,GcA.exc Fq.upd iA]
theorem vU:sC ["row","bottom"] 2 tD:=by walk_at "d"
theorem kQ (T:Txt K mg Z) (ac:bv P):T.gR.o P w base 1 (FL K):=by
 refine T.gR.F.k vU ?_;walk_at "i";obtain p|ns|M|B|rfl|hp|hl|hz|hB|sB|q:=h;refine #[_,(av (aX (cu ["value"] ["bottom"] [1] (cM bQ) (λ_=>(fo 0)) (λ_=>cv) (λ_=>(bw cN (aO (uH K (by rfl)) bQ aj) (bw (kO rfl vU rfl rfl rfl ac (wM hr)) cL (aO (uH K (by rfl)) bQ aj))))))),?_];walk_at "s"
 try rw[iC]
 obtain xs|gx|qx:=id hp;have lx:=qx.9;exists #[#[_,br.of gx],?_];refine eP (K:=K) (xs:=xs) (λi ys H'=>H'=H/\ys=(dJ (ns.take i) B).map V.int) ko #[rfl,rfl] (λi ys H' _ #[e,_]=>by subst e;exact br.of gx) ?_ ?_
 ·rintro i x ys H' hx hlen ⟨rfl,rfl⟩;obtain n|en|r|rfl|hr1:=bO qx hx;have nz:=hz.2.2 n (ai en);have sn:Sz 4400000 n.2:=ED hz.1 nz.2.1 hz.2.1;exists fW (show sU _ _ from #[(),sn.mono ()]) ?_;rw[cV _ ()]
  have sq:Sz 4400000 (B / n.2):=sB.le (by
   rw[VQ ()];exact Nat.div_le_self ..)
  exists fW (show fJ _ _ from .inr #[_,_,nz.2.2,sq,()]) ?_;exact #[rfl,by rw[take_snoc en];simp [dJ]]
 ·rintro ys H' hy ⟨rfl,rfl⟩ l hl';exact q l _ hl' (aE.new hl') (by rw[aD,aF ()])
theorem gh:sC ["wholes","multiple","whole"] 1 kK:=by walk_at "d"
theorem vA (T:Txt K mg Z) (ac:bv P):T.iJ.o P w base 2 (NI K):=by
 refine T.iJ.F.k gh ?_;walk_at "i";obtain p|bs|M|rfl|hp|hM|sM|hb|q:=h
 refine #[_,(ak (fL 1 gh.nd aj)
  (ak (eL Yv rfl (cM bQ) (fo 2 gh.nd)
   (av (fL 1 gh.nd (bw cN cL (bw (kO rfl gh rfl rfl rfl ac (wM hr)) fh (cT (kR T ac) hr T.ft (cH cL fh)))))))
  (av (aX cL)))),?_]
 walk_at "s"
 try rw[iC]
 exists #[#[_,hp],?_];refine qT (K:=K) (a:=p) (xs:=bs.map V.int) (λi σ' H'=>H'=H/\∃x,σ'=[some (.ref p),some (.int (xY (bs.take i) 1)),x]) #[rfl,none,rfl] (λi σ' H' _ #[e,_]=>by subst e;exact hp) ?_ ?_
 ·rintro i x σ' H' hx ⟨rfl,y,rfl⟩;rw[aw] at hx
  obtain ⟨b,eb,rfl⟩:∃b,bs[i]?=some b/\x=.int b:=by
   cases e:bs[i]? with
   | none=>rw[e] at hx;cases hx
   | some b=>rw[e] at hx;cases hx;exact #[b,rfl,rfl]
  have b1:=hb b (ai eb);have sb:Sz 4400000 b:=ED hM b1.2 sM;have ht:∀c∈bs.take i,0 < c/\c∣M:=λc hc=>hb c (ck hc)
  have msz:Sz 4400000 (xY (bs.take i) 1):=ED hM (zo () (Int.one_dvd _) ht) sM;generalize hm:xY (bs.take i) 1=m at msz ⊢;have gp:0 < g m b:=AQ ();exists #[m,b,rfl,?_];exists fW (show sU _ _ from #[(),(Ya b1.1 sb).mono ()]) ?_;rw[cV _ ()];exists fW (show fJ _ _ from .inr #[_,_,msz,sb.hi (t:=m) (),()]) ?_;exists #[rfl,_,by rw[take_snoc eb,CU,hm];rfl]
 ·rintro σ' H' ⟨rfl,y,rfl⟩;walk_at "w";rw[aF (by simp)];exact q
theorem xy:sC ["row"] 1 nP:=by walk_at "d"
theorem ir (T:Txt K mg Z) (ac:bv P):T.dQ.o P w base 3 (NJ K):=by
 refine T.dQ.F.k xy ?_;walk_at "i";obtain p|ns|M|rfl|hp|hl|hz|q:=h;refine #[_,(av (aX (cT (vA T ac) hr T.iJ (dj (cu ["value"] [] [] (cM bQ) (λ_=>(fo 0)) (λ_=>cv) (λ_=>(aO (uH K (by rfl)) bQ aj))))))),?_];walk_at "s"
 try rw[iC]
 obtain xs|gx|qx:=id hp;have lx:=qx.9;exists #[#[_,br.of gx],?_];refine eP (K:=K) (xs:=xs) (λi ys H'=>H'=H/\ys=((ns.take i).map (·.2)).map V.int) ko #[rfl,rfl] (λi ys H' _ #[e,_]=>by subst e;exact br.of gx) ?_ ?_
 ·rintro i x ys H' hx hlen ⟨rfl,rfl⟩;obtain n|en|r|rfl|hr1:=bO qx hx;exists #[rfl,by rw[take_snoc en];simp]
 ·rintro ys H' hy ⟨rfl,rfl⟩ l hl';exists #[l,ns.map (·.2),M,rfl,br.of (by rw[aD,aF ()]),hz.1,hz.2.1,λb hb=>?_,?_]
  ·obtain n|hn|rfl:=au.mp hb;exact #[(hz.2.2 n hn).1,(hz.2.2 n hn).2.1]
  ·exact q _ (aE.new hl')
theorem uP:sC ["lines","begin","place","at"] 3 rN:=by walk_at "d"
theorem BC (T:Txt K mg Z) (ac:bv P):T.mW.o P w base 1 CK:=by
 refine T.mW.F.k uP ?_;walk_at "i";obtain l|p|ls|b|c|rfl|G|l1000|b1000|hc|k1|k2:=h
 refine #[_,(ak (eL Yv rfl (CN rfl T.range (cH cL (bF bc (by rfl) T.len aW (dj bQ)))) (fo 3 uP.nd)
   (av (dw (bh uS (aO bA (aO bA bQ jC) fh) aj (bo _)) (av (aX jC)) cg)))
  (av (aX Jd))),?_]
 walk_at "s"
 try rw[iC]
 obtain _|xs|gx|qx:=id G;have lx:=qx.9;exists #[_,_,rfl,.inl (br.of gx),?_];rw[<- lx];exists #[#[(),(),(),()],?_];refine yd (lo:=(b:Int)) (n:=((ls.9:Int) - (b:Int)).toNat) (λi σ' H'=>H'=H/\(∃y,σ'=[some (.ref p),some (.int b),some (.int c),y])/\∀s,b<=s->s < b+i->fB ls s c=0) #[rfl,#[_,rfl],λs h1 h2=>absurd h2 ()] ?_ ?_
 ·rintro i σ' H' hi ⟨rfl,⟨y,rfl⟩,hz⟩;rw[show ((b:Int)+(i:Int))=((b+i:Nat):Int) by lia];obtain zs|v|ez|ev|mz|q|rfl|_|gq:=gD qx (i:=b+i) ();exists b7 (br.of gx) (dC ev) ?_;exists b7 (br.of gq) (Fx (hc zs mz)) ?_;walk_at "w";have ef:=TY (c:=c) ez;by_cases e:zs.getD c 0=0
  ·rw[decide_eq_true e];exists #[rfl,#[_,rfl],λs h1 h2=>?_];by_cases e2:s=b+i
   ·rw[e2,ef,e];rfl
   ·exact hz s h1 ()
  ·rw[decide_eq_false e];exists k1 (b+i) () () (by rw[ef];exact XS.mpr e)
 ·rintro σ' H' ⟨rfl,⟨y,rfl⟩,hz⟩;exists k2 λt h1 h2=>hz t h1 ()
theorem oJ:sC ["lines","at","place","before","used","by","swept"] 4 xH:=by walk_at "d"
theorem Ji (T:Txt K mg Z) (ac:bv P):T.sv.o P w base 1 CM:=by
 refine T.sv.F.k oJ ?_;walk_at "i";obtain l|p|ls|kk|c|n|b|rfl|hl|G|l1000|hk|hw|n1000|hc|b0|sb|hs|k:=h
 refine #[_,(ak (fL 4 oJ.nd (aO bA bQ cL))
  (ak (fL 5 oJ.nd (aO bA uM fh))
  (ak (jc 6 ["line"] ["used","by","place","before"] [4,5,2,3] oJ.nd rfl rfl (cM bQ) (λ_=>(fo 0)) (λ_=>cv) (λ_=>(cu ["mine","yours"] ["by","line","place","before"] [2,0,3,4] (Of K rfl T.zip (cH bQ cL)) (λ_=>(kN K 2 (cp (fo 0) (cp (fo 1) gP)))) (λ_=>cv) (λ_=>(bw (kO rfl oJ rfl rfl rfl ac (wM hr)) (bw jy (bw cN fh bQ) (bw cN (aO (nH K (by rfl)) jC uM) cL)) xO)))))
  (ak (gM uM (gX rd cL set_list))
  (av (aX rd)))))),?_]
 walk_at "s"
 try rw[iC]
 obtain pl|xs|gx|qx:=id G;have lx:=qx.9;obtain zk|vk|ek|evk|mk|qk|rfl|qkl|gk:=gD qx hk;have wk:=hw zk mk;have ek':ls.getD kk []=zk:=by rw[aa,ek];rfl
 exists b7 (br.of gx) (dC evk) ?_;exists b7 (br.of gk) (Fx ()) ?_;exists #[#[_,br.of gx],?_];refine eP (K:=K) (xs:=xs) (λi ys H'=>aE H H'/\Yt (Lh l H') ((ls.take i).map λzs=>W0 (λx y=>(zk.getD c 0*x - zs.getD c 0*y).fdiv b) zs zk) ys) ko #[aE.refl _,.nil] (λi ys H' _ #[s,_]=>br.of (s _ _ gx)) ?_ ?_
 ·rintro i v ys0 H' hx hlen ⟨s',pr⟩;obtain zs|ec|q|rfl|ql|gq:=bO qx hx;have mz:=ai ec;have wz:=hw zs mz;have gq':=s' _ _ gq;have gk':=s' _ _ gk;exists #[#[_,br.of gq'],#[_,br.of gk'],?_];refine oW (K:=K) (xs:=zs.map V.int) (ws:=zk.map V.int) (λj ys H2=>aE H' H2/\ys=((W0 (λx y=>(zk.getD c 0*x - zs.getD c 0*y).fdiv b) zs zk).take j).map V.int) (dH (dk (by rw[af];lia))) (by rw[af,af];lia) #[aE.refl _,rfl] (λj ys H2 _ #[s2,_]=>#[br.of (s2 _ _ gq'),br.of (s2 _ _ gk')]) ?_ ?_
  ·rintro j v1 v2 ys H2 r h1 h2 hy ⟨s2,rfl⟩ hr
   obtain ⟨x,ex,rfl⟩:∃x,zs[j]?=some x/\V.int x=v1:=by
    rw[aw] at h1;cases e:zs[j]? with
    | none=>rw[e] at h1;cases h1
    | some x=>rw[e] at h1;exact #[x,rfl,bP h1]
   obtain ⟨y,ey,rfl⟩:∃y,zk[j]?=some y/\V.int y=v2:=by
    rw[aw] at h2;cases e:zk[j]? with
    | none=>rw[e] at h2;cases h2
    | some x=>rw[e] at h2;exact #[x,rfl,bP h2]
   have sr:aE H2 (upd H2 r (.tup [.int x,.int y])):=aE.new hr;have gr:(upd H2 r (.tup [.int x,.int y])) r=some (.tup [.int x,.int y]):=aD;generalize upd H2 r (.tup [.int x,.int y])=H3 at sr gr ⊢;have gq3:=sr _ _ (s2 _ _ gq');have sx:=hs zs mz x (ai ex);have sy:=hs zk mk y (ai ey);have s1:=hs zk mk _ (getD_in (e:=0) (show c < zk.9 by lia));have s3:=hs zs mz _ (getD_in (e:=0) (show c < zs.9 by lia));exists fW (show fJ _ _ from .inr #[_,_,s1,sx,()]) ?_;exists b7 (br.of gq3) (Fx ()) ?_;exists fW (show fJ _ _ from .inr #[_,_,s3,sy,()]) ?_;exists fW (show sU _ _ from #[b0,sb]) ?_;have ez:(W0 (λx y=>(zk.getD c 0*x - zs.getD c 0*y).fdiv b) zs zk)[j]?=some ((zk.getD c 0*x - zs.getD c 0*y).fdiv b):=by rw[bV,ex,ey]
   exact #[s2.trans sr,by rw[take_snoc ez];simp]
  ·rintro ys H2 hy ⟨s2,rfl⟩ r hr;have sn:aE H2 (upd H2 r (.lst (((W0 (λx y=>(zk.getD c 0*x - zs.getD c 0*y).fdiv b) zs zk).take (zs.map V.int).9).map V.int))):=aE.new hr;refine #[(s'.trans s2).trans sn,?_];rw[take_snoc ec,cR];refine bT (ce (λ_ _ z=>(Lh.same z s2).same sn) pr) (.cons #[r,rfl,ne_old (λz=>hl (s'.none (s2.none z))) hr,?_] .nil);rw[aD,aF (by rw[aT,af];lia)]
 ·rintro ys H1 hy ⟨s1,pr⟩ r hr;have sn:aE H1 (upd H1 r (.lst ys)):=aE.new hr;have gn:(upd H1 r (.lst ys)) r=some (.lst ys):=aD;have ly:=pr.9;rw[af,bf] at ly;generalize upd H1 r (.lst ys)=H2 at sn gn ⊢;exists fg gn (fu ()) rfl ?_;have s2:aE H1 (upd H2 r (.lst (ys.set kk (.ref qk)))):=sn.after hr;exists k r _ (s1.none hr) (s1.trans s2) #[ne_old (λz=>hl (s1.none z)) hr,_,aD,?_];unfold HL;rw[ek'];rw[aF ()] at pr;exact gY (ce (λ_ _ z=>Lh.same z s2) pr) kk #[qk,rfl,qkl,(s1.trans s2) _ _ gk]
theorem uQ:sC ["lines","at","to","swapped"] 3 rO:=by walk_at "d"
theorem BD (T:Txt K mg Z) (ac:bv P):T.mX.o P w base 1 yx:=by
 refine T.mX.F.k uQ ?_;walk_at "i";obtain l|p|ls|t|kk|rfl|hl|G|l1000|ht|hk|k:=h
 refine #[_,(ak (fL 3 uQ.nd (eN oj (by rfl) T.list YD (dj bQ)))
  (ak (gM (aO bA bQ cL) (gX jC fh set_list))
  (ak (gM (aO bA bQ fh) (gX jC cL set_list))
  (av (aX jC))))),?_]
 walk_at "s"
 try rw[iC]
 obtain pl|xs|gx|qx:=id G;have lx:=qx.9;obtain zt|vt|et|evt|_|Ft:=gD qx ht;obtain zk|vk|ek|evk|_|Fk:=gD qx hk;exists #[p,xs,rfl,.inl (br.of gx),λc hc=>?_];have sc:aE H (upd H c (.lst xs)):=aE.new hc;have gc:(upd H c (.lst xs)) c=some (.lst xs):=aD;generalize upd H c (.lst xs)=Hc at sc gc ⊢;exists b7 (br.of (sc _ _ gx)) (dC evt) ?_;exists fg gc (fu ()) rfl ?_;have s1:aE H (upd Hc c (.lst (xs.set kk vt))):=sc.after hc;have g1:(upd Hc c (.lst (xs.set kk vt))) c=some (.lst (xs.set kk vt)):=aD;generalize upd Hc c (.lst (xs.set kk vt))=H1 at s1 g1 ⊢;exists b7 (br.of (s1 _ _ gx)) (dC evk) ?_;exists fg g1 (fu (by rw[cS];lia)) rfl ?_;have s2:aE H (upd H1 c (.lst ((xs.set kk vt).set t vk))):=s1.after hc;exists k c _ hc s2 #[ne_old hl hc,_,aD,?_];have et':ls.getD t []=zt:=by rw[aa,et];rfl
 have ek':ls.getD kk []=zk:=by rw[aa,ek];rfl
 unfold rA;rw[et',ek'];exact gY (gY (ce (λ_ _ z=>Lh.same z s2) qx) kk (Lh.same Ft s2)) t (Lh.same Fk s2)
theorem kI:sC ["rows","wide","lines","leads","before","place","many","at"] 2 DU:=by walk_at "d"
theorem Gr (T:Txt K mg Z) (ac:bv P):T.ug.o P w base 4 (Cw K):=by
 refine T.ug.F.k kI ?_;walk_at "i";obtain p|n|w|H0|rows|rfl|G|r100|n100|hw|F|k:=h
 refine #[_,(ak (jc 2 ["row"] [] [] kI.nd rfl rfl (cM bQ) (λ_=>(fo 0)) (λ_=>cv) (λ_=>(cT (kQ T ac) hr T.gR (cH bQ (cT (ir T ac) hr T.dQ (dj bQ))))))
  (ak (fL 3 kI.nd (fO jx))
  (ak (fL 4 kI.nd aj)
  (ak (eL Yv rfl (cm rfl T.range (dj cL)) (fo 5 kI.nd)
   (ak (fL 6 kI.nd (bF bc (by rfl) T.len aW (dj jC)))
  (ak (fL 7 kI.nd (cT (BC T ac) hr T.mW (Bj fh rd xO)))
  (av (dw (bh Q5 Bw Jd (bo _)) (ak (fL 2 kI.nd (cT (Ji T ac) hr T.sv (PY (cT (BD T ac) hr T.mX (Bj fh Bw rd)) rd xO uM)))
  (ak (fL 4 kI.nd (aO bA (aO bA fh rd) xO))
  (av (jd (uR cW cJ cI iV jC (dj xO)))))) cg)))))
  (av (aX (c8 (cH (oP rC fh rW (pL (bF bc (by rfl) T.len aW (dj jC)))) jC)))))))),?_]
 walk_at "s"
 try rw[iC]
 obtain xs|gx|qx|_:=id G;obtain W|hW|W2|ent:=F.ent;obtain _|_|_|_|_|_|_|_|r15|r89:=id F;exists #[#[_,br.of gx],?_];refine dS (K:=K) (as:=rows) (F:=cC K H0) (λ(H:Hp) (zs:List Int) (v:V)=>∃q,v=V.ref q/\H q=some (.lst (zs.map V.int))) jt gx qx () (λa b=>a.same b) (λ#[q,a,b] s=>#[q,a,s _ _ b]) ?_ ?_
 ·rintro i qs v H' NY NN ec s' ⟨u,rfl,_,R⟩ k1;have mx:=ai ec;obtain M|hM:=F.rowM mx;obtain b1|sb:=hM.bot;have lq:(qs.map nm).9<=1000:=by rw[af,hw qs mx];lia
  exists #[u,_,M,rfl,R.rowK,lq,hM,λH2 s2=>?_];exists #[u,_,M,_,rfl,(R.same s2).rowK,lq,hM,b1,sb,λr H3 n3 s3 g3=>k1 _ _ (s2.trans s3) #[r,rfl,g3]]
 rintro ys H1 lp0 hlp s1 g1 pr1 nx1;exists dU λqp H2 s2 nq gq=>?_
 have G2:ux qp H2 lp0 (rows.map jt):=#[(λz=>by rw[z,nq] at g1;cases g1),ys,s2 _ _ g1,ce (λ_ _ #[q,a,b]=>#[q,a,(λz=>by rw[z,nq] at b;cases b),s2 _ _ b]) pr1];have hq0:H qp=none:=s1.none nq;have s02:=s1.trans s2;have hm:(rows.map jt).9=rows.9:=af ..;clear g1 pr1 nx1;exists #[(),(),?_];refine dZ (n:=n) (λP σ' H'=>aE H H'/\∃lp ls ps d y1 y2 y3,σ'=[some (.ref p),some (.int n),some (.ref lp),some (.ref qp),some (.int d),y1,y2,y3]/\H' qp=some (.lst (eI ps))/\ux qp H' lp ls/\Dk (rows.map jt) n P ls ps d) #[s02,lp0,rows.map jt,[],1,_,_,_,rfl,gq,G2,Dk.start λzs hz=>by obtain x|hx|rfl:=au.mp hz;rw[td];exact hw x hx] ?_ ?_
 ·rintro P σ' H' hP ⟨s',lp,ls,ps,d,y1,y2,y3,rfl,gq',G',I⟩;have hl:=I.len;have kP:=I.el.kP;have km:=I.el.km;have lps:(eI ps).9=ps.9:=af ..;have hqp:H' qp≠none:=by rw[gq'];exact λz=>nomatch z
  obtain z1|z2:=I.sz (r:=min rows.9 n) hW ent () (by rw[hm];exact ah _) r15;have big:(16*W)^min rows.9 n < 2^8999000:=aZ (xS W2) (dm () ());exists #[_,_,rfl,.inl (br.of gq'),?_];rw[lps];exists #[qp,lp,ls,ps.9,P,rfl,G',(),(),λzs hz=>by rw[I.wide zs hz];exact hP,λt h1 h2 h3=>?_,λhz=>?_]
  ·exists #[rfl,_,rfl,?_];rw[show decide (V.int (t:Int)=V.non)=false from decide_eq_false (λz=>nomatch z)];exists #[qp,lp,ls,t,ps.9,rfl,hqp,G',(),h2,(),λl1 Ha na sa Ga=>?_];exists #[qp,l1,_,ps.9,P,n,d,rfl,λz=>hqp (sa.none z),Ga,by rw[xp];lia,by rw[xp];lia,Kk I.wide () h2,(),hP,I.d0,aZ z1 big,λzs hz z hz'=>?_,λl2 Hb nb sb Gb=>?_]
   ·unfold rA at hz;have key:∀ys,ys∈ls->∀z∈ys,Sz 8999000 z:=λys hy z hz=>aZ (z2 ys hy z hz) big
    rcases cZ hz with h | h
    ·rcases cZ h with h | h
     ·exact key zs h z hz'
     ·rw[h] at hz';exact key _ (getD_in h2) z hz'
    ·rw[h] at hz';exact key _ (getD_in ()) z hz'
   have sab:=sa.trans sb;have I2:=I.step hW ent h1 h2 h3;have hk2:ps.9 < (HL (rA ls ps.9 t) ps.9 P d).9:=by rw[Pn,xp];lia
   obtain n2|xs2|gx2|qx2:=id Gb;obtain zk|vk|ek|evk|mk|qk|rfl|_|gk:=gD qx2 hk2;have wk:=I2.wide zk mk;exists b7 (br.of gx2) (dC evk) ?_;exists b7 (br.of gk) (Fx ()) ?_;have gqb:=sab _ _ gq';exists #[.inl #[rfl,_,br.of gqb],?_];exists iT gqb (dk ()) ?_;refine #[(s'.trans sab).after hq0,l2,_,ps++[P],_,_,_,_,rfl,?_,Gb.upd,?_]
   ·rw[aD];unfold eI;rw[cR];rfl
   ·have e:(HL (rA ls ps.9 t) ps.9 P d).getD ps.9 []=zk:=by rw[aa,ek];rfl
    rw[e] at I2;exact I2
  ·exists #[rfl,_,rfl,?_];rw[show decide (V.non=V.non)=true from decide_eq_true rfl];exists #[s',lp,ls,ps,d,_,_,_,rfl,gq',G',I.skip hz]
 rintro σ' H' ⟨s',lp,ls,ps,d,y1,y2,y3,rfl,gq',G',I⟩;obtain R|hR:=I.done hw F;have lps:(eI ps).9=ps.9:=af ..;obtain nl|xs'|gx'|qx':=id G';exists #[_,_,rfl,.inl (br.of gq'),?_];rw[lps];exists xN (br.of gx') λsl H3 s3 n3 g3=>?_
 rw[HJ] at g3;exists cw λt H4 s4 g4=>?_
 have s34:=s3.trans s4;exact k t sl qp R ps d _ H4 g4 (s34 _ _ gq') #[(λz=>by rw[z,gq'] at n3;cases n3),_,s4 _ _ g3,ce (λ_ _ z=>Lh.same z s34) (pO qx' ps.9)] (s'.trans s34) hR
theorem qP:sC ["top","bottom","divisor"] 2 Ab:=by walk_at "d"
theorem oz (T:Txt K mg Z) (ac:bv P):T.jF.o P w base 2 Lz:=by
 refine T.jF.F.k qP ?_;walk_at "i";obtain t|b|rfl|hb|hs|k:=h
 refine #[_,(ak (fL 2 qP.nd (cT (kR T ac) hr T.ft (cH bQ cL)))
  (ak (dw (bh oR cL aj (bo _)) (av (fL 2 qP.nd (qS my fh))) cg)
  (av (aX (c8 (cH (bw (kO rfl qP rfl rfl rfl ac (wM hr)) bQ fh) (bw (kO rfl qP rfl rfl rfl ac (wM hr)) cL fh))))))),?_]
 walk_at "s"
 try rw[iC]
 exists #[t,b,rfl,?_];have hg:=AQ (t:=t) hb
 have hgs:Sz 8999000 (g t b):=hs.le (by
  have h1:(g t b).natAbs=Y8 t b:=by unfold g;simp
  rw[h1];exact kG () (by have:=gW (a:=t) (b:=b);exact fU.mpr this |> λz=>by simpa using z))
 have hgn:g (-t) (-b)=g t b:=by unfold g;rw[Int.gcd_neg,Int.neg_gcd]
 exists iZ (λh=>?_) (λh=>?_)
 ·have hb0:b < 0:=of_decide_eq_true h;exists fW (show sU _ _ from #[(),hgs.neg]) ?_;exists fW (show sU _ _ from #[(),hgs.neg]) ?_;exists cw λr H' s' h'=>?_
  have e1:t.fdiv (-g t b)=lo (-t) (-b):=by
   unfold Nm.lo;rw[hgn,<- cV _ (),<- Int.neg_fdiv_neg (-t),Int.neg_neg]
  have e2:b.fdiv (-g t b)=hi (-t) (-b):=by
   unfold Nm.hi;rw[hgn,<- cV _ (),<- Int.neg_fdiv_neg (-b),Int.neg_neg]
  exact k r H' s' (by rw[if_pos hb0,if_pos hb0,<- e1,<- e2];exact h')
 ·have hb0:¬b < 0:=λz=>h (decide_eq_true z)
  exists fW (show sU _ _ from #[(),hgs]) ?_;exists fW (show sU _ _ from #[(),hgs]) ?_;exists cw λr H' s' h'=>?_
  rw[cV _ (),cV _ ()] at h';exact k r H' s' (by rw[if_neg hb0,if_neg hb0];exact h')
theorem z6:sC ["rows","wide","found"] 2 xD:=by walk_at "d"
theorem vz (T:Txt K mg Z) (ac:bv P):T.mI.o P w base 5 (yv K):=by
 refine T.mI.F.k z6 ?_;walk_at "i";obtain p|n|w|H0|rows|rfl|G|r100|n100|hw|F|k:=h
 refine #[_,(ak (fL 2 z6.nd (cT (Gr T ac) hr T.ug (cH bQ cL)))
  (av (aX (cu ["line","lead"] [] [] (pN rfl T.zip (cH (aO bH fh aj) (aO bH fh aj))) (λ_=>(kN K 2 (cp (fo 0) (cp (fo 1) gP)))) (λ_=>cv) (λ_=>(cu ["top"] ["line","lead"] [0,1] (Ah K bQ) (λ_=>(fo 0)) (λ_=>cv) (λ_=>(cT (oz T ac) hr T.jF (cH bQ (aO (nH K (by rfl)) cL fh)))))))))),?_]
 walk_at "s"
 try rw[iC]
 obtain _|_|_|_|_|_|_|_|r15|r89:=id F;exists #[p,n,w,H0,rows,rfl,G,r100,n100,hw,F,λt lp qp R ps d ls H1 gt gq G1 s1 S=>?_];obtain lR|wR|RR:=id S.rr;have hl:=S.len;obtain _|xs|gx|qx:=id G1;have lx:=qx.9;have lps:(eI ps).9=ps.9:=af ..;have d0:(d:Rat)≠0:=λz=>S.d0 (pS z)
 have dsz:Sz 8999000 d:=aZ S.dsz (dm () ())
 have km:ps.9<=n:=by
  rcases aR n ps.9 with z | z
  ·have inc:∀j,j < ps.9->j<=ps.getD j 0:=by
    intro j
    induction j with
    | zero=>intro _;exact a8 _
    | succ j ih =>
     intro hj;have:=ih ();have:=RR.inc j (j+1) () hj
     lia
   have h1:=inc (ps.9 - 1) ();have h2:=RR.low (ps.9 - 1) ()
   lia
  ·exact z
 exists #[#[_,br.of gx],#[_,br.of gq],?_];refine oW (K:=K) (xs:=xs) (ws:=eI ps) (λi ys H'=>aE H1 H'/\Yt (cC K H1 H') (R.take i) ys) ko () #[aE.refl _,.nil] (λi ys H' _ #[s,_]=>#[br.of (s _ _ gx),br.of (s _ _ gq)]) ?_ ?_
 ·rintro i v1 v2 ys H' r h1 h2 hy ⟨s,pr⟩ hr;obtain zs|ez|q|rfl|_|gq1:=bO qx h1;have hi:i < ls.9:=(aI.mp ez).1;have mz:=ai ez;have wz:=S.wide zs mz
  obtain ⟨j,ej,rfl⟩:∃j:Nat,ps[i]?=some j/\V.int (j:Int)=v2:=by
   unfold eI at h2;rw[aw] at h2;cases e:ps[i]? with
   | none=>rw[e] at h2;cases h2
   | some x=>rw[e] at h2;exact #[x,rfl,bP h2]
  have ej':ps.getD i 0=j:=by rw[aa,ej];rfl
  have jn:j < n:=by have:=RR.low i ();rw[ej'] at this;exact this
  have sr:aE H' (upd H' r (.tup [.ref q,.int j])):=aE.new hr;have gr:(upd H' r (.tup [.ref q,.int j])) r=some (.tup [.ref q,.int j]):=aD;generalize upd H' r (.tup [.ref q,.int j])=H2 at sr gr ⊢;have s2:=s.trans sr;have iR:i < R.9:=()
  have eR:=ae iR;have wRi:=wR _ (az iR)
  have ed:zs.getD j 0=d:=by
   have h:=S.val i j;rw[TY ez] at h;have u:=RR.unit i () i ();rw[if_pos rfl,ej'] at u;rw[u,ji] at h;exact dO.mp h
  have val:∀c,((zs.getD c 0:Int):Rat)=(d:Rat)*(R[i]).getD c 0:=λc=>by
   have h:=S.val i c;rw[TY ez] at h;rw[h];unfold aS;rw[aa (l:=R),eR];rfl
  exists #[#[_,br.of (s2 _ _ gq1)],?_];refine eP (K:=K) (xs:=zs.map V.int) (λc ys' H3=>aE H2 H3/\Yt (bY K H3) ((R[i]).take c) ys') (dH (dk (by rw[af];lia))) #[aE.refl _,.nil] (λc ys' H3 _ #[s3,_]=>br.of ((s2.trans s3) _ _ gq1)) ?_ ?_
  ·rintro c x ys' H3 hx hlen ⟨s3,pr3⟩
   obtain ⟨z,ec,rfl⟩:∃z,zs[c]?=some z/\V.int z=x:=by
    rw[aw] at hx;cases e:zs[c]? with
    | none=>rw[e] at hx;cases hx
    | some x=>rw[e] at hx;exact #[x,rfl,bP hx]
   have hc:c < zs.9:=(aI.mp ec).1;have vc:=val c;have e1:zs.getD c 0=z:=by rw[aa,ec];rfl
   rw[e1] at vc;exists b7 (br.of ((s2.trans s3) _ _ gq1)) (Fx ()) ?_;rw[ed];exists #[z,d,rfl,S.d0,dsz,λr4 H4 s4 g4=>?_];have ec':(R[i])[c]?=some ((R[i]).getD c 0):=by rw[aa,ae (show c < (R[i]).9 by lia)];rfl
   refine #[s3.trans s4,?_];rw[take_snoc ec'];refine bT (ce (λ_ _ z=>bY.same z s4) pr3) (.cons (bY.mk g4 ?_) .nil);rcases Int.lt_or_lt_of_ne S.d0 with hd | hd
   ·rw[if_pos hd,if_pos hd];refine oi () ?_;rw[cO,cO,vc];grind
   ·rw[if_neg (),if_neg ()];refine oi hd ?_;rw[vc];grind
  ·rintro ys' H3 hy' ⟨s3,pr3⟩ l4 hl4;have sn:aE H3 (upd H3 l4 (.lst ys')):=aE.new hl4;refine #[(s2.trans s3).trans sn,?_];rw[take_snoc eR];rw[aF (by rw[af];lia)] at pr3;exact bT (ce (λ_ _ z=>cC.same z ((sr.trans s3).trans sn)) pr) (.cons #[l4,rfl,(s2.trans s3).none hl4,ys',aD,ce (λ_ _ z=>bY.same z sn) pr3] .nil)
 ·rintro ys H' hy ⟨s,pr⟩ r hr;have sn:aE H' (upd H' r (.lst ys)):=aE.new hr;rw[aF ()] at pr;refine k r R ps d.natAbs _ (s1.none (s.none hr)) ((s1.trans s).trans sn) #[ys,aD,ce (λ_ _ z=>(cC.weak z s1).same sn) pr,je (H0:=H1) (rows:=R) #[H',hr,pr]] S.rr S.km ?_ S.dsz S.tp;have:=S.d0
  lia
theorem jw:sC ["one","other","one_bottom","other_bottom","pairs"] 2 xC:=by walk_at "d"
theorem Ap (T:Txt K mg Z) (ac:bv P):T.jz.o P w base 4 (DG K):=by
 refine T.jz.F.k jw ?_;walk_at "i";obtain p|q|xs|ys|rfl|hp|hq|hl|hz|⟨k1,j1,k2,j2,h1,h2,hkj⟩|kk:=h
 refine #[_,(ak (fL 2 jw.nd (cT (ir T ac) hr T.dQ (dj bQ)))
  (ak (fL 3 jw.nd (cT (ir T ac) hr T.dQ (dj cL)))
  (ak (fL 4 jw.nd (Aj rfl T.list rfl T.zip (cH (cT (kQ T ac) hr T.gR (cH bQ fh)) (cT (kQ T ac) hr T.gR (cH cL jC)))))
  (av (aX (cT (oz T ac) hr T.jF (cH (bF (HR rfl) (by rfl) T.sum PyProof.Rows.boot_sum (dj (cu ["mine","yours"] [] [] (cM uM) (λ_=>(kN K 2 (cp (fo 0) (cp (fo 1) gP)))) (λ_=>cv) (λ_=>(bw cN bQ cL))))) (bw cN fh jC)))))))),?_]
 walk_at "s"
 try rw[iC]
 obtain M|h1:=h1.rowM ();obtain N|h2:=h2.rowM ();replace hp:=hp.rowK;replace hq:=hq.rowK;replace hl:(ys.map nm).9=(xs.map nm).9:=by simpa using hl
 replace hz:(xs.map nm).9<=1000:=by simpa using hz
 obtain b1|s1:=h1.bot;obtain b2|s2:=h2.bot;have k2:∀r H',aE H H'->H' r=some (.tup [.int (lo (JB (xs.map nm) (ys.map nm)) (fD (xs.map nm)*fD (ys.map nm))),.int (hi (JB (xs.map nm) (ys.map nm)) (fD (xs.map nm)*fD (ys.map nm)))])->Q (.ref r) H':=λr H' s g=>kk r H' s (bY.mk g (K3 b1 b2))
 clear kk;generalize xs.map nm=ns at hp hq hl hz h1 h2 b1 b2 s1 s2 k2;generalize ys.map nm=ms at hp hq hl hz h1 h2 b1 b2 s1 s2 k2;have hb:0 < fD ns*fD ms:=eY b1 b2;exists #[p,ns,M,rfl,hp,hz,h1,λH1 t1=>?_];exists #[q,ms,N,rfl,hq.same t1,(),h2,λH2 t2=>?_];have u2:=t1.trans t2;exists #[p,ns,M,_,rfl,hp.same u2,hz,h1,b1,s1,λr1 H3 n3 t3 g3=>?_];exists #[q,ms,N,_,rfl,(hq.same u2).same t3,(),h2,b2,s2,λr2 H4 n4 t4 g4=>?_];exists #[r1,r2,_,_,rfl,br.of (t4 _ _ g3),br.of g4,by simp [dJ,hl],λL ts H5 t5 n5 g5 pr=>?_];have lt:=pr.9;have ll:(dJ ns (fD ns)).9=ns.9:=by simp [dJ]
 have lm:(dJ ms (fD ms)).9=ns.9:=by simp [dJ,hl]
 rw[sX,af,af,ll,lm] at lt;exists #[#[_,br.of g5],?_];refine eP (K:=K) (xs:=ts) (λi ys H'=>H'=H5/\ys=((W0 (λx y=>x*y) (dJ ns (fD ns)) (dJ ms (fD ms))).take i).map V.int) ko #[rfl,rfl] (λi ys H' _ #[e,_]=>by subst e;exact br.of g5) ?_ ?_
 ·rintro i x ys H' hx hlen ⟨rfl,rfl⟩;obtain pq|epq|T|rfl|gT:=bO pr hx;obtain t|u|et|eu|rfl:=Kd epq;exists fW (show fJ _ _ from .inr #[_,_,vN h1 b1 s1 (ai et),vN h2 b2 s2 (ai eu),()]) ?_;have ez:(W0 (λx y=>x*y) (dJ ns (fD ns)) (dJ ms (fD ms)))[i]?=some (t*u):=by rw[bV,et,eu]
  exact #[rfl,by rw[take_snoc ez];simp]
 ·rintro ys H' hy ⟨rfl,rfl⟩ l hl';exists #[l,W0 (λx y=>x*y) (dJ ns (fD ns)) (dJ ms (fD ms)),rfl,br.of (by rw[aD,aF (by rw[aT];lia)]),?_];exists fW (show fJ _ _ from .inr #[_,_,s1,s2,()]) ?_;exists #[_,_,rfl,(),(s1.mul s2).mono (),λr H6 t6 g6=>?_];rw[if_neg (),if_neg ()] at g6;exact k2 r H6 ((((u2.trans t3).trans t4).trans t5).trans ((aE.new hl').trans t6)) g6
theorem z8:sC ["grid","row"] 2 xG:=by walk_at "d"
theorem Aw (T:Txt K mg Z) (ac:bv P):T.jA.o P w base 5 (DF K):=by
 refine T.jA.F.k z8 ?_;walk_at "i";obtain p|q|H0|rows|ys|rfl|hp|hq|hz|hl|hr1|kk:=h;refine #[_,(av (aX (cu ["line"] ["row"] [1] (cM bQ) (λ_=>(fo 0)) (λ_=>cv) (λ_=>(cT (Ap T ac) hr T.jz (cH bQ cL)))))),?_];walk_at "s"
 try rw[iC]
 obtain xs|gx|qx|_:=id hp;exists #[#[_,br.of gx],?_];refine dS (K:=K) (F:=cC K H0) (bY K) (λxs=>fX xs ys) gx qx hz (λa b=>a.same b) (λa b=>a.same b) ?_ ?_
 ·rintro i ns x H' NY NN en s ⟨u,rfl,_,hu⟩ k;obtain e1|e2:=hr1 ns (ai en);exists #[u,q,ns,ys,rfl,hu,hq.same s,e1.symm,(),e2,λr H2 s2 h2'=>k _ _ s2 h2']
 ·rintro ys' H' r hr s g pr nx;exact kk r H' hr s #[ys',g,pr]
theorem Bt:sC ["system","rows"] 2 rL:=by walk_at "d"
theorem uT (T:Txt K mg Z) (ac:bv P):T.jS.o P w base 6 (CD K Z.a_System):=by
 refine T.jS.F.k Bt ?_;walk_at "i";obtain x|p|H0|H1|mv|pt|lk|R|rfl|S|D|G|l100|wR|hf|k:=h;refine #[_,(av (aX (cu ["row"] ["system"] [0] (cM cL) (λ_=>(fo 0)) (λ_=>cv) (λ_=>(cT (Aw T ac) hr T.jA (cH (Q3 K cL rfl) bQ)))))),?_];walk_at "s"
 try rw[iC]
 obtain dx|a'|b'|c'|gx|_|_|_|Ga|Gb|Gc:=id S;have d8:=D.n8;obtain xs|gxs|qx|_:=id G;exists #[#[_,br.of gxs],?_];refine dS (K:=K) (F:=cC K H1) (cC K H) (oS mv) gxs qx () (λa b=>a.same b) (λa b=>a.same b) ?_ ?_
 ·rintro i ns v H' NY NN en s ⟨u,rfl,_,hu⟩ k1;have mn:=ai en;exists #[x,Z.a_System,dx,_,_,rfl,s _ _ gx,T.cl_System,T.na_move,tj,?_];exists #[a',u,H0,mv,ns,rfl,Ga.same s,hu,(),by rw[wR ns mn];lia,λxs hx=>#[by rw[D.mw xs hx,wR ns mn],hf xs hx ns mn],λr H2 nr s2 R2=>k1 _ _ s2 #[r,rfl,s.none nr,R2]]
 ·rintro ys H' r hr s g pr nx;exact k r H' hr s #[ys,g,pr,je nx]
theorem oF:sC ["system","steps","lists","rows"] 2 qe:=by walk_at "d"
theorem Ar (T:Txt K mg Z) (ac:bv P):T.kW.o P w base 7 (CJ K Z.a_System):=by
 refine T.kW.F.k oF ?_;walk_at "i";obtain x|a|c|st|H0|mv|pt|lk|rfl|s1000|S|D|F|k:=h
 refine #[_,(ak (fL 2 oF.nd (fO (dj (fO jx))))
  (ak (vY Yv (bh WA (bF bc (by rfl) T.len aW (dj fh)) cL (bo _))
   (ak (fL 3 oF.nd (cT (vz T ac) hr T.mI (cH (bw qH (dB bQ rfl) (cT (uT T ac) hr T.jS (cH bQ (aO bA fh (qS my aj))))) (dB bQ rfl))))
  (ak (dw (bh fI (bF bc (by rfl) T.len aW (dj jC)) (bF bc (by rfl) T.len aW (dj (aO bA fh (qS my aj)))) (bo _)) (av (aX fh)) cg)
  (av (jd (uR cW cJ cI iV fh (dj jC)))))))
  (av (aX fh)))),?_]
 walk_at "s"
 try rw[iC]
 obtain dx|a'|b'|c'|gx|_|_|_|Ga|Gb|Gc:=id S;have d8:=D.n8;have i4:=D.i4;have lP:=jB (mv:=mv) (pt:=pt) rfl D.pw;exists dU λq0 H1 s1 nq0 g1=>?_
 exists dU λl H2 s2 nl g2=>?_
 have s02:=s1.trans s2;have nl0:H l=none:=s1.none nl;obtain ⟨Hz,eHz⟩:∃Hz,Hz=upd H l (.lst []):=#[_,rfl];have zl:Hz l≠none:=by rw[eHz,aD];exact λz=>nomatch z
 have zn:∀q,Hz q=none->H q=none/\q≠l:=λq h=>by
  have ne:q≠l:=λz=>zl (by rw[<- z];exact h)
  rw[eHz,aY ne] at h;exact #[h,ne]
 have nz:∀q,H q=none->q≠l->Hz q=none:=λq h ne=>by rw[eHz,aY ne];exact h
 clear eHz;have q0l:q0≠l:=λz=>by rw[z,nl] at g1;cases g1
 have G0:bg K Hz H2 q0 []:=#[[],s2 _ _ g1,.nil,λz=>nomatch z];exists za (λσ' H'=>aE H H'/\∃Rs R us y,σ'=[some (.ref x),some (.int st),some (.ref l),y]/\H' l=some (.lst us)/\Yt (λR v=>∃q,v=V.ref q/\Hz q=none/\bg K Hz H' q R) (Rs++[R]) us/\Bg mv pt (Rs++[R])/\Rs.9<=st) (λ_ H'=>match H' l with | some (.lst us)=>st+1 - us.9 | _=>0) #[s02,[],[],_,_,rfl,g2,.cons #[q0,rfl,nz q0 nq0 q0l,G0] .nil,#[by simp,λt R e=>?_,λt R R' e e'=>?_],a8 _] ?_
 ·have ht:=(aI.mp e).1;have:t=0:=by simpa using ht
  subst this;cases e;exact #[[],IY]
 ·have ht:=(aI.mp e').1;simp at ht
 rintro σ' Ha ⟨sa,Rs,R,us,y,rfl,gu,pa,Gw,hst⟩;have lu:=pa.9;rw[ao,aQ] at lu;have eR:(Rs++[R])[Rs.9]?=some R:=by rw[bE (ah _),jo];rfl
 obtain ps|RR:=Gw.rr _ _ eR;have tn:Rs.9<=mv.9:=by have:=Gw.len _ _ eR;have:=RR.le;have:=RR.1;lia
 have fin:∀(Hx:Hp) (sx:aE Ha Hx) (hh:∀s,(Rs.9=st/\s=st\/Rs.9 < st/\Rs.9<=s)->∃ps,bX (iX mv pt s) mv.9 R ps),Q (.ref l) Hx:=λHx sx hh=>by
  refine k l (Rs++[R]) Hx nl0 (sa.trans sx) #[us,sx _ _ gu,ce (λ_ _ #[q,e1,e2,e3]=>#[q,e1,(zn q e2).1,(zn q e2).2,bg.weakN (bg.same e3 sx) λq h=>(zn q h).1]) pa] Gw (by rw[ao,aQ];lia) λR2 e2 s hs=>?_
  rw[List.getLast?_concat] at e2;cases e2;rw[ao,aQ,IF] at hs;exact hh s hs
 exists #[_,_,rfl,.inl (br.of gu),?_];exists iZ (λh0=>?_) (λh0=>?_)
 ·have h0:=of_decide_eq_true h0;refine SY ?_
  obtain ⟨zs,gS⟩:∃zs q,us=zs++[V.ref q]/\Hz q=none/\bg K Hz Ha q R:=by
   obtain ⟨v,ev,q,rfl,e2,e3⟩:∃v,us[Rs.9]?=some v/\∃q,v=V.ref q/\Hz q=none/\bg K Hz Ha q R:=by
    have ev:=ae (show Rs.9 < us.9 by lia);obtain R2|e2|w:=bO pa ev;rw[eR] at e2;cases e2;exact #[_,ev,w]
   refine #[us.take Rs.9,q,?_,e2,e3];rw[<- take_snoc ev,aF ()]
  obtain q|rfl|zq|Gq:=gS;have gxa:=sa _ _ gx;exists #[x,Z.a_System,dx,_,_,rfl,gxa,T.cl_System,T.na_put,uB,?_];exists b7 (br.of gu) (wV _ _) ?_;have wR:=RR.2.1;have lR:=RR.1;have pn:=RR.le;exists #[x,q,H0,Hz,mv,pt,lk,R,rfl,S.same sa,D,Gq,(),wR,F.fit d8 D.mw D.pw tn RR,λmr Hb nmr sb Gm=>?_];obtain pv|gpv|qpv|_:=Gb.same (sa.trans sb);obtain mvs|gmv|qmv|_:=id Gm;have lpv:=qpv.9;have lmv:=qmv.9;rw[af] at lmv;exists qF gpv gmv ko λcr Hc sc nc gc=>?_
  have sab:=sa.trans (sb.trans sc);have Gc':bg K (λ_=>none) Hc cr (pt++R.map (oS mv)):=CY (H:=Hb) (bT (ce (λ_ _ #[q,e1,e2,e3]=>#[q,e1,rfl,e3]) qpv) (ce (λ_ _ #[q,e1,e2,e3]=>#[q,e1,rfl,e3]) qmv)) sc nc gc;exists #[x,Z.a_System,dx,_,_,rfl,sab _ _ gx,T.cl_System,T.na_states,fA,?_];exists #[cr,mv.9,_,_,_,rfl,Gc',by rw[ao,af];lia,(),λxs hx=>?_,F.step d8 D.mw D.pw tn RR,λrr R' ps' M' Hd nrr sd G' RR' pm' _ _ _=>?_]
  ·rcases aB.mp hx with hx | hx
   ·exact D.pw xs hx
   ·obtain y|_|rfl:=au.mp hx;exact uf
  have sbd:=sb.trans (sc.trans sd);have sad:=sa.trans sbd;have K1:=wD rfl D.mw D.pw RR RR';have gud:=sbd _ _ gu;obtain rv|grv|qrv|_:=id G';have lrv:=qrv.9;have lR':=RR'.1;have pn':=RR'.le;exists #[_,_,rfl,.inl (br.of grv),?_];exists b7 (br.of gud) (wV _ _) ?_;obtain ov|gov|qov|_:=Gq.same sbd;have lov:=qov.9;exists #[_,_,rfl,.inl (br.of gov),?_];exists iZ (λh1=>?_) (λh1=>?_)
  ·have h1:=of_decide_eq_true h1;exists fin Hd sbd λs hs=>#[ps,?_]
   obtain ⟨s',rfl⟩:∃s',s=Rs.9+s':=#[s - Rs.9,()];exact CV rfl D.mw D.pw RR RR' () s'
  ·have h1:¬((rv.9:Int)=ov.9):=λz=>h1 (decide_eq_true z)
   have gr:=GJ rfl D.mw D.pw RR K1;have rl:rr≠l:=λz=>by rw[z,(sb.trans sc) _ _ gu] at nrr;cases nrr
   have zc:∀q,Hc q=none->Hz q=none:=λq h=>nz q (sab.none h) (λz=>by rw[z,(sb.trans sc) _ _ gu] at h;cases h)
   exists #[.inl #[rfl,_,br.of gud],?_];exists iT gud (dk ()) ?_;refine #[#[sad.after nl0,Rs++[R],R',_,_,rfl,aD,bT (ce (λ_ _ #[q,e1,e2,e3]=>#[q,e1,e2,bg.updL (bg.same e3 sbd) gud zl (zn q e2).2]) pa) (.cons #[rr,rfl,zc rr nrr,bg.updL (G'.weakN zc) gud zl rl] .nil),Gw.snoc K1 (),by rw[ao,aQ];lia],?_];simp only[gu,aD,ao,aQ] at lu h0 ⊢
   lia
 ·have h0:¬((us.9:Int)<=st):=λz=>h0 (decide_eq_true z)
  walk_at "w"
  exact fin Ha (aE.refl _) λs hs=>#[ps,by
   have:s=Rs.9:=()
   rw[this];exact RR]
theorem Bq:sC ["system","steps"] 2 rH:=by walk_at "d"
theorem By (T:Txt K mg Z) (ac:bv P):T.mU.o P w base 8 (Cy K Z.a_System):=by
 refine T.mU.F.k Bq ?_;walk_at "i";obtain x|a|c|st|H0|mv|pt|lk|rfl|s1000|S|D|F|k:=h;refine #[_,(av (aX (aO bA (cT (Ar T ac) hr T.kW (cH bQ cL)) (qS my aj)))),?_];walk_at "s"
 try rw[iC]
 exists #[x,a,c,st,H0,mv,pt,lk,rfl,s1000,S,D,F,λr Rs H1 nr s1 #[us,gu,pa] Gw hl hh=>?_];have lu:=pa.9;obtain ⟨Rs',R,rfl⟩:∃Rs' R,Rs=Rs'++[R]:=#[Rs.dropLast,Rs.getLast Gw.ne,(List.dropLast_concat_getLast Gw.ne).symm];rw[ao,aQ] at lu hl;have eR:(Rs'++[R])[Rs'.9]?=some R:=by rw[bE (ah _),jo];rfl
 obtain ⟨zs,q,rfl,zq,ql,Gq⟩:∃zs q,us=zs++[V.ref q]/\H q=none/\q≠r/\bg K H H1 q R:=by
  have ev:=ae (show Rs'.9 < us.9 by lia);obtain R2|e2|q|e3|e4|e5|e6:=bO pa ev;rw[eR] at e2;cases e2;rw[e3] at ev;refine #[us.take Rs'.9,q,?_,e4,e5,e6];rw[<- take_snoc ev,aF ()]
 obtain ps|RR:=hh R (by rw[List.getLast?_concat]) st (by rw[ao,aQ,IF];lia);exists b7 (br.of gu) (wV _ _) ?_;exact k q R ps H1 zq s1 Gq RR
theorem rF:sC ["self","price"] 2 dI:=by walk_at "d"
theorem si (T:Txt K mg Z) (ac:bv P):o7 P w K mg base Kc 1 Z.gF Z.i5 ["self","price"] (NH K Z.a_NotSteered Z.a_SumError "price"):=by
 refine T.lY.k rF ?_;walk_at "i";obtain e|y|rfl|he|k:=h;refine #[_,(av (QW bQ cL rfl)),?_];walk_at "s"
 try rw[iC]
 walk_at "w";unfold SV;exists #[e,_,_,rfl,he,T.xi_NotSteered,T.nt_NotSteered,λdx hd ne=>?_];exists k dx hd ne
theorem FW:sC ["many","at"] 2 vd:=by walk_at "d"
theorem yz (T:Txt K mg Z) (ac:bv P):T.nE.o P w base 1 (FJ K):=by
 refine T.nE.F.k FW ?_;walk_at "i";obtain m|a'|rfl|hm|k:=h;refine #[_,(av (aX (cu ["place"] ["at"] [1] (cm rfl T.range (dj bQ)) (λ_=>(fo 0)) (λ_=>cv) (λ_=>(Gj (bh fI bQ cL (bo _)) (mP (v:=.ref Z.a_ONE) rfl T.mg_ONE rfl) (mP (v:=.ref Z.a_NOUGHT) rfl T.mg_NOUGHT rfl)))))),?_];walk_at "s"
 try rw[iC]
 exists #[(),(),?_];refine iw (n:=m) (bY K) (λi=>if ((i:Nat):Int)=a' then 1 else 0) hm (λa b=>a.same b) ?_ ?_
 ·rintro i H' NY NN hi s k1;exists iZ (λh0=>?_) (λh0=>?_)
  ·exists k1 _ _ (aE.refl _) (by rw[if_pos (of_decide_eq_true h0)];exact #[_,rfl,T.sq_ONE _])
  ·exists k1 _ _ (aE.refl _) (by rw[if_neg (λz=>h0 (decide_eq_true z))];exact #[_,rfl,T.sq_NOUGHT _])
 ·rintro ys H' l hl s g pr nx;exact k l _ hl s #[ys,g,pr]
theorem xx:sC ["row"] 1 nO:=by walk_at "d"
theorem xW (T:Txt K mg Z) (ac:bv P):T.jG.o P w base 1 (FP K):=by
 refine T.jG.F.k xx ?_;walk_at "i";obtain p|xs|j|rfl|R|x1000|hj|hne|hz|k:=h;refine #[_,(av (aX (bF (C9 rfl) (by rfl) T.min Za (dj (cu ["place","value"] [] [] (D7 rfl T.enumerate (dj bQ)) (λ_=>(kN K 2 (cp (fo 0) (cp (fo 1) gP)))) (λ_=>Jc (bh (Q6 K (by rfl) (BK hr)) cL (mP (v:=.ref Z.a_NOUGHT) rfl T.mg_NOUGHT rfl) (bo _))) (λ_=>bQ)))))),?_];walk_at "s"
 try rw[iC]
 obtain zs|gz|qz:=id R;have lz:=qz.9;exists #[#[_,br.of gz],?_];refine MF (K:=K) (xs:=zs) (λi ys H'=>aE H H'/\ys=eI (MX xs i)) ko #[aE.refl _,rfl] (λi ys H' _ #[s,_]=>br.of (s _ _ gz)) ?_ ?_
 ·rintro i v ys H' r hx hlen ⟨s',rfl⟩ hr;obtain y|ey|ny:=bO qz hx;have ey':xs.getD i 0=y:=by rw[aa,ey];rfl
  have sr:aE H' (upd H' r (.tup [.int i,v])):=aE.new hr;have gr:(upd H' r (.tup [.int i,v])) r=some (.tup [.int i,v]):=aD;generalize upd H' r (.tup [.int i,v])=H2 at sr gr ⊢;exists #[_,_,KH,y,0,(),(ny.same s').same sr,#[_,rfl,T.sq_NOUGHT _],?_];by_cases e:y=0
  ·rw[decide_eq_true e];exists #[s'.trans sr,?_];rw[Kx,ey',if_neg (by simpa using e)]
  ·rw[decide_eq_false e];exists #[s'.trans sr,?_];rw[Kx,ey',if_pos e];unfold eI;rw[cR];rfl
 ·rintro ys H1 hy ⟨s1,rfl⟩ l hl;have sn:aE H1 (upd H1 l (.lst (eI (MX xs zs.9)))):=aE.new hl;have gn:(upd H1 l (.lst (eI (MX xs zs.9)))) l=some (.lst (eI (MX xs zs.9))):=aD;generalize upd H1 l (.lst (eI (MX xs zs.9)))=H2 at sn gn ⊢
  have mj:j∈MX xs zs.9:=by
   unfold MX;exact ja.mpr #[dh.mpr (),by simpa using hne]
  exists #[l,KJ (MX xs zs.9),rfl,br.of (by rw[<- L4];exact gn),?_,λM hM hle=>?_]
  ·unfold KJ;rw[af];exact zD mj
  ·obtain c|hc|rfl:=au.mp hM;have h1:=hle j (au.mpr #[j,mj,rfl]);have h2:=(ja.mp hc).2
   have e:c=j:=by
    rcases pX c j with z | z | z
    ·exact absurd (hz c z) (of_decide_eq_true h2)
    ·exact z
    ·lia
   rw[e];exact k _ (s1.trans sn)
theorem IU:sC ["rows"] 1 xF:=by walk_at "d"
theorem Au (T:Txt K mg Z) (ac:bv P):T.oU.o P w base 2 (FQ K):=by
 refine T.oU.F.k IU ?_;walk_at "i";obtain p|n|H0|R|ps|rfl|G|r100|n100|⟨rows,RR⟩|k:=h;refine #[_,(av (aX (cu ["row"] [] [] (cM bQ) (λ_=>(fo 0)) (λ_=>cv) (λ_=>(cT (xW T ac) hr T.jG (dj bQ)))))),?_];walk_at "s"
 try rw[iC]
 obtain lR|wR|rr:=id RR;obtain xs|gx|qx|_:=id G;have lx:=qx.9;exists #[#[_,br.of gx],?_];refine eP (K:=K) (xs:=xs) (λi ys H'=>aE H H'/\ys=eI (ps.take i)) ko #[aE.refl _,rfl] (λi ys H' _ #[s,_]=>br.of (s _ _ gx)) ?_ ?_
 ·rintro i v ys H' hx hlen ⟨s',rfl⟩;obtain row|er|q|rfl|_|Rr:=bO qx hx;have wr:=wR row (ai er);have hi:i < ps.9:=by have:=(aI.mp er).1;lia
  have ef:∀c,aS R i c=row.getD c 0:=λc=>by unfold aS;rw[aa (l:=R),er];rfl
  have ep:ps[i]?=some (ps.getD i 0):=by rw[aa,ae hi];rfl
  have lowp:=rr.low i hi;have u:=rr.unit i hi i hi;rw[if_pos rfl,ef] at u;exists #[q,row,ps.getD i 0,rfl,Rr.same s',(),(),by rw[u];decide,λc hc=>by rw[<- ef];exact rr.lead i hi c hc,λH2 s2=>?_];refine #[s'.trans s2,?_];unfold eI;rw[take_snoc ep,cR];rfl
 ·rintro ys H1 hy ⟨s1,rfl⟩ r hr;refine k r _ (s1.none hr) (s1.trans (aE.new hr)) ?_;rw[aD,aF ()]
theorem NO:sC ["one","other"] 2 DW:=by walk_at "d"
theorem Gu (T:Txt K mg Z) (ac:bv P):T.uh.o P w base 3 (oE K (λx y=>x - y)):=by
 refine T.uh.F.ok NO (λvs H Q E h=>?_) (λcdv A outer s H vs Q E hr h=>?_)
 ·obtain p|q|a|b|c|d|rfl|hp|hq|hb|hd|sa|sb|sc|sd|k:=zg h;rfl
 ·obtain p|q|a|b|c|d|rfl|hp|hq|hb|hd|sa|sb|sc|sd|k:=zg h;refine #[_,(av (aX (cT (oz T ac) hr T.jF (cH (bw jy (bw cN (aO bH bQ aj) (aO bH cL aj)) (bw cN (aO bH cL aj) (aO bH bQ aj))) (bw cN (aO bH bQ aj) (aO bH cL aj)))))),?_];refine nD (σ:=[some (.ref p),some (.ref q)]) rfl ?_
  try rw[iC]
  have hbd:0 < b*d:=eY hb hd;have sbd:Sz 8999000 (b*d):=(sb.mul sd).mono ();exists fW (show fJ _ _ from .inr #[_,_,sa,sd,()]) ?_;exists fW (show fJ _ _ from .inr #[_,_,sc,sb,()]) ?_;exists fW (show fJ _ _ from .inr #[_,_,sb,sd,()]) ?_;walk_at "w";exists #[_,_,rfl,(),sbd,λr H' s' h'=>?_];rw[if_neg (),if_neg ()] at h';exact k r H' s' h'
theorem rE:sC ["rows","wide","at","answer","lead","row"] 3 xE:=by walk_at "d"
theorem Jh (T:Txt K mg Z) (ac:bv P):T.su.o P w base 4 (CC K):=by
 refine T.su.F.k rE ?_;walk_at "i";obtain p|n|a|H0|R|ps|rfl|G|r100|n100|⟨rows,RR⟩|ha|hp|hz|k:=h
 refine #[_,(ak (fL 3 rE.nd (cT (yz T ac) hr T.nE (cH cL fh)))
  (ak (eL Yv rfl (pN rfl T.zip (cH (cT (Au T ac) hr T.oU (dj bQ)) bQ)) (vq rfl (cp (fo 4 rE.nd) (cp (fo 5 rE.nd) gP)))
   (av (gM (cT (Gu T ac) hr T.uh (cH (mP (v:=.ref Z.a_NOUGHT) rfl T.mg_NOUGHT rfl) (aO bA xO fh))) (gX jC uM set_list))))
  (av (aX jC)))),?_]
 walk_at "s"
 try rw[iC]
 obtain lR|wR|rr:=id RR;exists #[n,a,rfl,(),λan H1 na s1 R1=>?_];rw[<- Rg (R:=R) (ps:=ps)] at R1;obtain vs0|g0|q0:=id R1;exists #[p,n,H0,R,ps,rfl,G.same s1,r100,n100,#[rows,RR],λle H2 nl s2 g2=>?_];have anl:le≠an:=λz=>by rw[z,g0] at nl;cases nl
 obtain rs|grs|qrs|_:=id G;have lrs:=qrs.9;have lps:=AE (ps:=ps);exists #[#[_,br.of g2],#[_,br.of ((s1.trans s2) _ _ grs)],?_];refine RG (K:=K) (xs:=eI ps) (ws:=rs) (λj σ' H'=>aE H H'/\H' le=some (.lst (eI ps))/\∃y1 y2 vs,σ'=[some (.ref p),some (.int n),some (.int a),some (.ref an),y1,y2]/\H' an=some (.lst vs)/\Yt (bY K H') (MY R ps n a j) vs) () #[s1.trans s2,g2,_,_,vs0,rfl,s2 _ _ g0,ce (λ_ _ z=>bY.same z s2) q0] (λj σ' H' _ #[e,e2,_]=>#[br.of e2,br.of (e _ _ grs)]) ?_ ?_
 ·rintro j v1 v2 σ' H' r h1 h2 ⟨s',gl,y1,y2,vs,rfl,ga,qa⟩ hr;obtain row|er|q|rfl|_|Rr:=bO qrs h2;have mr:=ai er;have wr:=wR row mr;obtain pj|ej|rfl:=Ky h1;have hj:j < ps.9:=(aI.mp ej).1;have ejD:ps.getD j 0=pj:=by rw[aa,ej];rfl
  have pjn:pj < n:=by have:=rr.low j hj;rw[ejD] at this;exact this
  have fr:aS R j a=row.getD a 0:=by unfold aS;rw[aa (l:=R),er];rfl
  have sr:aE H' (upd H' r (.tup [.int pj,.ref q])):=aE.new hr;have gr:(upd H' r (.tup [.int pj,.ref q])) r=some (.tup [.int pj,.ref q]):=aD;generalize upd H' r (.tup [.int pj,.ref q])=H3 at sr gr ⊢;have s03:=s'.trans sr;obtain us|gu|qu:=Rr.same s03;obtain vx|ex|nx:=Eu qu (j:=a) ();exists b7 (br.of gu) ex ?_;exists #[_,_,0,row.getD a 0,rfl,#[_,rfl,T.sq_NOUGHT _],nx,zH,hz row mr _ (getD_in ()),λr4 H4 s4 n4=>?_];have ga4:=(sr.trans s4) _ _ ga;have gl4:=(sr.trans s4) _ _ gl;have la:=qa.9;rw[xX] at la;exists fg ga4 (fu ()) rfl ?_;refine #[(s03.trans s4).after na,by rw[aY anl];exact gl4,_,_,_,rfl,aD,?_];rw[<- Ri RR hj hp,ejD,fr,show -(row.getD a 0)=0 - row.getD a 0 by grind];exact gY (ce (λ_ _ z=>(bY.same z (sr.trans s4)).updL ga4) qa) pj (n4.updL ga4)
 ·rintro σ' H' ⟨s',gl,y1,y2,vs,rfl,ga,qa⟩;rw[lps] at qa;exists k an H' na s' #[vs,ga,qa]
theorem tu:sC ["rows","wide","leads"] 2 qj:=by walk_at "d"
theorem Ax (T:Txt K mg Z) (ac:bv P):T.kZ.o P w base 3 (FR K):=by
 refine T.kZ.F.k tu ?_;walk_at "i";obtain p|n|H0|R|ps|rfl|G|r100|n100|RR|k:=h
 refine #[_,(ak (fL 2 tu.nd (cT (Au T ac) hr T.oU (dj bQ)))
  (av (aX (cu ["place"] ["leads"] [2] (cm rfl T.range (dj cL)) (λ_=>(fo 0)) (λ_=>Jc (bh (Bx K (by rfl)) bQ cL (by with_unfolding_all rfl))) (λ_=>bQ))))),?_]
 walk_at "s"
 try rw[iC]
 exists #[p,n,H0,R,ps,rfl,G,r100,n100,RR,λl H1 nl s1 g1=>?_];exists #[(),(),?_];refine oY (n:=n) (λi ys H'=>aE H1 H'/\ys=eI (Iy ps i)) ko #[aE.refl _,rfl] ?_ ?_
 ·rintro i ys H' hi hlen ⟨s',rfl⟩;rw[uL];exists #[l,eI ps,rfl,.inl (br.of (s' _ _ g1)),rfl,L5,?_];rw[OQ];by_cases e:i∈ps
  ·rw[decide_eq_true e];exists #[s',?_];rw[AR,if_neg (by simpa using e)]
  ·rw[decide_eq_false e,show (if true=true then !false else false)=true from rfl];exists #[s',?_];rw[AR,if_pos e];unfold eI;rw[cR];rfl
 ·rintro ys H2 hy ⟨s2,rfl⟩ r hr;exact k r _ (s1.none (s2.none hr)) ((s1.trans s2).trans (aE.new hr)) aD
theorem FY:sC ["rows","wide","basis"] 2 DV:=by walk_at "d"
theorem Oo (T:Txt K mg Z) (ac:bv P):T.wo.o P w base 6 (CB K):=by
 refine T.wo.F.k FY ?_;walk_at "i";obtain p|n|w|H0|rows|R|ps|rfl|G|r100|n100|RR|F|szR|k:=h
 refine #[_,(ak (fL 2 FY.nd (cT (vz T ac) hr T.mI (cH bQ cL)))
  (av (aX (cu ["at"] ["basis","wide"] [2,1] (cM (cT (Ax T ac) hr T.kZ (cH fh cL))) (λ_=>(fo 0)) (λ_=>cv) (λ_=>(cT (Jh T ac) hr T.su (Bj cL fh bQ))))))),?_]
 walk_at "s"
 try rw[iC]
 exists #[p,n,w,H0,R,rfl,G,r100,n100,RR.2.1,F,λba R2 ps2 M H1 nb s1 G1 RR2 pm M0 M1 tM=>?_];obtain rfl|rfl:=RR2.same (Ks RR);have pn:=RR.le;have lR:=RR.1;have fl:=Vo (ps:=ps2) (i:=n);exists #[ba,n,H,R2,ps2,rfl,G1,(),(),#[rows,RR],λfr H2 nf s2 g2=>?_];exists #[#[_,br.of g2],?_];refine eP (K:=K) (xs:=eI (Iy ps2 n)) (λi ys H'=>aE H2 H'/\Yt (cC K H H') ((Iy ps2 n).take i |>.map (WG R2 ps2 n)) ys) (dH (dk (by rw[AE];lia))) ⟨aE.refl _,.nil⟩ (λi ys H' _ ⟨s,_⟩=>br.of (s _ _ g2)) ?_ ?_
 ·rintro i v ys H' hx hlen ⟨s',pr⟩;obtain a|ea|rfl:=Ky hx;obtain an|ap:=EB.mp (ai ea);have s02:=(s1.trans s2).trans s';exists #[ba,n,a,H,R2,ps2,rfl,(G1.same s2).same s',(),(),#[rows,RR],an,ap,szR,λr H3 nr s3 R3=>?_];refine #[s'.trans s3,?_];rw[take_snoc ea,cR];exact bT (ce (λ_ _ z=>cC.same z s3) pr) (.cons #[r,rfl,s02.none nr,R3] .nil)
 ·rintro ys H3 hy ⟨s3,pr⟩ r hr;rw[aF (by rw[AE];exact ah _)] at pr;have sn:aE H3 (upd H3 r (.lst ys)):=aE.new hr;have s03:=(s1.trans s2).trans s3;exact k r _ (s03.none hr) (s03.trans sn) #[ys,aD,ce (λ_ _ z=>cC.same z sn) pr,je (H0:=H) (rows:=jN R2 ps2 n) #[H3,hr,pr]]
theorem nU:sC ["system","reach"] 1 j8:=by walk_at "d"
theorem uN (T:Txt K mg Z) (ac:bv P):T.d7.oX P w base 9 (NG K Z.a_System Z.a_NotSteered):=by
 refine T.d7.F.kX nU ?_;walk_at "i";obtain x|a|c|H0|mv|pt|lk|rfl|S|D|KF|SW|k|ke:=h
 refine #[_,(ak (fL 1 nU.nd (cT (By T ac) hr T.mU (cH bQ (dB bQ rfl))))
  (av (dw (bh oR (bF bc (by rfl) T.len aW (dj cL)) (dB bQ rfl) (bo _)) (av (LM FF rfl (Og rfl T.xi_NotSteered T.in_NotSteered T.fn_NotSteered T.kp_NotSteered (si T ac) (hr.mono ()) rfl T.mg_NotSteered T.lX (dj (aO bA (cT (Oo T ac) hr T.wo (cH cL (dB bQ rfl))) aj))))) cg))),?_]
 walk_at "s"
 try rw[iC]
 obtain dx|am|ap|al|gx|m1|m2|m3|Gm|Gp|Gl:=id S;have d8:=D.n8;exists #[x,Z.a_System,dx,_,_,rfl,gx,T.cl_System,T.na_states,fA,?_];exists #[x,a,c,mv.9,H0,mv,pt,lk,rfl,(),S,D,KF,λr R ps H1 nr s1 G1 RR=>?_];obtain xs|g1|q1|_:=id G1;have l1:=q1.9;have lR:=RR.1;have sh:=NU RR;have gx1:=s1 _ _ gx;exists #[_,_,rfl,.inl (br.of g1),?_];exists #[x,Z.a_System,dx,_,_,rfl,gx1,T.cl_System,T.na_states,fA,?_];walk_at "w";rw[<- l1,lR];by_cases hf:ps.9 < mv.9
 rotate_left
 ·rw[decide_eq_false (show ¬((ps.9:Nat):Int) < ((mv.9:Nat):Int) by lia)];exists k R ps H1 s1 RR ()
 rw[decide_eq_true (show ((ps.9:Nat):Int) < ((mv.9:Nat):Int) by lia)];obtain ⟨w,F⟩|sz:=SW R ps RR;walk_at "w";unfold Ki Nw;exists #[x,Z.a_System,dx,_,_,rfl,gx1,T.cl_System,T.na_states,fA,?_];exists #[r,mv.9,w,_,_,R,ps,rfl,G1,(),(),RR,F,sz,λq H2 nq s2 G2=>?_];obtain zs|gz|qz|_:=id G2;have lz:=qz.9;have np:=LW (R:=R) hf;obtain ⟨v,ev⟩:∃v,zs[0]?=some v:=#[_,ae ()];obtain row|er|r0|rfl|n0|R0:=bO qz ev;have er':(jN R ps mv.9).getD 0 []=row:=by rw[aa,er];rfl
 have s12:=s1.trans s2;exists b7 (br.of gz) (dC (j:=0) ev) ?_;walk_at "w";intro e he;refine #[e,.ref r0,rfl,aD,λdq hd ne=>#[rfl,e,Z.a_NotSteered,_,some dq,rfl,aD,s12.none he,T.xi_NotSteered,?_]];have hd':H2 dq=none:=by rw[aY ne] at hd;exact hd
 refine ke R ps r0 dq _ RR hf (F5 (s12.none he) s12 hd') (s1.none n0) ?_ (by rw[ui ne,aY ne,aD]);rw[er'];exact R0.same (F5 he (aE.refl _) hd')
theorem Br:sC ["many"] 1 rJ:=by walk_at "d"
theorem qI (T:Txt K mg Z) (ac:bv P):T.iW.o P w base 1 (Ul K):=by
 refine T.iW.F.k Br ?_;walk_at "i";obtain m|rfl|hm|k:=h;refine #[_,(av (aX (cu ["place"] [] [] (cm rfl T.range (dj bQ)) (λ_=>(fo 0)) (λ_=>cv) (λ_=>(mP (v:=.ref Z.a_NOUGHT) rfl T.mg_NOUGHT rfl))))),?_];walk_at "s"
 try rw[iC]
 exists #[(),(),?_];refine iw (n:=m) (bY K) (λ_=>0) () (λa b=>a.same b) ?_ ?_
 ·rintro i Ha NY NN hi sa k1;exists k1 _ _ (aE.refl _) #[_,rfl,T.sq_NOUGHT _]
 ·rintro ys H1 t ht s1 g1 pr _;exact k t H1 ht s1 #[ys,g1,by rw[<- GB];exact pr]
theorem z7:sC ["grid","wide"] 2 qi:=by walk_at "d"
theorem iq (T:Txt K mg Z) (ac:bv P):T.dY.o P w base 1 (FK K):=by
 refine T.dY.F.k z7 ?_;walk_at "i";obtain p|w|H0|rows|rfl|hp|hz|hw|hl|kk:=h;refine #[_,(av (aX (cu ["place"] ["grid"] [0] (cm rfl T.range (dj cL)) (λ_=>(fo 0)) (λ_=>cv) (λ_=>(cu ["line"] ["place"] [0] (Ah K cL) (λ_=>(fo 0)) (λ_=>cv) (λ_=>(aO (nH K (by rfl)) bQ cL))))))),?_];walk_at "s"
 try rw[iC]
 exists #[(),(),?_];refine iw (n:=w) (cC K H) (λj=>rows.map λxs=>xs.getD j 0) hw (λa b=>a.same b) ?_ ?_
 ·rintro j H1 NY NN hj s1 k1;obtain xs|gx|qx|_:=hp.same s1;exists #[#[_,br.of gx],?_];refine dS (K:=K) (F:=cC K H0) (bY K) (λxs=>xs.getD j 0) gx qx hz (λa b=>a.same b) (λa b=>a.same b) ?_ ?_
  ·rintro i ns x H2 NY2 NN2 en s2 ⟨u,rfl,_,zs,gz,qz⟩ k2;obtain v|ev|hv:=Eu qz (j:=j) (by rw[hl ns (ai en)];exact hj);exists b7 (br.of gz) ev ?_;exact k2 _ _ (aE.refl _) hv
  ·rintro ys' H2 r hr s2 g pr nx;exact k1 _ _ s2 #[r,rfl,s1.none hr,ys',g,pr]
 ·rintro ys' H1 r hr s1 g pr nx;exact kk r H1 hr s1 #[ys',g,pr,je nx]
theorem Bs:sC ["rows","wide"] 2 rK:=by walk_at "d"
theorem BA (T:Txt K mg Z) (ac:bv P):T.mV.o P w base 5 (Km K):=by
 refine T.mV.F.k Bs ?_;walk_at "i";obtain p|n|w|H0|rows|rfl|G|r100|n100|hw|F|k:=h;refine #[_,(av (aX (aO bH (cT (Gr T ac) hr T.ug (cH (cT (iq T ac) hr T.dY (cH bQ cL)) (bF bc (by rfl) T.len aW (dj bQ)))) aj))),?_];walk_at "s"
 try rw[iC]
 obtain xs|gx|qx|_:=id G;have lx:=qx.9;have lt:(cx rows n).9=n:=kr;exists #[p,n,H0,rows,rfl,G,(),(),hw,λr H1 nr s1 G1=>?_];exists #[_,_,rfl,.inl (br.of (s1 _ _ gx)),?_];rw[<- lx];exists #[r,rows.9,w,_,cx rows n,rfl,G1,(),r100,λys hy=>?_,F,λt lp qp R ps d ls H2 gt gq G2 s2 S=>?_]
 ·unfold cx at hy;obtain i|_|rfl:=au.mp hy;rw[af]
 exists k qp R ps H2 (s1.trans s2) gq S.rr
theorem oG:sC ["system","states","steps","first"] 2 qh:=by walk_at "d"
theorem As (T:Txt K mg Z) (ac:bv P):T.kY.o P w base 7 (zR K Z.a_System):=by
 refine T.kY.F.k oG ?_;walk_at "i";obtain x|p|w|H0|H1|mv|pt|lk|sts|pus|Rk|pk|rfl|S|D|G|C|kn|KR|full|F2|SW|k:=h
 refine #[_,(ak (fL 2 oG.nd (bw qH cL (cT (uT T ac) hr T.jS (cH bQ (oP rC cL (pL (qS my aj)) rW)))))
  (ak (fL 3 oG.nd (bF (C9 rfl) (by rfl) T.min Za (dj (cu ["place"] ["states"] [1] (cM (cT (BA T ac) hr T.mV (cH (bw qH fh (dB bQ rfl)) (dB bQ rfl)))) (λ_=>(fo 0)) (λ_=>Jc (bh Ao bQ (bF (BW K (by rfl)) (by rfl) T.len aW (dj cL)) (bo _))) (λ_=>bQ)))))
  (ak (dw (bh oR jC (bF bc (by rfl) T.len aW (dj fh)) (bo _)) (av (aX (cT (qI T ac) hr T.iW (dj (dB bQ rfl))))) cg)
  (av (aX (cT (yz T ac) hr T.nE (cH (dB bQ rfl) (bw jy jC (bF bc (by rfl) T.len aW (dj fh)))))))))),?_]
 walk_at "s"
 try rw[iC]
 obtain dx|am|ap|al|gx|m1|m2|m3|Gm|Gp|Gl:=id S;obtain xs|gs|qs|_:=id G.any;have lx:=qs.9;have ls:=C.len;have d8:=D.n8;have i4:=D.i4
 have lw:(sts.getD pus.9 []).9=mv.9:=by
  rw[aa,ae ()];exact C.wide _ (az _)
 exists xN (br.of gs) λl1 Ha sa na ga=>?_
 rw[MD (show xs.9=pus.9+1 by lia)] at ga;have qd:=mQ qs pus.9;rw[Jz ls] at qd;have Ga:bg K (λ_=>none) Ha l1 [sts.getD pus.9 []]:=#[_,ga,ce (λ_ _ z=>z.same sa) qd,je #[_,na,qd]];exists #[x,l1,_,_,mv,pt,lk,_,rfl,S.same sa,D,Ga,(show 1<=100 by decide),λr hr=>by rw[aU.mp hr];exact lw,λys hy r hr=>by rw[aU.mp hr];exact F2 ys hy,λr Hb nb sb Gb=>?_];obtain ys|gy|qy|_:=id Gb.any;have ly:ys.9=1:=qy.length.symm;have sab:=sa.trans sb;exists qF (sab _ _ gs) gy ko λl2 Hc sc nc gc=>?_
 have sac:=sab.trans sc;have gxc:=sac _ _ gx;obtain zs|gz|qz|_:=id (Gp.same sac).any;have lz:=qz.9;exists #[x,Z.a_System,dx,_,_,rfl,gxc,T.cl_System,T.na_put,uB,?_];exists qF gc gz (dH (dk (by rw[ao];lia))) λl3 Hd sd nd gd=>?_
 have sad:=sac.trans sd;have gxd:=sad _ _ gx;have q3:Yt (cC K (λ_=>none) Hc) (sts++[oS mv (sts.getD pus.9 [])]++pt) (xs++ys++zs):=bT (bT (ce (λ_ _ z=>z.same sac) qs) (ce (λ_ _ z=>z.same sc) qy)) qz;have Gd:bg K (λ_=>none) Hd l3 (sts++[oS mv (sts.getD pus.9 [])]++pt):=#[_,gd,ce (λ_ _ z=>z.same sd) q3,je #[_,nd,q3]];rw[cy,List.singleton_append] at Gd;generalize hr:sts++(oS mv (sts.getD pus.9 []) :: pt)=rows at Gd SW;have lr:rows.9=sts.9+1+pt.9:=by rw[<- hr];simp;lia
 have hw:∀xs∈rows,xs.9=mv.9:=λxs hx=>by
  rw[<- hr] at hx;rcases aB.mp hx with hx | hx
  ·exact C.wide xs hx
  ·rcases ay.mp hx with rfl | hx
   ·exact uf
   ·exact D.pw xs hx
 exists #[x,Z.a_System,dx,_,_,rfl,gxd,T.cl_System,T.na_states,fA,?_];exists #[l3,mv.9,w,_,rows,rfl,Gd,(),(),hw,SW,λq R ps He se ge RR=>?_];have sae:=sad.trans se;have gse:=sae _ _ gs;exists #[#[_,br.of ge],?_];have ln:(cx rows mv.9).9=mv.9:=kr;have lps:(eI ps).9=ps.9:=af ..
 have kp:ps.9<=rows.9:=by
  have inc:∀j,j < ps.9->j<=ps.getD j 0:=by
   intro j
   induction j with
   | zero=>intro _;exact a8 _
   | succ j ih =>
    intro hj;have:=ih ();have:=RR.2.2.inc j (j+1) () hj
    lia
  rcases eJ ps.9 with z | z
  ·lia
  ·have h1:=inc (ps.9 - 1) ();have h2:=RR.2.2.low (ps.9 - 1) ()
   lia
 obtain t1|ht1|hf1:=Ry D.mw D.pw KR full C kn hr.symm RR ln;refine eP (K:=K) (a:=q) (xs:=eI ps) (λi ys H'=>H'=He/\ys=((ps.take i).filter (sts.9<=·)).map λp=>V.int ((p:Nat):Int)) ko #[rfl,rfl] (λi ys H' _ #[e,_]=>by rw[e];exact br.of ge) ?_ ?_
 ·rintro i v ys H' hv hlen ⟨rfl,rfl⟩;unfold eI at hv;rw[aw] at hv;cases ep:ps[i]? with
  | none=>rw[ep] at hv;cases hv
  | some pi =>
  rw[ep] at hv;cases hv;exists #[_,_,rfl,.inl (br.of gse),?_];walk_at "w";rw[take_snoc ep,IH,cR];by_cases h:sts.9<=pi
  ·rw[decide_eq_true (show ((xs.9:Nat):Int)<=((pi:Nat):Int) by lia)];exists #[rfl,?_];rw[show [pi].filter (sts.9<=·)=[pi] by simp [h]];rfl
  ·rw[decide_eq_false (show ¬((xs.9:Nat):Int)<=((pi:Nat):Int) by lia)];exists #[rfl,?_];rw[show [pi].filter (sts.9<=·)=[] by simp;lia];simp
 rintro ys' Hf hy ⟨rfl,rfl⟩ l4 n4;rw[lps,List.take_length];have s4:aE Hf (upd Hf l4 (.lst ((ps.filter (sts.9<=·)).map λp=>V.int ((p:Nat):Int)))):=aE.new n4;have g4:(upd Hf l4 (.lst ((ps.filter (sts.9<=·)).map λp=>V.int ((p:Nat):Int)))) l4=some (.lst ((ps.filter (sts.9<=·)).map λp=>V.int ((p:Nat):Int))):=aD;generalize upd Hf l4 (.lst ((ps.filter (sts.9<=·)).map λp=>V.int ((p:Nat):Int)))=Hg at s4 g4 ⊢;have sag:=sae.trans s4;exists #[l4,(ps.filter (sts.9<=·)).map λp=>((p:Nat):Int),rfl,br.of (by rw[g4,gI];rfl),?_,λM hM hmin=>?_]
 ·rw[af];refine zD (a:=ps.getD t1 0) (ja.mpr #[?_,by simpa using hf1]);rw[aa,ae ht1];exact az _
 obtain t0|ht0|rfl|hf0:=QZ hM
 have hm:∀t,t < ps.9->sts.9<=ps.getD t 0->ps.getD t0 0<=ps.getD t 0:=λt ht h=>by
  have:=hmin ((ps.getD t 0:Nat):Int) (au.mpr #[_,ja.mpr #[by rw[aa,ae ht];exact az _,by simpa using h],rfl])
  lia
 have lo0:=RR.2.2.low t0 ht0
 have mf:ps.getD t0 0∈ps:=by
  rw[aa,ae ht0];exact az _
 have LO:∀pu,(pu=if ps.getD t0 0=sts.9 then Mg pt.9 0 else jP pt.9 ((ps.getD t0 0 - sts.9 - 1:Nat):Int))->Ka rows mv.9 sts.9 pt.9 pu:=λpu e=>#[R,ps,_,RR,mf,hf0,λg hg hk=>by
  obtain t|ht|rfl:=bN hg;have:=hm t ht;rw[aa (l:=ps) (i:=t),ae ht] at this;exact this hk,e]
 clear mf;have nx:=λ(pu s':List Rat) lp ls' hpu hs=>Pq D.mw D.pw C hr.symm RR ln ht0 hf0 hm (pu:=pu) (s':=s') lp ls' hpu hs
 have gxg:=sag _ _ gx;have l2g:=(sd.trans se).trans s4;clear hmin hM;clear hm;generalize ps.getD t0 0=f at lo0 hf0 nx LO ⊢;exists #[_,_,rfl,.inl (br.of (l2g _ _ gc)),?_];rw[ao,<- lx,ly];walk_at "w";by_cases e:f=sts.9
 ·rw[decide_eq_true (show ((f:Nat):Int) < ((sts.9+1:Nat):Int) by lia)];exists #[x,Z.a_System,dx,_,_,rfl,gxg,T.cl_System,T.na_ins,vO,?_];exists #[pt.9,rfl,(),λr Hh nh sh Rh=>?_];exact k r _ Hh (by rw[hr];exact LO _ (by rw[if_pos e])) (sag.none nh) (sag.trans sh) Rh cE (λz hz=>.inl (gJ hz)) λs' ls' hs=>nx _ s' cE ls' (.inl #[e,λl=>NX]) hs
 ·rw[decide_eq_false (show ¬((f:Nat):Int) < ((sts.9+1:Nat):Int) by lia)];exists #[x,Z.a_System,dx,_,_,rfl,gxg,T.cl_System,T.na_ins,vO,?_];exists #[_,_,rfl,.inl (br.of (l2g _ _ gc)),?_];rw[ao,<- lx,ly];walk_at "w";obtain ⟨l,rfl⟩:∃l,f=sts.9+(1+l):=#[f - sts.9 - 1,()];rw[show ((sts.9+(1+l):Nat):Int) - ((sts.9+1:Nat):Int)=((l:Nat):Int) by lia];refine #[pt.9,_,rfl,(),λr Hh nh sh Rh=>?_];refine k r _ Hh (by rw[hr];exact LO _ (by rw[if_neg (),show sts.9+(1+l) - sts.9 - 1=l by lia])) (sag.none nh) (sag.trans sh) Rh uA (λz hz=>?_) λs' ls' hs=>nx _ s' uA ls' (.inr #[l,(),rfl,λl'=>?_]) hs
  ·unfold jP at hz;obtain i|_|rfl:=au.mp hz
   split
   ·exact .inr rfl
   ·exact .inl rfl
  ·exact xn ()
theorem sO:sC ["self","state","puts","columns"] 3 ip:=by walk_at "d"
theorem yP (T:Txt K mg Z) (ac:bv P):o7 P w K mg base Kc 5 Z.o5 Z.oV ["self","state","puts"] (CF K Z.a_System):=by
 refine T.uy.k sO ?_;walk_at "i";obtain x|p|q|H0|mv|pt|lk|st|pu|rfl|S|D|F|hp|hq|l1|l2|fs|k:=h
 refine #[_,(ak (fL 3 sO.nd (cT (iq T ac) hr T.dY (cH (dB bQ rfl) (dB bQ rfl))))
  (av (aX (cu ["line","column"] ["state","puts"] [1,2] (pN rfl T.zip (cH (dB bQ rfl) jC)) (λ_=>(kN K 2 (cp (fo 0) (cp (fo 1) gP)))) (λ_=>cv) (λ_=>(cT (Ap T ac) hr T.jz (cH (bw qH bQ cL) (bw qH fh jC)))))))),?_]
 walk_at "s"
 try rw[iC]
 obtain dx|a|b|c|gx|n1|n2|n3|Ga|Gb|Gc:=id S;have d1:=D.n8;have d2:=D.i4;exists #[x,Z.a_System,dx,_,_,rfl,gx,T.cl_System,T.na_put,uB,?_];exists #[x,Z.a_System,dx,_,_,rfl,gx,T.cl_System,T.na_states,fA,?_];exists #[b,mv.9,H0,pt,rfl,Gb,(),(),D.pw,λt H1 nt s1 Gt=>?_];obtain as|ga|qa|_:=Ga.same s1;obtain ts|gt|qt|_:=id Gt;have la:=qa.9;have lt:=qt.9;rw[eK] at lt;have gx1:=s1 _ _ gx;exists #[x,Z.a_System,dx,_,_,rfl,gx1,T.cl_System,T.na_move,tj,?_];exists #[#[_,br.of ga],#[_,br.of gt],?_];refine oW (K:=K) (xs:=as) (ws:=ts) (λi ys H'=>aE H1 H'/\Yt (bY K H') ((kg mv pt st pu).take i) ys) ko () #[aE.refl _,.nil] (λi ys H' _ #[s,_]=>#[br.of (s _ _ ga),br.of (s _ _ gt)]) ?_ ?_
 ·rintro i v1 v2 ys H' r h1 h2 hy ⟨s,pr⟩ hr;obtain line|el|u1|rfl|_|R1:=bO qa h1;obtain col|ec|u2|rfl|_|R2:=bO qt h2;have ml:=ai el;have mc:=ai ec;have sr:aE H' (upd H' r (.tup [.ref u1,.ref u2])):=aE.new hr;have gr:(upd H' r (.tup [.ref u1,.ref u2])) r=some (.tup [.ref u1,.ref u2]):=aD;have s2:=s.trans sr;generalize upd H' r (.tup [.ref u1,.ref u2])=H2 at sr gr s2 ⊢;have lc:col.9=pt.9:=mB col mc;have ll:line.9=mv.9:=D.mw line ml;obtain z1|g1|q1:=R1.same s2;obtain z2|g2|q2:=R2.same s2;have y1:=q1.9;have y2:=q2.9;exists qF g1 g2 ko λc1 H3 s3 n3' g3=>?_
  have s13:=s2.trans s3;obtain z3|g4|q3:=(hp.same s1).same s13;obtain z4|g5|q4:=(hq.same s1).same s13;have y3:=q3.9;have y4:=q4.9;exists qF g4 g5 ko λc2 H4 s4 n4 g6=>?_
  have s34:=s3.trans s4;exists #[c1,c2,line++col,st++pu,rfl,#[_,s4 _ _ g3,ce (λ_ _ z=>z.same s34) (bT q1 q2)],#[_,g6,ce (λ_ _ z=>z.same s4) (bT q3 q4)],by rw[ao,ao];lia,by rw[ao];lia,.sys ?_ fs,λr2 H5 s5 h5=>?_]
  ·refine F.fits λy hy=>?_
   rcases aB.mp hy with hy | hy
   ·exact .inl #[line,ml,hy]
   ·obtain j|_|rfl:=au.mp mc;obtain xs|hx|rfl:=au.mp hy;by_cases hj:j < xs.9
    ·refine .inr (.inl #[xs,hx,?_]);rw[aa,ae hj];exact az hj
    ·exact .inr (.inr (.inr (by rw[aa,aG ()];rfl)))
  ·have em:(kg mv pt st pu)[i]?=some (fX (line++col) (st++pu)):=by
    unfold kg;rw[bV,el,ec]
   refine #[((s2.trans s34).trans s5),?_];rw[take_snoc em];exact bT (ce (λ_ _ z=>(z.same (sr.trans s34)).same s5) pr) (.cons h5 .nil)
 ·rintro ys H' hy ⟨s,pr⟩ l hl;have lm:(kg mv pt st pu).9=mv.9:=by unfold kg;rw[aT,eK];lia
  rw[aF ()] at pr;exact k l _ (s1.none (s.none hl)) ((s1.trans s).trans (aE.new hl)) #[ys,aD,ce (λ_ _ z=>z.same (aE.new hl)) pr]
theorem vV:sC ["system","states","puts","step"] 1 DX:=by walk_at "d"
theorem Oq (T:Txt K mg Z) (ac:bv P):T.wu.o P w base 8 (zZ K Z.a_System):=by
 refine T.wu.F.k vV ?_;walk_at "i";obtain x|H0|mv|pt|lk|Rk|pk|rfl|S|D|SF|KR|full|CS|k:=h
 refine #[_,(ak (fL 1 vV.nd (fO (dj (cT (qI T ac) hr T.iW (dj (dB bQ rfl))))))
  (ak (fL 2 vV.nd (fO jx))
  (ak (eL Yv rfl (cm rfl T.range (dj (dB bQ rfl))) (fo 3 vV.nd)
   (ak (jd (uR cW cJ cI iV fh (dj (cT (As T ac) hr T.kY (cH bQ cL)))))
  (av (jd (uR cW cJ cI iV cL (dj (Q2 bQ T.cl_System T.sS (yP T ac) (hr.mono ()) T.uu .nil Gn (cH (aO bA cL (qS my aj)) (aO bA fh (qS my aj))))))))))
  (av (aX (c8 (cH cL (bw qH fh (fO (dj (cT (qI T ac) hr T.iW (dj (dB bQ rfl))))))))))))),?_]
 walk_at "s"
 try rw[iC]
 obtain dx|am|ap|al|gx|m1|m2|m3|Gm|Gp|Gl:=id S;have d8:=D.n8;have i4:=D.i4;exists #[x,Z.a_System,dx,_,_,rfl,gx,T.cl_System,T.na_states,fA,?_];exists #[mv.9,rfl,(),λr0 H1 n0 s1 R0=>?_];exists dU λa H2 s2 na ga=>?_
 exists dU λb H3 s3 nb gb=>?_
 have s03:=(s1.trans s2).trans s3;have gx3:=s03 _ _ gx;have ga3:=s3 _ _ ga;have ab:a≠b:=λz=>by rw[<- z,ga] at nb;cases nb
 have Ha0:H a=none:=s1.none na;have Hb0:H b=none:=(s1.trans s2).none nb;obtain zs0|gz0|_:=id R0;have r0a:r0≠a:=λz=>by rw[<- z,gz0] at na;cases na
 have r0b:r0≠b:=λz=>by rw[<- z,s2 _ _ gz0] at nb;cases nb
 exists #[x,Z.a_System,dx,_,_,rfl,gx3,T.cl_System,T.na_states,fA,?_];exists #[(),(),?_];refine dZ (n:=mv.9) (λj σ' H'=>aE H H'/\∃xs ys sts pus y,σ'=[some (.ref x),some (.ref a),some (.ref b),y]/\H' a=some (.lst xs)/\H' b=some (.lst ys)/\Yt (qW K (λq=>H q=none/\q≠a/\q≠b) H') sts xs/\Yt (qW K (λq=>H q=none/\q≠a/\q≠b) H') pus ys/\Fs mv pt sts pus/\wY mv pt sts pus/\pus.9=j/\∀pu∈pus,∀z∈pu,z=0\/z=1) #[s03,[.ref r0],[],[Mg mv.9 0],[],none,rfl,ga3,gb,.cons #[r0,rfl,#[n0,r0a,r0b],(R0.same s2).same s3] .nil,.nil,Po,Rx,rfl,(λ_ h=>nomatch h)] ?_ ?_
 ·rintro j σ' H' hj ⟨s',xs,ys,sts,pus,y,rfl,ga',gb',pa,pb,C,LD,lj,z01⟩;have lxs:=pa.9;have lys:=pb.9;have lC:=C.len;obtain F2|⟨w,SW⟩|FN:=CS sts pus C z01 ()
  have lst:(sts.getD pus.9 []).9=mv.9:=by
   rw[aa,ae ()];exact C.wide _ (az _)
  exists #[.inl #[rfl,_,br.of gb'],?_];exists #[x,a,w,_,H,mv,pt,lk,sts,pus,Rk,pk,rfl,S.same s',D,bg.ofE ga' pa (λq h=>h.1) (λq h=>h.2.1),C,(),KR,full,F2,SW,λr pu Hc lo nr sc Rr lp z1 nx=>?_];have gbc:=sc _ _ gb';have gac:=sc _ _ ga';obtain zs1|gz1|_:=id Rr;have ra:r≠a:=λz=>by rw[z,ga'] at nr;cases nr
  have rb:r≠b:=λz=>by rw[z,gb'] at nr;cases nr
  exists iT gbc (dk ()) ?_;have gad:(upd Hc b (.lst (ys++[.ref r]))) a=some (.lst xs):=by rw[aY ab];exact gac
  have gbd:(upd Hc b (.lst (ys++[.ref r]))) b=some (.lst (ys++[.ref r])):=aD;have sd:aE H (upd Hc b (.lst (ys++[.ref r]))):=(s'.trans sc).after Hb0;have pad:=ce (λ_ _ z=>qW.updL (o:=.lst (ys++[.ref r])) (qW.same z sc) gbc (λq h=>h.2.2)) pa;have pbd:=bT (ce (λ_ _ z=>qW.updL (o:=.lst (ys++[.ref r])) (qW.same z sc) gbc (λq h=>h.2.2)) pb) (.cons (qW.updL (o:=.lst (ys++[.ref r])) (P:=λq=>H q=none/\q≠a/\q≠b) #[r,rfl,#[s'.none nr,ra,rb],Rr] gbc (λq h=>h.2.2)) .nil);have Rrd:df K (upd Hc b (.lst (ys++[.ref r]))) r pu:=Rr.updL gbc rb;generalize upd Hc b (.lst (ys++[.ref r]))=Hd at gad gbd sd pad pbd Rrd ⊢;exists #[.inl #[rfl,_,br.of gad],?_];obtain ⟨v,ev⟩:∃v,xs[pus.9]?=some v:=#[_,ae ()];obtain st|est|q|rfl|hq|Rq:=bO pad ev;have est':sts.getD pus.9 []=st:=by rw[aa,est];rfl
  rw[est'] at lst FN;exists #[x,dx,_,rfl,sd _ _ gx,Lv,?_];exists b7 (br.of gad) (A4 () ev) ?_;exists b7 (br.of gbd) (A4 (k:=ys.9) (by rw[ao];rfl) (by rw[bE (ah _),jo];rfl)) ?_;exists #[x,q,r,_,mv,pt,lk,st,pu,rfl,S.same sd,D,SF,Rq,Rrd,lst,lp,FN pu z1,λr2 He n2 se R2=>?_];have pbd:Yt (qW K (λq=>H q=none/\q≠a/\q≠b) Hd) (pus++[pu]) (ys++[.ref r]):=pbd;have gae:=se _ _ gad;have gbe:=se _ _ gbd;have r2a:r2≠a:=λz=>by rw[z,gad] at n2;cases n2
  have r2b:r2≠b:=λz=>by rw[z,gbd] at n2;cases n2
  exists iT gae (dk ()) ?_;exists #[(sd.trans se).after Ha0,xs++[.ref r2],ys++[.ref r],sts++[kg mv pt st pu],pus++[pu],_,rfl,aD,by rw[aY ab.symm];exact gbe,bT (ce (λ_ _ z=>qW.updL (qW.same z se) gae (λq h=>h.2.1)) pad) (.cons (qW.updL (P:=λq=>H q=none/\q≠a/\q≠b) #[r2,rfl,#[sd.none n2,r2a,r2b],R2] gae (λq h=>h.2.1)) .nil),ce (λ_ _ z=>qW.updL (qW.same z se) gae (λq h=>h.2.1)) pbd,nx _ (Ro D) (λc=>?_),LD.next C.len _ lo,by rw[ao,lj];rfl,λp' hp=>?_]
  ·rw[L6 D lst lp c];unfold aS;rw[est']
  ·rcases aB.mp hp with hp | hp
   ·exact z01 p' hp
   ·rw[aU.mp hp];exact z1
 ·rintro σ' H' ⟨s',xs,ys,sts,pus,y,rfl,ga',gb',pa,pb,C,LD,lj,z01⟩;have lys:=pb.9;have gx':=s' _ _ gx;exists #[x,Z.a_System,dx,_,_,rfl,gx',T.cl_System,T.na_ins,vO,?_];exists #[pt.9,rfl,(),λr Hc nr sc Rr=>?_];exists dU λl Hd sd nl gl=>?_
  exists qF ((sc.trans sd) _ _ gb') gl (dH (dk (show ys.9+1<=_ by lia))) λl2 He se n2 ge=>?_
  exists cw λt Hf sf gf=>?_
  have scf:=((sc.trans sd).trans se).trans sf;have q3:Yt (cC K H Hd) (pus++[Mg pt.9 0]) (ys++[.ref r]):=bT (ce (λ_ _ #[q,e,h,R]=>#[q,e,h.1,R.same (sc.trans sd)]) pb) (.cons #[r,rfl,s'.none nr,Rr.same sd] .nil);exact k t a l2 sts pus Hf LD (s'.trans scf) gf ((bg.ofE ga' pa (λq h=>h.1) (λq h=>h.2.1)).same scf) #[_,sf _ _ ge,ce (λ_ _ z=>z.same (se.trans sf)) q3,je #[_,n2,q3]] C lj z01
theorem DK:sC ["one","other"] 2 tH:=by walk_at "d"
theorem v7 (T:Txt K mg Z) (ac:bv P):T.kU.o P w base 4 (xu K):=by
 refine T.kU.F.k DK ?_;walk_at "i";obtain p|q|xq|yq|rfl|hp|hq|hl|hz|hn|hm|k:=h;refine #[_,(av (aX (cu ["mine","yours"] [] [] (pN rfl T.zip (cH bQ cL)) (λ_=>(kN K 2 (cp (fo 0) (cp (fo 1) gP)))) (λ_=>cv) (λ_=>(cT (Gu T ac) hr T.uh (cH bQ cL)))))),?_];walk_at "s"
 try rw[iC]
 obtain xs|gx|qx:=id hp;obtain ys|gy|qy:=id hq;have lx:=qx.9;have ly:=qy.9;exists #[#[_,br.of gx],#[_,br.of gy],?_];refine oW (K:=K) (xs:=xs) (ws:=ys) (λi zs H'=>aE H H'/\Yt (bY K H') ((W0 (λx y=>x - y) xq yq).take i) zs) ko () #[aE.refl _,.nil] (λi zs H' _ #[s,_]=>#[br.of (s _ _ gx),br.of (s _ _ gy)]) ?_ ?_
 ·rintro i x y zs H' r hx hy hlen ⟨s,hP⟩ hr;obtain n|en|hn1:=bO qx hx;obtain m|em|hm1:=bO qy hy;have s1:=aE.new (o:=.tup [x,y]) hr;have s01:=s.trans s1;have gr:(upd H' r (.tup [x,y])) r=some (.tup [x,y]):=aD;generalize upd H' r (.tup [x,y])=Hr at s1 s01 gr ⊢;exists #[_,_,n,m,rfl,hn1.same s01,hm1.same s01,hn n (ai en),hm m (ai em),λr3 H3 s3 h3=>?_];refine #[s01.trans s3,?_];have ez:(W0 (λx y=>x - y) xq yq)[i]?=some (n - m):=by rw[bV,en,em]
  rw[take_snoc ez];exact bT (ce (λ_ _ z=>z.same (s1.trans s3)) hP) (.cons h3 .nil)
 ·rintro zs H' hy ⟨s,hP⟩ l hl';rw[aF (by rw[aT];lia)] at hP;exact k l _ (s.none hl') (s.trans (aE.new hl')) #[zs,aD,ce (λ_ _ z=>z.same (aE.new hl')) hP]
theorem mO:sC ["one","other","wide","columns"] 3 rM:=by walk_at "d"
theorem BB (T:Txt K mg Z) (ac:bv P):T.h9.o P w base 6 (zV K):=by
 refine T.h9.F.k mO ?_;walk_at "i";obtain p|q|w|H0|H1|one|other|rfl|hp|hq|z1|z2|hw|h1|h2|kk:=h
 refine #[_,(ak (fL 3 mO.nd (cT (iq T ac) hr T.dY (cH cL fh)))
  (av (aX (cu ["line"] ["columns"] [3] (cM bQ) (λ_=>(fo 0)) (λ_=>cv) (λ_=>(cT (Aw T ac) hr T.jA (cH cL bQ))))))),?_]
 walk_at "s"
 try rw[iC]
 exists #[q,w,H1,other,rfl,hq,z2,hw,h2,λc H2 nc s2 hc=>?_];obtain xs|gx|qx|_:=hp.same s2;exists #[#[_,br.of gx],?_];refine dS (K:=K) (F:=cC K H0) (cC K H) (λxs=>(cx other w).map λys=>fX ys xs) gx qx z1 (λa b=>a.same b) (λa b=>a.same b) ?_ ?_
 ·rintro i ns x H3 NY NN en s3 ⟨u,rfl,_,hu⟩ k;obtain e1|e2:=h1 ns (ai en);exists #[c,u,H,cx other w,ns,rfl,hc.same s3,hu,by simp [cx];lia,(),λys hy=>#[?_,e2 ys hy],λr H4 nr s4 hr=>k _ _ s4 #[r,rfl,s2.none (s3.none nr),hr]];obtain j|_|rfl:=au.mp hy;rw[af];exact e1.symm
 ·rintro ys' H3 r hr s3 g pr nx;exact kk r H3 (s2.none hr) (s2.trans s3) #[ys',g,pr,je nx]
theorem Bp:sC ["system","rows"] 2 rG:=by walk_at "d"
theorem Ef (T:Txt K mg Z) (ac:bv P):T.jz.o P w base 4 (Kp K):=by
 refine T.jz.F.k jw ?_;walk_at "i";obtain p|q|xs|ys|rfl|hp|hq|hl|hz|⟨⟨M,h1⟩,⟨N,h2⟩⟩|kk:=h
 refine #[_,(ak (fL 2 jw.nd (cT (ir T ac) hr T.dQ (dj bQ)))
  (ak (fL 3 jw.nd (cT (ir T ac) hr T.dQ (dj cL)))
  (ak (fL 4 jw.nd (Aj rfl T.list rfl T.zip (cH (cT (kQ T ac) hr T.gR (cH bQ fh)) (cT (kQ T ac) hr T.gR (cH cL jC)))))
  (av (aX (cT (oz T ac) hr T.jF (cH (bF (HR rfl) (by rfl) T.sum PyProof.Rows.boot_sum (dj (cu ["mine","yours"] [] [] (cM uM) (λ_=>(kN K 2 (cp (fo 0) (cp (fo 1) gP)))) (λ_=>cv) (λ_=>(bw cN bQ cL))))) (bw cN fh jC)))))))),?_]
 walk_at "s"
 try rw[iC]
 replace hp:=hp.rowK;replace hq:=hq.rowK;replace hl:(ys.map nm).9=(xs.map nm).9:=by simpa using hl
 replace hz:(xs.map nm).9<=1000:=by simpa using hz
 obtain b1|s1:=h1.bot;obtain b2|s2:=h2.bot;have k2:∀r H',aE H H'->H' r=some (.tup [.int (lo (JB (xs.map nm) (ys.map nm)) (fD (xs.map nm)*fD (ys.map nm))),.int (hi (JB (xs.map nm) (ys.map nm)) (fD (xs.map nm)*fD (ys.map nm)))])->Q (.ref r) H':=λr H' s g=>kk r H' s (bY.mk g (K3 b1 b2))
 clear kk;generalize xs.map nm=ns at hp hq hl hz h1 h2 b1 b2 s1 s2 k2;generalize ys.map nm=ms at hp hq hl hz h1 h2 b1 b2 s1 s2 k2;have hb:0 < fD ns*fD ms:=eY b1 b2;exists #[p,ns,M,rfl,hp,hz,h1,λH1 t1=>?_];exists #[q,ms,N,rfl,hq.same t1,(),h2,λH2 t2=>?_];have u2:=t1.trans t2;exists #[p,ns,M,_,rfl,hp.same u2,hz,h1,b1,s1,λr1 H3 n3 t3 g3=>?_];exists #[q,ms,N,_,rfl,(hq.same u2).same t3,(),h2,b2,s2,λr2 H4 n4 t4 g4=>?_];exists #[r1,r2,_,_,rfl,br.of (t4 _ _ g3),br.of g4,by simp [dJ,hl],λL ts H5 t5 n5 g5 pr=>?_];have lt:=pr.9;have ll:(dJ ns (fD ns)).9=ns.9:=by simp [dJ]
 have lm:(dJ ms (fD ms)).9=ns.9:=by simp [dJ,hl]
 rw[sX,af,af,ll,lm] at lt;exists #[#[_,br.of g5],?_];refine eP (K:=K) (xs:=ts) (λi ys H'=>H'=H5/\ys=((W0 (λx y=>x*y) (dJ ns (fD ns)) (dJ ms (fD ms))).take i).map V.int) ko #[rfl,rfl] (λi ys H' _ #[e,_]=>by subst e;exact br.of g5) ?_ ?_
 ·rintro i x ys H' hx hlen ⟨rfl,rfl⟩;obtain pq|epq|T|rfl|gT:=bO pr hx;obtain t|u|et|eu|rfl:=Kd epq;exists fW (show fJ _ _ from .inr #[_,_,vN h1 b1 s1 (ai et),vN h2 b2 s2 (ai eu),()]) ?_;have ez:(W0 (λx y=>x*y) (dJ ns (fD ns)) (dJ ms (fD ms)))[i]?=some (t*u):=by rw[bV,et,eu]
  exact #[rfl,by rw[take_snoc ez];simp]
 ·rintro ys H' hy ⟨rfl,rfl⟩ l hl';exists #[l,W0 (λx y=>x*y) (dJ ns (fD ns)) (dJ ms (fD ms)),rfl,br.of (by rw[aD,aF (by rw[aT];lia)]),?_];exists fW (show fJ _ _ from .inr #[_,_,s1,s2,()]) ?_;exists #[_,_,rfl,(),(s1.mul s2).mono (),λr H6 t6 g6=>?_];rw[if_neg (),if_neg ()] at g6;exact k2 r H6 ((((u2.trans t3).trans t4).trans t5).trans ((aE.new hl').trans t6)) g6
theorem Eh (T:Txt K mg Z) (ac:bv P):T.jA.o P w base 5 (Ko K):=by
 refine T.jA.F.k z8 ?_;walk_at "i";obtain p|q|H0|rows|ys|rfl|hp|hq|hz|hl|hr1|kk:=h;refine #[_,(av (aX (cu ["line"] ["row"] [1] (cM bQ) (λ_=>(fo 0)) (λ_=>cv) (λ_=>(cT (Ef T ac) hr T.jz (cH bQ cL)))))),?_];walk_at "s"
 try rw[iC]
 obtain xs|gx|qx|_:=id hp;exists #[#[_,br.of gx],?_];refine dS (K:=K) (F:=cC K H0) (bY K) (λxs=>fX xs ys) gx qx hz (λa b=>a.same b) (λa b=>a.same b) ?_ ?_
 ·rintro i ns x H' NY NN en s ⟨u,rfl,_,hu⟩ k;obtain e1|e2:=hr1 ns (ai en);exists #[u,q,ns,ys,rfl,hu,hq.same s,e1.symm,(),e2,λr H2 s2 h2'=>k _ _ s2 h2']
 ·rintro ys' H' r hr s g pr nx;exact kk r H' hr s #[ys',g,pr]
theorem yM (T:Txt K mg Z) (ac:bv P):T.h9.o P w base 6 (zW K):=by
 refine T.h9.F.k mO ?_;walk_at "i";obtain p|q|w|H0|H1|one|other|rfl|hp|hq|z1|z2|hw|h1|h2|kk:=h
 refine #[_,(ak (fL 3 mO.nd (cT (iq T ac) hr T.dY (cH cL fh)))
  (av (aX (cu ["line"] ["columns"] [3] (cM bQ) (λ_=>(fo 0)) (λ_=>cv) (λ_=>(cT (Eh T ac) hr T.jA (cH cL bQ))))))),?_]
 walk_at "s"
 try rw[iC]
 exists #[q,w,H1,other,rfl,hq,z2,hw,h2,λc H2 nc s2 hc=>?_];obtain xs|gx|qx|_:=hp.same s2;exists #[#[_,br.of gx],?_];refine dS (K:=K) (F:=cC K H0) (cC K H) (λxs=>(cx other w).map λys=>fX ys xs) gx qx z1 (λa b=>a.same b) (λa b=>a.same b) ?_ ?_
 ·rintro i ns x H3 NY NN en s3 ⟨u,rfl,_,hu⟩ k;obtain e1|e2:=h1 ns (ai en);exists #[c,u,H,cx other w,ns,rfl,hc.same s3,hu,by simp [cx];lia,(),λys hy=>#[?_,e2 ys hy],λr H4 nr s4 hr=>k _ _ s4 #[r,rfl,s2.none (s3.none nr),hr]];obtain j|_|rfl:=au.mp hy;rw[af];exact e1.symm
 ·rintro ys' H3 r hr s3 g pr nx;exact kk r H3 (s2.none hr) (s2.trans s3) #[ys',g,pr,je nx]
theorem yL (T:Txt K mg Z) (ac:bv P):T.mT.o P w base 7 (Cv K Z.a_System):=by
 refine T.mT.F.k Bp ?_;walk_at "i";obtain x|p|H0|H1|mv|pt|lk|N|rfl|S|D|GN|n100|hN|k:=h;refine #[_,(av (aX (cT (yM T ac) hr T.h9 (Bj cL (dB bQ rfl) (dB bQ rfl))))),?_];walk_at "s"
 try rw[iC]
 obtain dx|am|ap|al|gx|_|_|_|Gm|_|_:=id S;have d1:=D.n8;exists #[x,Z.a_System,dx,_,_,rfl,gx,T.cl_System,T.na_move,tj,?_];exists #[x,Z.a_System,dx,_,_,rfl,gx,T.cl_System,T.na_states,fA,?_];exists #[p,am,mv.9,H1,H0,N,mv,rfl,GN,Gm,(),(),(),hN,D.mw,k]
theorem NM:sC ["one","other"] 2 DS:=by walk_at "d"
theorem Om (T:Txt K mg Z) (ac:bv P):T.wj.o P w base 3 (oE K (λx y=>x*y)):=by
 refine T.wj.F.ok NM (λvs H Q E h=>?_) (λcdv A outer s H vs Q E hr h=>?_)
 ·obtain p|q|a|b|c|d|rfl|hp|hq|hb|hd|sa|sb|sc|sd|k:=zj h;rfl
 ·obtain p|q|a|b|c|d|rfl|hp|hq|hb|hd|sa|sb|sc|sd|k:=zj h;refine #[_,(av (aX (cT (oz T ac) hr T.jF (cH (bw cN (aO bH bQ aj) (aO bH cL aj)) (bw cN (aO bH bQ aj) (aO bH cL aj)))))),?_];refine nD (σ:=[some (.ref p),some (.ref q)]) rfl ?_
  try rw[iC]
  have hbd:0 < b*d:=eY hb hd;have sbd:Sz 8999000 (b*d):=(sb.mul sd).mono ();exists fW (show fJ _ _ from .inr #[_,_,sa,sc,()]) ?_;exists fW (show fJ _ _ from .inr #[_,_,sb,sd,()]) ?_;walk_at "w";exists #[_,_,rfl,(),sbd,λr H' s' h'=>?_];rw[if_neg (),if_neg ()] at h';exact k r H' s' h'
theorem DJ:sC ["by","row"] 2 tE:=by walk_at "d"
theorem v5 (T:Txt K mg Z) (ac:bv P):T.kT.o P w base 4 (IS K):=by
 refine T.kT.F.k DJ ?_;walk_at "i";obtain u|q|c|ys|rfl|hc|sc|hq|hz|h2|kk:=h;refine #[_,(av (aX (cu ["value"] ["by"] [0] (cM cL) (λ_=>(fo 0)) (λ_=>cv) (λ_=>(cT (Om T ac) hr T.wj (cH cL bQ)))))),?_];walk_at "s"
 try rw[iC]
 obtain us|gu|qu:=id hq;exists #[#[_,br.of gu],?_];refine dS (K:=K) (F:=bY K) (bY K) (λy=>c*y) gu qu hz (λa b=>a.same b) (λa b=>a.same b) ?_ ?_
 ·rintro i y x H' NY NN en s hx k;exists #[_,_,_,_,rfl,hc.same s,hx,sc,h2 y (ai en),λr H2 s2 h2'=>k _ _ s2 h2']
 ·rintro ys' H' r hr s g pr nx;exact kk r H' hr s #[ys',g,pr]
theorem vW:sC ["system","row","wish","told","weight"] 3 DY:=by walk_at "d"
theorem Ot (T:Txt K mg Z) (ac:bv P):T.wB.o P w base 8 (FU K Z.a_System):=by
 refine T.wB.F.k vW ?_;walk_at "i";obtain x|p|q|H0|mv|pt|lk|row|wish|rfl|S|D|Rp|lr|Rq|l100|F|k:=h
 refine #[_,(ak (fL 3 vW.nd cL)
  (ak (eL Yv rfl (US rfl T.reversed (dj fh)) (fo 4 vW.nd)
   (av (fL 3 vW.nd (cT (v7 T ac) hr T.kU (cH (aO bA (cT (yL T ac) hr T.mT (cH bQ (fO (dj jC)))) aj) (cT (v5 T ac) hr T.kT (cH uM cL)))))))
  (av (aX jC)))),?_]
 walk_at "s"
 try rw[iC]
 obtain ws|gw|qw:=id Rq;have lw:=qw.9;have d8:=D.n8;walk_at "w";unfold WS;exists #[q,ws,rfl,br.of gw,?_];refine RI (K:=K) (a:=q) (xs:=ws) (λi σ' H'=>aE H H'/\∃r y,σ'=[some (.ref x),some (.ref p),some (.ref q),some (.ref r),y]/\df K H' r (wW mv row wish i)) #[aE.refl _,p,_,rfl,Rp] (λi σ' H' _ #[s,_]=>br.of (s _ _ gw)) ?_ ?_
 ·rintro i v σ' H' hi hv ⟨s',r,y,rfl,Rr⟩;obtain a|ea|hq:=bO qw hv;have ma:=ai ea;have ea':wish.getD (wish.9 - 1 - i) 0=a:=by rw[aa,lw,ea];rfl
  have ln:=yj (wish:=wish) lr i;exists dU λl H1 s1 nl gl=>?_
  have G1:bg K (λ_=>none) H1 l [wW mv row wish i]:=#[_,gl,.cons #[r,rfl,rfl,Rr.same s1] .nil,λz=>by
   obtain zs|gz|_:=Rr;cases aU.mp z;rw[gz] at nl;cases nl]
  have s01:=s'.trans s1;exists #[x,l,_,_,mv,pt,lk,_,rfl,S.same s01,D,G1,(show 1<=100 by decide),λxs hx=>?_,λt H2 nt s2 G2=>?_]
  ·rw[aU.mp hx];exact #[ln,λys hy=>#[F.col ys hy,F.rw i ()]]
  obtain us|gu|qu|_:=id G2;have e2:ju [wW mv row wish i] mv mv.9=[DA mv (wW mv row wish i)]:=rfl;rw[e2] at qu
  match us,qu,gu with
  | [u],.cons ⟨t1,et,_,Rt⟩ .nil,gu =>
  subst et;have s02:=s01.trans s2;exists #[_,p,a,row,rfl,?_,F.ws a ma,Rp.same s02,(),F.rz,λt2 H3 n3 s3 R3=>?_]
  ·exact hq.same s02
  exists #[t1,t2,_,_,rfl,Rt.same s3,R3,by rw[af,Dz,lr],by rw[Dz];lia,F.tk i (),λz hz=>?_,λt3 H4 n4 s4 R4=>?_]
  ·obtain y|hy|rfl:=au.mp hz;exact F.mul a ma y hy
  exists #[(s02.trans s3).trans s4,t3,_,rfl,?_];show df K H4 t3 (W0 (λx y=>x - y) (DA mv (wW mv row wish i)) (row.map λy=>wish.getD (wish.9 - 1 - i) 0*y))
  rw[ea'];exact R4
 ·rintro σ' H' ⟨s',r,y,rfl,Rr⟩;walk_at "w";rw[<- lw] at Rr;exact k r H' s' Rr
theorem Qq:sC ["one","other"] 2 IX:=by walk_at "d"
theorem Q9 (T:Txt K mg Z) (ac:bv P):T.zm.o P w base 3 (oE K (λx y=>x+y)):=by
 refine T.zm.F.ok Qq (λvs H Q E h=>?_) (λcdv A outer s H vs Q E hr h=>?_)
 ·obtain p|q|a|b|c|d|rfl|hp|hq|hb|hd|sa|sb|sc|sd|k:=zA h;rfl
 ·obtain p|q|a|b|c|d|rfl|hp|hq|hb|hd|sa|sb|sc|sd|k:=zA h;refine #[_,(av (aX (cT (oz T ac) hr T.jF (cH (bw fj (bw cN (aO bH bQ aj) (aO bH cL aj)) (bw cN (aO bH cL aj) (aO bH bQ aj))) (bw cN (aO bH bQ aj) (aO bH cL aj)))))),?_];refine nD (σ:=[some (.ref p),some (.ref q)]) rfl ?_
  try rw[iC]
  have hbd:0 < b*d:=eY hb hd;have sbd:Sz 8999000 (b*d):=(sb.mul sd).mono ();exists fW (show fJ _ _ from .inr #[_,_,sa,sd,()]) ?_;exists fW (show fJ _ _ from .inr #[_,_,sc,sb,()]) ?_;exists fW (show fJ _ _ from .inr #[_,_,sb,sd,()]) ?_;walk_at "w";exists #[_,_,rfl,(),sbd,λr H' s' h'=>?_];rw[if_neg (),if_neg ()] at h';exact k r H' s' h'
theorem FX:sC ["one","other"] 2 ve:=by walk_at "d"
theorem Gs (T:Txt K mg Z) (ac:bv P):T.pQ.o P w base 4 (zO K):=by
 refine T.pQ.F.k FX ?_;walk_at "i";obtain p|q|xs|ys|rfl|hp|hq|hl|h1000|sx|sy|k:=h;refine #[_,(av (aX (cu ["mine","yours"] [] [] (pN rfl T.zip (cH bQ cL)) (λ_=>(kN K 2 (cp (fo 0) (cp (fo 1) gP)))) (λ_=>cv) (λ_=>(cT (Q9 T ac) hr T.zm (cH bQ cL)))))),?_];walk_at "s"
 try rw[iC]
 obtain us|gu|qu:=id hp;obtain ws|gw|qw:=id hq;have lu:=qu.9;have lw:=qw.9;exists #[#[_,br.of gu],#[_,br.of gw],?_];refine oW (K:=K) (xs:=us) (ws:=ws) (λi zs H'=>aE H H'/\Yt (bY K H') ((W0 (λx y=>x+y) xs ys).take i) zs) ko () #[aE.refl _,.nil] (λi zs H' _ #[s,_]=>#[br.of (s _ _ gu),br.of (s _ _ gw)]) ?_ ?_
 ·rintro i u w zs H' r hu hw hlen ⟨s',pr⟩ hr;obtain x|ex|nx:=bO qu hu;obtain y|ey|ny:=bO qw hw;have sr:aE H' (upd H' r (.tup [u,w])):=aE.new hr;have gr:(upd H' r (.tup [u,w])) r=some (.tup [u,w]):=aD;generalize upd H' r (.tup [u,w])=H2 at sr gr ⊢;exists #[_,_,x,y,rfl,(nx.same s').same sr,(ny.same s').same sr,sx x (ai ex),sy y (ai ey),λr3 H3 s3 n3=>?_];refine #[(s'.trans sr).trans s3,?_];have ez:(W0 (λx y=>x+y) xs ys)[i]?=some (x+y):=by rw[bV,ex,ey]
  rw[take_snoc ez];exact bT (ce (λ_ _ z=>bY.same z (sr.trans s3)) pr) (.cons n3 .nil)
 rintro zs H' hz ⟨s',pr⟩ l hl';rw[aF (by rw[aT];lia)] at pr;exact k l _ (s'.none hl') (s'.trans (aE.new hl')) #[zs,aD,ce (λ_ _ z=>bY.same z (aE.new hl')) pr]
theorem xA:sC ["system","rows","fed_back","move"] 2 Ad:=by walk_at "d"
theorem LS (T:Txt K mg Z) (ac:bv P):T.uF.o P w base 7 (zY K Z.a_System):=by
 refine T.uF.F.k xA ?_;walk_at "i";obtain x|p|H0|H1|mv|pt|lk|F|rfl|S|D|GF_|lF|wF|C|k:=h
 refine #[_,(ak (fL 2 xA.nd (cT (BB T ac) hr T.h9 (Bj (cT (iq T ac) hr T.dY (cH (dB bQ rfl) (dB bQ rfl))) cL (dB bQ rfl))))
  (ak (jc 3 ["line","more"] [] [] xA.nd rfl rfl (pN rfl T.zip (cH (dB bQ rfl) fh)) (λ_=>(kN K 2 (cp (fo 0) (cp (fo 1) gP)))) (λ_=>cv) (λ_=>(cT (Gs T ac) hr T.pQ (cH bQ cL))))
  (av (aX (Ea T.mk_System (kd T ac) (hr.mono ()) rfl T.mg_System T.jh .nil Gn (Bj jC (dB bQ rfl) (dB bQ rfl))))))),?_]
 walk_at "s"
 try rw[iC]
 obtain dx|am|ap|al|gx|_|_|_|Gm|Gp|Gl:=id S;have d1:=D.n8;have d2:=D.i4;exists #[x,Z.a_System,dx,_,_,rfl,gx,T.cl_System,T.na_put,uB,?_];exists #[x,Z.a_System,dx,_,_,rfl,gx,T.cl_System,T.na_states,fA,?_];exists #[ap,mv.9,H0,pt,rfl,Gp,(),(),D.pw,λtp H2 ntp s2 G2=>?_];have gx2:=s2 _ _ gx;exists #[x,Z.a_System,dx,_,_,rfl,gx2,T.cl_System,T.na_states,fA,?_];exists #[tp,p,mv.9,H,H1,cx pt mv.9,F,rfl,G2,GF_.same s2,by rw[eK];lia,(),(),λxs hx=>#[by rw[mB xs hx,lF],λys hy=>C.f2 xs hx ys hy],wF,λfb H3 nfb s3 G3=>?_];have s13:=s2.trans s3;have gx3:=s13 _ _ gx;obtain ms|gm|qm|_:=Gm.same s13;obtain fs|gf|qf|_:=id G3;have lm:=qm.9;have lf:=qf.9;have lT:(ju (cx pt mv.9) F mv.9).9=mv.9:=by unfold ju;rw[af,eK]
 have wT:∀xs∈ju (cx pt mv.9) F mv.9,xs.9=mv.9:=λxs hx=>by
  obtain z|_|rfl:=au.mp hx;rw[af,eK]
 exists #[x,Z.a_System,dx,_,_,rfl,gx3,T.cl_System,T.na_move,tj,?_];exists #[#[_,br.of gm],#[_,br.of gf],?_];refine oW (K:=K) (xs:=ms) (ws:=fs) (λi ys H'=>aE H3 H'/\Yt (cC K H H') ((W0 (λline more=>W0 (λx y=>x+y) line more) mv (ju (cx pt mv.9) F mv.9)).take i) ys) ko () #[aE.refl _,.nil] (λi ys H' _ #[s,_]=>#[br.of (s _ _ gm),br.of (s _ _ gf)]) ?_ ?_
 ·rintro i u w ys H4 r4 hu hw hlen ⟨s4,pr4⟩ hr4;obtain line|el|qa|rfl|_|Ra:=bO qm hu;obtain more|em|qb|rfl|_|Rb:=bO qf hw;have ml:=ai el;have mm:=ai em;have sr:aE H4 (upd H4 r4 (.tup [.ref qa,.ref qb])):=aE.new hr4;have gr:(upd H4 r4 (.tup [.ref qa,.ref qb])) r4=some (.tup [.ref qa,.ref qb]):=aD;generalize upd H4 r4 (.tup [.ref qa,.ref qb])=H5 at sr gr ⊢;have s35:=s4.trans sr;exists #[qa,qb,line,more,rfl,Ra.same s35,Rb.same s35,by rw[wT more mm,D.mw line ml],by rw[D.mw line ml];lia,C.sm line ml,C.st more mm,λr6 H6 n6 s6 R6=>?_];refine #[s35.trans s6,?_];have ez:(W0 (λline more=>W0 (λx y=>x+y) line more) mv (ju (cx pt mv.9) F mv.9))[i]?=some (W0 (λx y=>x+y) line more):=by rw[bV,el,em]
  rw[take_snoc ez];exact bT (ce (λ_ _ z=>cC.same z (sr.trans s6)) pr4) (.cons #[r6,rfl,s13.none (s35.none n6),R6] .nil)
 rintro ys H4 hy ⟨s4,pr4⟩ mp hmp;have sn:aE H4 (upd H4 mp (.lst ys)):=aE.new hmp;have gn:(upd H4 mp (.lst ys)) mp=some (.lst ys):=aD;have nn:V.ref mp∉ys:=je #[H4,hmp,pr4];rw[aF (by rw[aT];lia),Sb D.mw lF] at pr4;generalize upd H4 mp (.lst ys)=H5 at sn gn ⊢;have GM:bg K H H5 mp (kx mv pt F):=#[ys,gn,ce (λ_ _ z=>cC.same z sn) pr4,nn];have s15:=s13.trans (s4.trans sn);have gx5:=s15 _ _ gx;exists #[x,Z.a_System,dx,_,_,rfl,gx5,T.cl_System,T.na_put,uB,?_];exists #[x,Z.a_System,dx,_,_,rfl,gx5,T.cl_System,T.na_look,NC,?_];walk_at "w";intro x2 dx2 nx ndx nex;have ok:=C.ok;exact #[x2,dx2,mp,ap,al,H5,H,H0,H0,_,_,_,rfl,nx,ndx,nex,rfl,GM,Gp.same s15,Gl.same s15,Cl81.sysd D,ok.1,ok.2.1,ok.2.2,λH' s' S'=>#[rfl,k x2 H' (s15.none nx) (s15.trans s') (S'.weak s15)]]
theorem jv:sC ["system","wish","wide","found","last","lines","sides","rows","mend"] 2 xB:=by walk_at "d"
theorem Jg (T:Txt K mg Z) (ac:bv P):T.mH.oX P w base 10 (zL K Z.a_System Z.a_NotSteered):=by
 refine T.mH.F.kX jv ?_;walk_at "i";obtain x|q|a|c|H0|mv|pt|lk|wish|rfl|S|D|SF|KF|SW|CS|ST|Rq|lq|k|ke:=h
 refine #[_,(ak (jd (Kv (uN T ac) (hr.mono ()) rfl T.d7.m T.d7.F.kp T.d7.b .nil Oi (dj bQ)))
  (ak (fL 2 jv.nd (dB bQ rfl))
  (ak (fL 3 jv.nd (cT (Oq T ac) hr T.wu (dj bQ)))
  (ak (jc 4 ["step"] ["wide"] [2] jv.nd rfl rfl (cm rfl T.range (dj (bw fj fh aj))) (λ_=>(fo 0)) (λ_=>cv) (λ_=>(fO (dj (Gj (bh fI bQ cL (bo _)) (mP (v:=.ref Z.a_ONE) rfl T.mg_ONE rfl) (mP (v:=.ref Z.a_NOUGHT) rfl T.mg_NOUGHT rfl))))))
  (ak (jc 5 ["state","given","end"] [] [] jv.nd rfl rfl (Q0 rfl T.zip (Bj (aO bH jC aj) (aO bH jC aj) uM)) (λ_=>(kN K 3 (cp (fo 0) (cp (fo 1) (cp (fo 2) gP))))) (λ_=>cv) (λ_=>(bw qH (bw qH bQ cL) fh)))
  (ak (fL 6 jv.nd (cT (iq T ac) hr T.dY (cH (cu ["line"] ["wide"] [2] (cM (cT (vz T ac) hr T.mI (cH (oP rC xO (pL aj) rW) (bw fj (bw fj fh (dB bQ rfl)) aj)))) (λ_=>(fo 0)) (λ_=>cv) (λ_=>(oP (NL K (by rfl)) bQ (pL cL) rW))) (bw fj (dB bQ rfl) aj))))
  (ak (fL 7 jv.nd (oP rC rd rW (pL (qS my aj))))
  (ak (fL 8 jv.nd (cT (Ot T ac) hr T.wB (Bj (cT (LS T ac) hr T.uF (cH bQ Bw)) (aO bA rd (qS my aj)) cL)))
  (av (aX (cu ["row","by"] ["mend"] [8] (pN rfl T.zip (cH Bw (aO bA (aO bH jC aj) aj))) (λ_=>(kN K 2 (cp (fo 0) (cp (fo 1) gP)))) (λ_=>cv) (λ_=>(cT (v7 T ac) hr T.kU (cH bQ (cT (v5 T ac) hr T.kT (cH cL fh)))))))))))))))),?_]
 walk_at "s"
 try rw[iC]
 obtain dx|am|ap|al|gx|m1|m2|m3|Gm|Gp|Gl:=id S;have d8:=D.n8;have i4:=D.i4;exists #[x,a,c,H0,mv,pt,lk,rfl,S,D,KF,SW,λRk pk H1 s1 KR full=>?_,λR ps r dx H' RR hf s' nr Rr hd=>ke R ps r dx H' RR hf s' nr Rr hd];exists #[x,Z.a_System,dx,_,_,rfl,(s1 _ _ gx),T.cl_System,T.na_states,fA,?_];exists #[x,H0,mv,pt,lk,Rk,pk,rfl,S.same s1,D,SF,KR,full,CS,λt a b sts pus H2 LD s2 gt Ga Gb C lp z01=>?_];have s12:=s1.trans s2;exists #[(),(),?_];rw[show (((mv.9:Nat):Int)+1).toNat=mv.9+1 by lia];obtain xa|ga|qa|_:=id Ga;obtain xb|gb|qb|_:=id Gb;have lxa:=qa.9;have lxb:=qb.9;have lC:=C.len;rw[ao,aQ] at lxb;refine iw (n:=mv.9+1) (cC K H) (λj=>[if j=mv.9 then (1:Rat) else 0]) () (λa b=>a.same b) ?_ ?_
 ·rintro j H3 NY NN hj s3 k1;exists iZ (λh0=>?_) (λh0=>?_)
  ·exists dU λl Hx sx nx gl=>?_
   refine k1 _ _ sx #[l,rfl,s12.none (s3.none nx),_,gl,.cons ?_ .nil];have e:j=mv.9:=by have:=of_decide_eq_true h0;lia
   rw[if_pos e];exact #[_,rfl,T.sq_ONE _]
  ·exists dU λl Hx sx nx gl=>?_
   refine k1 _ _ sx #[l,rfl,s12.none (s3.none nx),_,gl,.cons ?_ .nil];have e:j≠mv.9:=λz=>h0 (decide_eq_true (by rw[z]))
   rw[if_neg e];exact #[_,rfl,T.sq_NOUGHT _]
 rintro xl H3 l3 n3 s3 g3 p3 nx3;have lxl:=p3.9;rw[af,aN] at lxl;have ga3:=s3 _ _ ga;have gb3:=s3 _ _ gb;have gt3:=s3 _ _ gt;walk_at "w";unfold Tb;exists #[a,b,l3,rfl,#[_,br.of ga3],#[_,br.of gb3],#[_,br.of g3],?_];have s13:=s12.trans s3;refine ME (K:=K) (xs:=xa) (ws:=xb) (zs:=xl) (λi ys H'=>aE H3 H'/\Yt (cC K H H') ((kF sts (pus++[Mg pt.9 0]) mv.9).take i) ys) ko () () #[aE.refl _,.nil] (λi ys H' _ #[e,_]=>#[br.of (e _ _ ga3),br.of (e _ _ gb3),br.of (e _ _ g3)]) ?_ ?_
 ·rintro j u1 u2 u3 ys H4 r4 h1 h2 h3 hlen ⟨s4,pr4⟩ hr4;obtain st|es|q1|rfl|_|R1:=bO qa h1;obtain gv|eg|q2|rfl|_|R2:=bO qb h2;obtain en|ee|q3|rfl|_|R3:=bO p3 h3;have sr:aE H4 (upd H4 r4 (.tup [.ref q1,.ref q2,.ref q3])):=aE.new hr4;have gr:(upd H4 r4 (.tup [.ref q1,.ref q2,.ref q3])) r4=some (.tup [.ref q1,.ref q2,.ref q3]):=aD;generalize upd H4 r4 (.tup [.ref q1,.ref q2,.ref q3])=H5 at sr gr ⊢;obtain v1|w1|y1:=(R1.same s3).same (s4.trans sr);obtain v2|w2|y2:=(R2.same s3).same (s4.trans sr);obtain v3|w3|y3:=R3.same (s4.trans sr);have lv1:=y1.9;have lv2:=y2.9;have lv3:=y3.9;have c1:st.9=mv.9:=C.wide st (ai es)
  have c2:gv.9=pt.9:=by
   rcases aB.mp (ai eg) with z | z
   ·exact C.wpu gv z
   ·rw[aU.mp z];exact cE
  rw[aw] at ee;have jl:j < mv.9+1:=by have:=(aI.mp h1).1;lia
  rw[bI jl] at ee;cases ee;have c3:v3.9=1:=lv3.symm;exists qF w1 w2 ko λl5 H6 s6 n6 g6=>?_
  exists qF g6 (s6 _ _ w3) (dH (dk (by rw[ao];lia))) λl6 H7 s7 n7 g7=>?_
  have s57:=s6.trans s7;have s37:=(s4.trans sr).trans s57;refine #[s37,?_]
  have ez:(kF sts (pus++[Mg pt.9 0]) mv.9)[j]?=some (st++gv++[if j=mv.9 then 1 else 0]):=by
   unfold kF;rw[aw,bI jl];show some (sts.getD j []++(pus++[Mg pt.9 0]).getD j []++_)=_
   rw[aa (l:=sts),es,aa (l:=pus++_),eg];rfl
  rw[take_snoc ez];exact bT (ce (λ_ _ z=>cC.same z (sr.trans s57)) pr4) (.cons #[l6,rfl,s13.none ((s4.trans sr).none (s6.none n7)),_,g7,ce (λ_ _ z=>bY.same z s57) (bT (bT y1 y2) y3)] .nil)
 rintro yl H4 hyl ⟨s4,pr4⟩ l4 n4;rw[aF (by unfold kF;rw[af,aN];lia)] at pr4;have G4:bg K H (upd H4 l4 (.lst yl)) l4 (kF sts (pus++[Mg pt.9 0]) mv.9):=#[yl,aD,ce (λ_ _ z=>cC.same z (aE.new n4)) pr4,je #[_,n4,pr4]];have s44:aE H4 (upd H4 l4 (.lst yl)):=aE.new n4;generalize upd H4 l4 (.lst yl)=H5 at G4 s44 ⊢;have s15:=s13.trans (s4.trans s44);have gx5:=s15 _ _ gx;have lL:(kF sts (pus++[Mg pt.9 0]) mv.9).9=mv.9+1:=by unfold kF;rw[af,aN]
 have wg:∀xs∈pus++[Mg pt.9 (0:Rat)],xs.9=pt.9:=λxs hx=>by
  rcases aB.mp hx with z | z
  ·exact C.wpu xs z
  ·rw[aU.mp z];exact cE
 have wL:∀xs∈kF sts (pus++[Mg pt.9 0]) mv.9,xs.9=mv.9+pt.9+1:=λxs hx=>by
  unfold kF at hx;obtain j|hj|rfl:=au.mp hx;have hj':=dh.mp hj;rw[ao,ao,aQ]
  have e1:(sts.getD j []).9=mv.9:=by
   rw[aa,ae ()];exact C.wide _ (az _)
  have e2:((pus++[Mg pt.9 0]).getD j []).9=pt.9:=by
   rw[aa,ae (by rw[ao,aQ];lia)];exact wg _ (az _)
  lia
 obtain w|SL|SR:=ST sts pus C lp z01;obtain zl|gl5|ql5|_:=id G4;exists xN (br.of gl5) λl6 H6 s6 n6 g6=>?_
 rw[show (1:Int)=((1:Nat):Int) from rfl,HK] at g6;have q6:=mQ ql5 1;have G6:bg K H H6 l6 ((kF sts (pus++[Mg pt.9 0]) mv.9).drop 1):=#[_,g6,ce (λ_ _ z=>cC.same z s6) q6,je #[_,n6,q6]];have lD:((kF sts (pus++[Mg pt.9 0]) mv.9).drop 1).9=mv.9:=by rw[eV,lL];lia
 have s16:=s15.trans s6;have gx6:=s16 _ _ gx;exists #[x,Z.a_System,dx,_,_,rfl,gx6,T.cl_System,T.na_ins,vO,?_];walk_at "w";rw[show ((mv.9:Nat):Int)+((pt.9:Nat):Int)+1=((mv.9+pt.9+1:Nat):Int) by lia];refine #[l6,mv.9+pt.9+1,w,_,_,rfl,G6,(),(),λxs hx=>wL xs (md hx),SL,λr R ps M H7 nr s7 G7 RR kp M0 ML tp=>?_]
 have rk:ps.9=mv.9:=by
  have:=Pp C (by rw[lD,lp]) (λj hj c hc=>?_) RR
  ·lia
  ·unfold kF aS;rw[aa (l:=List.drop 1 _),uW,aw,bI (),ij 1 j];show (sts.getD (j+1) []++_++_).getD c 0=_
   have e1:(sts.getD (j+1) []).9=mv.9:=by
    rw[aa,ae ()];exact C.wide _ (az _)
   rw[cy,aa,bM (),<- aa]
 have Z6:=SR R ps RR rk;have lR:R.9=mv.9:=by rw[RR.1,rk]
 obtain xr|gr7|qr7|_:=id G7;have lxr:=qr7.9;exists #[#[_,br.of gr7],?_];have s17:=s16.trans s7;refine dS (K:=K) (F:=cC K H6) (cC K H) (λxs=>xs.drop mv.9) gr7 qr7 () (λa b=>a.same b) (λa b=>a.same b) ?_ ?_
 ·rintro j xs v H8 NY NN en s8 ⟨u,rfl,_,hu⟩ k1;obtain us|gu|qu:=id hu;exists xN (br.of gu) λl8 H9 s9 n9 g9=>?_
  rw[HK] at g9;exact k1 _ _ s9 #[l8,rfl,s17.none (s8.none n9),_,g9,ce (λ_ _ z=>bY.same z s9) (mQ qu mv.9)]
 rintro ys8 H8 r8 n8 s8 g8 pr8 nx8;have G8:bg K H H8 r8 (R.map (·.drop mv.9)):=#[ys8,g8,pr8,je nx8];have s18:=s17.trans s8;have gx8:=s18 _ _ gx;exists #[x,Z.a_System,dx,_,_,rfl,gx8,T.cl_System,T.na_ins,vO,?_];walk_at "w";rw[show ((pt.9:Nat):Int)+1=((pt.9+1:Nat):Int) by lia];refine #[r8,pt.9+1,H,_,rfl,G8,by rw[af];lia,(),λxs hx=>?_,λr9 H9 n9 s9 G9=>?_]
 ·obtain ys|hy|rfl:=au.mp hx;rw[eV,RR.2.1 ys hy]
  lia
 have s19:=s18.trans s9;have G9':bg K H H9 r9 (ic R mv.9 pt.9):=G9.weak s18;generalize hS:ic R mv.9 pt.9=S9 at G9';have lS:S9.9=pt.9+1:=by rw[<- hS];unfold ic;exact kr
 have wS:∀xs∈S9,xs.9=mv.9:=λxs hx=>by
  rw[<- hS] at hx;unfold ic cx at hx;obtain j|_|rfl:=au.mp hx;rw[af,af,lR]
 obtain x9|g9|q9|_:=id G9';have lx9:=q9.9;exists xN (br.of g9) λlA HA sA nA gA=>?_
 rw[Pk (show x9.9=pt.9+1 by lia)] at gA;have qA:=pO q9 pt.9;have GA:bg K H HA lA (S9.take pt.9):=#[_,gA,ce (λ_ _ z=>cC.same z sA) qA,je #[_,nA,qA]];have s1A:=s19.trans sA;exists #[x,lA,H0,H,mv,pt,lk,S9.take pt.9,rfl,S.same s1A,D,GA,by rw[bf];lia,λxs hx=>wS xs (ck hx),by rw[<- hS];exact Z6.cl,λxc HB nB sB SB=>?_];obtain ⟨v,ev⟩:∃v,x9[pt.9]?=some v:=#[_,ae ()];obtain sd|esd|qs|rfl|_|Rs:=bO q9 ev;have esd':S9.getD pt.9 []=sd:=by rw[aa,esd];rfl
 have sAB:=sA.trans sB;exists b7 (br.of (sAB _ _ g9)) (A4 (k:=pt.9) () ev) ?_;have lc:(kx mv pt (S9.take pt.9)).9=mv.9:=fw;have lsd:sd.9=mv.9:=wS sd (ai esd);have s1B:=s1A.trans sB;exists #[xc,qs,q,_,_,pt,lk,sd,wish,rfl,SB,Cl81.sysd D,Rs.same sAB,by rw[lc,lsd],Rq.same s1B,(),by rw[<- esd',<- hS];exact Z6.am,λrm HC sC RC=>?_];have MZ:=Z6.mz;rw[hS,esd'] at MZ;have lme:=yj (wish:=wish) (show sd.9=(kx mv pt (S9.take pt.9)).9 by rw[lc,lsd]) wish.9;rw[lc] at lme;obtain ⟨me,eme⟩:∃me,wW (kx mv pt (S9.take pt.9)) sd wish wish.9=me:=#[_,rfl];rw[eme] at RC MZ lme;have s1C:=s1B.trans sC;have s2C:=((((s3.trans (s4.trans s44)).trans s6).trans s7).trans s8).trans ((s9.trans sAB).trans sC);obtain ⟨v0,ev0⟩:∃v,xb[0]?=some v:=#[_,ae ()];obtain p0|ep0|qp|rfl|_|Rp0:=bO qb ev0;have ep0':(pus++[Mg pt.9 (0:Rat)]).getD 0 []=p0:=by rw[aa,ep0];rfl
 rw[ep0'] at MZ;have lp0:p0.9=pt.9:=wg p0 (ai ep0);obtain vp|gp0|qp0:=Rp0.same s2C;have lvp:=qp0.9;have gAC:=(sB.trans sC) _ _ gA;have qAC:=ce (λ_ _ z=>cC.same z (sAB.trans sC)) qA;have lqA:=qAC.9;rw[bf] at lqA;have gtC:=s2C _ _ gt;have gbC:=s2C _ _ gb
 have z0:∀z∈p0,z=0\/z=1:=λz hz=>by
  rcases aB.mp (ai ep0) with y | y
  ·exact z01 p0 y z hz
  ·rw[aU.mp y] at hz;exact .inl (gJ hz)
 have RZ:=Z6.rz;rw[hS] at RZ;exists b7 (br.of gbC) (dC (j:=0) ev0) ?_;exists #[#[_,br.of gAC],#[_,br.of gp0],?_];refine oW (K:=K) (xs:=x9.take pt.9) (ws:=vp) (λj ys H'=>aE HC H'/\Yt (cC K H H') ((W0 (λrow b=>W0 (λx y=>x - y) row (me.map λy=>b*y)) (S9.take pt.9) p0).take j) ys) (dH (dk (by rw[bf];lia))) (by rw[bf];lia) #[aE.refl _,.nil] (λj ys H' _ #[e,_]=>#[br.of (e _ _ gAC),br.of (e _ _ gp0)]) ?_ ?_
 ·rintro j u1 u2 ys HD rD h1 h2 hlen ⟨sD,prD⟩ hrD;obtain row|er|q1|rfl|_|R1:=bO qAC h1;obtain b0|eb|Nb:=bO qp0 h2;have mr:=ai er;have mb:=ai eb;have sr:aE HD (upd HD rD (.tup [.ref q1,u2])):=aE.new hrD;have gr:(upd HD rD (.tup [.ref q1,u2])) rD=some (.tup [.ref q1,u2]):=aD;generalize upd HD rD (.tup [.ref q1,u2])=HE at sr gr ⊢;have sCE:=sD.trans sr;exists #[u2,rm,b0,me,rfl,Nb.same sCE,Ue (z0 b0 mb),RC.same sCE,(),λz hz=>(MZ z hz).1,λt6 H6 n6 s6 R6=>?_];exists #[q1,t6,row,_,rfl,R1.same (sCE.trans s6),R6,by rw[af,lme,wS row (ck mr)],by rw[wS row (ck mr)];lia,RZ row mr,λz hz=>?_,λt7 H7 n7 s7 R7=>?_]
  ·obtain y|hy|rfl:=au.mp hz;exact (MZ y hy).2 b0 mb
  refine #[(sCE.trans s6).trans s7,?_];have ez:(W0 (λrow b=>W0 (λx y=>x - y) row (me.map λy=>b*y)) (S9.take pt.9) p0)[j]?=some (W0 (λx y=>x - y) row (me.map λy=>b0*y)):=by rw[bV,er,eb]
  rw[take_snoc ez];exact bT (ce (λ_ _ z=>cC.same z ((sr.trans s6).trans s7)) prD) (.cons #[t7,rfl,s1C.none (sCE.none (s6.none n7)),R7] .nil)
 rintro ys HD hy ⟨sD,prD⟩ rr nrr;rw[aF (by rw[aT,bf,bf];lia)] at prD
 have wG:∀xs∈W0 (λrow b=>W0 (λx y=>x - y) row (me.map λy=>b*y)) (S9.take pt.9) p0,xs.9=mv.9:=λxs hx=>by
  obtain j|hj|rfl:=bN hx;rw[dn,aT,af,lme,wS _ (ck (az _)),jZ]
 obtain Ma|Mb|a0|ab|b0'|bb|fa|fb:=Z6.gz;rw[hS,esd',eme] at fb;rw[hS] at fa;have K4:=Rz (G:=W0 (λrow b=>W0 (λx y=>x - y) row (me.map λy=>b*y)) (S9.take pt.9) p0) (F:=S9.take pt.9) D C lp RR rk lq (by rw[hS]) (by rw[hS];exact esd'.symm) eme.symm ep0'.symm rfl;refine k Rk pk rr _ _ ((s1C.trans sD).trans (aE.new nrr)) KR full (s1C.none (sD.none nrr)) #[ys,aD,ce (λ_ _ z=>cC.same z (aE.new nrr)) prD,je #[_,nrr,prD]] (by rw[aT,bf];lia) wG #[#[K4.1,Ma*Mb,b8 a0 b0',ag (aP ab bb) (by rw[<- bG];exact eF ()),λxs hx z hz=>?_],K4.2] #[sts,pus,R,ps,C,LD,lp,RR,by rw[hS,esd',eme,ep0']];obtain j|hj|rfl:=bN hx;rw[dn] at hz;obtain c9|hc9|rfl:=bN hz;rw[dn,cK];have f1:=(fa _ (az (l:=S9.take pt.9) (n:=j) (by rw[aT] at hj;lia)) _ (az (n:=c9) (by rw[aT] at hc9;lia))).dvd (lU Ma Mb);have f2:=(fb _ (az (l:=me) (n:=c9) (by rw[aT,af] at hc9;lia))).dvd (iE Mb Ma);have mj:=az (l:=p0) (n:=j) (by rw[aT] at hj;lia);rw[show (2:Nat)^12001=2^12000+2^12000 by rw[c7,Nat.mul_two]];exact Vm f1 f2 (z0 _ mj)
theorem DM:sC ["_law_system","_law_wish_here"] 2 tK:=by walk_at "d"
theorem rY (T:Txt K mg Z) (ac:bv P):T.jH.o P w base 11 (Cu K Z.a_System):=by
 refine T.jH.F.k DM ?_;walk_at "i";obtain sy|wq|H0|mv|pt|lk|R|ps|wish|rfl|A|Rw|lw|ST|RR|ky|kn:=h
 refine #[_,(av (UP rfl rfl (λ_ _ _ hX=>(av (aX (c8 (cH Ai (Oh (Jg T ac) (hr.mono ()) rfl T.mH.m T.mH.F.kp T.mH.b .nil hX (cH bQ cL)))))))
  (WT rfl rfl T.mg_NotSteered (λ_=>(av (aX (c8 (cH Ai Jd))))) Vg))),?_]
 walk_at "s"
 try rw[iC]
 obtain a|c|KF|_|_:=A.Y.un.kf;exists Ut ?_;exists Ob ?_;exists #[sy,wq,a,c,H0,mv,pt,lk,wish,rfl,A.S,A.D,A.F,KF,λR ps RR=>#[(A.Y.un.sw RR).1,(A.Y.un.sw RR).2.1],A.Y.cs,ST,Rw,lw,λR' ps' r7 G H7 s7 RR' full n7 G7 lG wG KP DT=>?_,λR' ps' r dq H7 RR' lt s7 n7 R7 g7=>?_]
 ·obtain _|rfl:=RR.same RR';exists cw λt H8 s8 g8=>?_
  exact ky full t r7 G H8 (s7.trans s8) g8 n7 (G7.same s8) lG wG KP DT
 ·obtain _|rfl:=RR.same RR';refine .inl #[T.xm_NotSteered_NotSteered,λea=>?_];exists cw λt H8 s8 g8=>?_
  exact kn lt t H8 (s7.trans s8) g8
theorem DR:sC ["_law_one","_law_other"] 2 tX:=by walk_at "d"
theorem Em (T:Txt K mg Z) (ac:bv P):T.oh.o P w base 2 (oE K (λx y=>x - y)):=by
 refine T.oh.F.ok DR (λvs H Q E h=>?_) (λcdv A outer s H vs Q E hr h=>?_)
 ·obtain p|q|a|b|c|d|rfl|hp|hq|hb|hd|sa|sb|sc|sd|k:=zg h;rfl
 ·obtain p|q|a|b|c|d|rfl|hp|hq|hb|hd|sa|sb|sc|sd|k:=zg h;refine #[_,(av (aX (cT (fQ T ac) hr T.dR (cH (bw jy (bw cN (aO bH bQ aj) (aO bH cL aj)) (bw cN (aO bH cL aj) (aO bH bQ aj))) (bw cN (aO bH bQ aj) (aO bH cL aj)))))),?_];refine nD (σ:=[some (.ref p),some (.ref q)]) rfl ?_
  try rw[iC]
  have hbd:0 < b*d:=eY hb hd;have sbd:Sz 8999000 (b*d):=(sb.mul sd).mono ();exists fW (show fJ _ _ from .inr #[_,_,sa,sd,()]) ?_;exists fW (show fJ _ _ from .inr #[_,_,sc,sb,()]) ?_;exists fW (show fJ _ _ from .inr #[_,_,sb,sd,()]) ?_;walk_at "w";exists #[_,_,rfl,hbd,sbd,k]
theorem Bu:sC ["_law_one","_law_other"] 2 rT:=by walk_at "d"
theorem uU (T:Txt K mg Z) (ac:bv P):T.jT.o P w base 3 (xu K):=by
 refine T.jT.F.k Bu ?_;walk_at "i";obtain p|q|xs|ys|rfl|hp|hq|hl|hz|h1|h2|kk:=h;refine #[_,(av (aX (cu ["_law_k"] ["_law_one","_law_other"] [0,1] (cm rfl T.range (dj (bF bc (by rfl) T.len aW (dj bQ)))) (λ_=>(fo 0)) (λ_=>cv) (λ_=>(cT (Em T ac) hr T.oh (cH (aO (nH K (by rfl)) cL bQ) (aO (nH K (by rfl)) fh bQ))))))),?_];walk_at "s"
 try rw[iC]
 obtain us|gu|qu:=id hp;obtain ws|gw|qw:=id hq;have lu:=qu.9;exists #[_,_,rfl,.inl (br.of gu),?_];exists #[(),(),?_];refine iw (n:=us.9) (bY K) (λi=>xs.getD i 0 - ys.getD i 0) () (λa b=>a.same b) ?_ ?_
 ·rintro i H' NY NN hi s k1;have ix:i < xs.9:=()
  have iy:i < ys.9:=()
  obtain vx|ex|nx:=Eu (ce (λ_ _ z=>z.same s) qu) ix;obtain vy|ey|ny:=Eu (ce (λ_ _ z=>z.same s) qw) iy;exists b7 (br.of (s _ _ gu)) ex ?_;exists b7 (br.of (s _ _ gw)) ey ?_;exists #[_,_,_,_,rfl,nx,ny,h1 _ (getD_mem ix),h2 _ (getD_mem iy),λr3 H3 s3 n3=>k1 _ _ s3 n3]
 ·rintro ys' H' l hl' s g pr nx;exact kk l H' hl' s #[ys',g,by rw[IJ ()];rw[<- lu] at pr;exact pr]
theorem iI:sC ["_law_bag_here","_law_n","_law_last","_law_wish_here","_law_move_here","_law_system"] 1 tW:=by walk_at "d"
theorem El (T:Txt K mg Z) (ac:bv P):T.og.o P w base 12 (CH K):=by
 refine T.og.F.k iI ?_;walk_at "i";obtain b|rfl|B0|k:=h
 refine #[_,(ak (fL 1 iI.nd (bw fj aj (cT (bU T ac) hr T.bx (cH bQ aj))))
  (ak (jc 2 ["_law_k"] ["_law_bag_here"] [0] iI.nd rfl rfl (cm rfl T.range (dj cL)) (λ_=>(fo 0)) (λ_=>cv) (λ_=>(c8 (cH (bw jy (cT (bU T ac) hr T.bx (cH cL aj)) aj) aj))))
  (ak (jc 3 ["_law_k"] ["_law_bag_here"] [0] iI.nd rfl rfl (cm rfl T.range (dj cL)) (λ_=>(fo 0)) (λ_=>cv) (λ_=>(c8 (cH (bw jy (cT (bU T ac) hr T.bx (cH cL aj)) aj) (bw fj aj (cT (bU T ac) hr T.bx (cH cL aj)))))))
  (ak (jc 3 ["_law_one"] [] [] iI.nd rfl rfl (cM jC) (λ_=>(fo 0)) (λ_=>cv) (λ_=>(cT (fQ T ac) hr T.dR (cH (aO (uH K (by rfl)) bQ aj) (aO (uH K (by rfl)) bQ aj)))))
  (ak (jc 4 ["_law_i"] ["_law_n"] [1] iI.nd rfl rfl (cm rfl T.range (dj (bw jy cL aj))) (λ_=>(fo 0)) (λ_=>cv) (λ_=>(cu ["_law_j"] ["_law_i"] [0] (cm rfl T.range (dj cL)) (λ_=>(fo 0)) (λ_=>cv) (λ_=>(c8 (cH (eN oA (by rfl) T.int YR (dj (ig fI bQ (bw fj cL aj) (bo _)))) aj))))))
  (ak (jd (uR cW cJ cI iV uM (dj (eN (iY K (by rfl)) (by rfl) T.list YD (dj fh)))))
  (ak (fL 5 iI.nd (Ea T.mk_System (kd T ac) (hr.mono ()) rfl T.mg_System T.jh .nil Gn (Bj uM (fO (dj (cu ["_law_j"] ["_law_n"] [1] (cm rfl T.range (dj cL)) (λ_=>(fo 0)) (λ_=>cv) (λ_=>(c8 (cH (eN oA (by rfl) T.int YR (dj (ig fI bQ (bw jy cL aj) (bo _)))) aj)))))) (fO jx))))
  (av (aX (ig (xU (BK hr)) (cT (rY T ac) hr T.jH (cH xO (eN (iY K (by rfl)) (by rfl) T.list YD (dj jC)))) (c8 (cH Ai (fO (dj (cT (uU T ac) hr T.jT (cH jC fh)))))) (bo _))))))))))),?_]
 walk_at "s"
 try rw[iC]
 exists #[b,3,rfl,B0,(),(),λv H1 v0 v1 B1 u1=>?_];obtain v|rfl:=pd v0;obtain ⟨n,en,n6,n8⟩:∃n:Nat,(6:Int)+(v:Int)=(n:Int)/\6<=n/\n<=8:=#[6+v,(),(),()];walk_at "w";rw[en];exists #[(),(),?_];refine yh (n:=n) (b:=b) (bY K) (Fr 1 2) B1 () (λa u B=>a.upto u B) ?_ ?_
 ·rintro j Ha NY NN hj ua Ba k1;exists #[b,5,rfl,Ba,(),(),λv Hb v0 v1 Bb ub=>?_];exists cw λt Hc sc gc=>?_
  exact k1 _ ((v - 2:Int):Rat) _ (ub.same sc) (Bb.same sc) (Fr.int ()) (bY.mk gc rfl)
 rintro ys1 ls H2 lr nlr u2 B2 gl1 ll hl1 prl _;have Rl:df K H2 lr ls:=#[ys1,gl1,prl];have lrb:lr≠b:=λz=>B1.at (by rw[<- z];exact nlr)
 exists #[(),(),?_];refine yh (n:=n) (b:=b) (PN b) (λc:Int×Int=>c.1.natAbs<=4/\1<=c.2/\c.2<=3) B2 () (λa u _=>a.upto u) ?_ ?_
 ·rintro j Ha NY NN hj ua Ba k1;exists #[b,9,rfl,Ba,(),(),λv Hb v0 v1 Bb ub=>?_];exists #[b,3,rfl,Bb,(),(),λv2 Hc v20 v21 Bc uc=>?_];exists cw λt Hd sd gd=>?_
  have Bd:=Bc.same sd;exact k1 _ (v - 4,1+v2) _ ((ub.trans uc).same sd) Bd #[by show (v - 4).natAbs<=4;lia,by show 1<=1+v2;lia,by show 1+v2<=3;lia] #[t,rfl,(λz=>by obtain _|_|_|_|_|e|_:=Bd;rw[<- z,gd] at e;cases e),gd]
 rintro ys2 cs H3 wr nwr u3 B3 gw3 lc hc3 prc _;have lys2:=prc.9;have Rl3:=Rl.upto u3 B2 lrb;exists #[#[_,br.of gw3],?_];refine dS (K:=K) (F:=PN b) (bY K) (λc:Int×Int=>(c.1:Rat) / (c.2:Rat)) gw3 prc () (λ#[t,e,n,g] s=>#[t,e,n,s _ _ g]) (λa s=>a.same s) ?_ ?_
 ·rintro j cc x Ha NY NN ej sa ⟨t,rfl,tb,gt⟩ k1;obtain h1|h2|h3:=hc3 cc (ai ej);exists #[_,_,rfl,(),aZ (show _<=3 by lia) (bD (show 3 < 2^2 by decide) (eF ())),λr Hb sb gb=>?_];exact k1 _ _ sb (bY.mk gb (S7 h1 h2 h3).2)
 rintro ys3 H4 w4 nw4 s4 gw4 prw _;obtain ⟨wish,ew⟩:∃wish,(cs.map λc:Int×Int=>(c.1:Rat) / (c.2:Rat))=wish:=#[_,rfl];rw[ew] at prw;have lw:wish.9=n:=by rw[<- ew,af,lc]
 have Wt:∀z∈wish,Tp 6 (2^480) z:=λz hz=>by
  rw[<- ew] at hz;obtain cc|hc|rfl:=au.mp hz;obtain h1|h2|h3:=hc3 cc hc;exact Tp.of (S7 h1 h2 h3).1 (ag (show 4*6<=2^5 by decide) (eF ()))
 have szw:∀z∈wish,jV z:=λz hz=>j7 (Wt z hz) () (ag (show 6<=2^3 by decide) (eF ())) (eF ())
 have szl:∀z∈ls,jV z:=λz hz=>yc () (bC (n:=0)) (show 2<=2^1 by decide) () (hl1 z hz)
 have Rw:df K H4 w4 wish:=#[ys3,gw4,prw];have Rl4:=Rl3.same s4;clear prw prc ew gw3 gw4 hc3 nlr nwr nw4 lys2 lc u2 u3 Rl Rl3 prl gl1;exists #[(),(),?_];rw[show (((n:Nat):Int) - 1).toNat=n - 1 by lia];refine iw (n:=n - 1) (cC K H4) (λ(i:Nat)=>(Yq n).map λ(j:Nat)=>(((if decide ((j:Int)=(i:Int)+1)=true then 1 else 0:Int)):Rat)) () (λa b=>a.same b) ?_ ?_
 ·rintro i Hb NY NN hi sa k1;exists #[(),(),?_];refine iw (n:=n) (bY K) (λ(j:Nat)=>(((if decide ((j:Int)=(i:Int)+1)=true then 1 else 0:Int)):Rat)) () (λa b=>a.same b) ?_ ?_
  ·rintro j Hz NY2 NN2 hj sz k2;exists cw λt Hy sy gy=>?_
   exact k2 _ _ sy (bY.mk gy rfl)
  ·rintro ys Hz t ht sz g pr nx;exact k1 _ _ sz #[t,rfl,sa.none ht,ys,g,pr]
 rintro ys He mp nmp se ge pre nxe;have nne:=je nxe;have lye:=pre.9;rw[af,aN] at lye;obtain lv|glv|qlv:=id (Rl4.same se);exists #[.inl #[rfl,_,br.of ge],?_];exists #[lr,lv,rfl,.inl (br.of glv),λf hf=>?_];have sf:aE He (upd He f (.lst lv)):=aE.new hf;have gf:(upd He f (.lst lv)) f=some (.lst lv):=aD;generalize upd He f (.lst lv)=Hf at sf gf ⊢;have gef:=sf _ _ ge;have fm:f≠mp:=λz=>by rw[z,ge] at hf;cases hf
 exists iT gef (dk ()) ?_;have P1:=vw (o:=.lst (ys++[.ref f])) gef (ce (λ_ _ z=>cC.same z sf) pre) nne;have P2:=bT P1 (.cons #[f,rfl,se.none hf,df.updL #[lv,gf,ce (λ_ _ z=>bY.same z sf) qlv] gef fm] .nil);rw[Sa ()] at P2
 have Gm:bg K H4 (upd Hf mp (.lst (ys++[.ref f]))) mp (mL n ls):=#[_,aD,P2,λz=>by
  rcases aB.mp z with z | z
  ·exact nne z
  ·cases aU.mp z;exact fm rfl]
 have s5:aE H4 (upd Hf mp (.lst (ys++[.ref f]))):=(se.trans sf).after nmp;clear P1 P2 pre nxe nne lye glv qlv gf gef fm ge sf se;generalize upd Hf mp (.lst (ys++[.ref f]))=H5 at Gm s5 ⊢;exists #[(),(),?_];refine iw (n:=n) (bY K) (λ(j:Nat)=>if ((j:Nat):Int)=((n - 1:Nat):Int) then (1:Rat) else 0) () (λa b=>a.same b) ?_ ?_
 ·rintro j Hz NY2 NN2 hj sz k2;exists cw λt Hy sy gy=>?_
  refine k2 _ _ sy (bY.mk gy ?_);by_cases z:((j:Nat):Int)=((n - 1:Nat):Int)
  ·rw[if_pos z,decide_eq_true ()];rfl
  ·rw[if_neg z,decide_eq_false ()];rfl
 rintro yp H6 pr nup s6 gp prp _;have Rp:df K H6 pr (jP n ((n - 1:Nat):Int)):=#[yp,gp,prp];exists dU λe1 H7 s7 n7 g7=>?_
 have np1:pr≠e1:=λz=>by rw[<- z,gp] at n7;cases n7
 exists dU λe2 H8 s8 n8' g8=>?_
 have Gp:bg K H5 H8 e1 [jP n ((n - 1:Nat):Int)]:=#[_,s8 _ _ g7,.cons #[pr,rfl,nup,(Rp.same s7).same s8] .nil,λz=>by
  cases aU.mp z;exact np1 rfl]
 have s58:=(s6.trans s7).trans s8;have D:=U7 ll n8;have B:=Er ll n8 hl1;have SF:=OH ll n8 hl1;have ok:=SF.sf.ok;walk_at "w";intro x3 dx3 nx3 ndx3 nex3;refine #[x3,dx3,mp,e1,e2,H8,H4,H5,H7,mL n ls,[jP n ((n - 1:Nat):Int)],[],rfl,nx3,ndx3,nex3,rfl,Gm.same s58,Gp,#[[],g8,.nil,λz=>nomatch z],D,ok.1,ok.2.1,ok.2.2,λH9 s9 S9=>#[rfl,?_]];have Y:=Rv B D ok.2.2;obtain ka|kc|KF|_:=Y.pr;obtain R|ps|_|_|SR:=xK (jB (mv:=mL n ls) (pt:=[jP n ((n - 1:Nat):Int)]) rfl D.pw (mL n ls).9) (KF.swf D.n8 D.mw D.pw (ah _));have RR:=SR.rr
 have full:ps.9=(mL n ls).9:=by
  have r:=RR;rw[jg] at r ⊢;exact L9 ll r
 have A:MV K Z.a_System H8 H9 x3 (mL n ls) [jP n ((n - 1:Nat):Int)] []:=#[S9,D,SF,Y];have s49:=(s5.trans s58).trans s9;obtain wv|gwv|qwv:=id (Rw.same s49);clear SR KF ok B SF S9 Gm Gp g8 g7 gp prp Rp;exists #[w4,wv,rfl,.inl (br.of gwv),λcq nc=>?_];have sc:aE H9 (upd H9 cq (.lst wv)):=aE.new nc;have Rc:df K (upd H9 cq (.lst wv)) cq wish:=#[wv,aD,ce (λ_ _ z=>bY.same z sc) qwv];generalize upd H9 cq (.lst wv)=Hc at sc Rc ⊢;exists #[x3,cq,H8,_,_,[],R,ps,wish,rfl,A.same sc,Rc,by rw[jg];exact lw,Y.st wish 6 (by rw[jg];exact lw) () (ag (show 6<=2^3 by decide) (eF ())) Wt,RR,λ_ t2 g G H2' s2 g2 ng Gg lG wG KP DT=>?_,λlt=>absurd full ()];have eG:=OI ll () lw lG (λxs hx=>by rw[wG xs hx,jg]) KP;subst eG;have s42:=s49.trans (sc.trans s2);exists #[w4,lr,wish,ls,rfl,Rw.same s42,Rl4.same s42,by rw[ll,lw],(),szw,szl,λr HA nr sA RA=>?_];obtain zv|gz|_:=id RA;exists dU λlB HB sB nB gB=>?_
 have rB:r≠lB:=λz=>by rw[<- z,gz] at nB;cases nB
 exists cw λtC HC sC gC=>?_
 have s2C:=(sA.trans sB).trans sC;exists #[_,_,Ta WK AO,(YV "yes",[W0 (λx y=>x - y) wish ls]),(YV "yes",[W0 (λx y=>x - y) wish ls]),(),#[t2,_,_,rfl,pA.of (s2C _ _ g2),rfl,(Gg.same s2C).kind],#[tC,_,_,rfl,pA.of gC,rfl,lB,_,rfl,br.of (sC _ _ gB),.cons ((RA.same (sB.trans sC)).kind) .nil],?_];rw[decide_eq_true rfl];exact k _
theorem BX:∃x1 x2 x3 x4 x5 x6 x7 x8 x9 x10 x11 x12 x13 x14 x15 x16:Expr,x1=(Yz (YG 0) 0 #[349,16,349,17])/\x2=(Yz (YG 1) 0 #[349,19,349,20])/\x3=(Yz (YG 1) 0 #[349,22,349,23])/\x4=(Yz (YG 1) 0 #[349,25,349,26])/\x5=(Yz (YG 2) 0 #[349,28,349,29])/\x6=(Yz (YG 2) 0 #[349,31,349,32])/\x7=(Yz (YG 3) 0 #[349,34,349,35])/\x8=(Yz (YG 4) 0 #[349,37,349,38])/\x9=(Yz (YG 0) 0 #[350,17,350,18])/\x10=(Yz (YG 1) 0 #[350,20,350,21])/\x11=(Yz (YG 1) 0 #[350,23,350,24])/\x12=(Yz (YG 1) 0 #[350,26,350,27])/\x13=(Yz (YG 2) 0 #[350,29,350,30])/\x14=(Yz (YG 2) 0 #[350,32,350,33])/\x15=(Yz (YG 3) 0 #[350,35,350,36])/\x16=(Yz (YG 4) 0 #[350,38,350,39])/\iL nV=[ (ZQ (targets:=[(YK "_law_n" #[346,4,346,10])]) (value:=(ZP (func:=(YK "_law_take" #[346,13,346,22])) (args:=[ (YK "_law_bag_here" #[346,23,346,36]),(Yz (YG 5) 0 #[346,38,346,39])]) (keywords:=[]) (pos:=#[346,13,346,40]))) (pos:=#[346,4,346,40])),(Stmt.If (test:=(Expr.Compare (left:=(ZP (func:=(YK "_law_take" #[347,7,347,16])) (args:=[ (YK "_law_bag_here" #[347,17,347,30]),(Yz (YG 8) 0 #[347,32,347,33])]) (keywords:=[]) (pos:=#[347,7,347,34]))) (ops:=[PySem.CmpOp.Eq]) (comparators:=[(Yz (YG 7) 0 #[347,38,347,39])]) (pos:=#[347,7,347,39]))) (body:=[ (ZQ (targets:=[(YK "_law_n" #[348,8,348,14])]) (value:=(Yz (YG 5) 0 #[348,17,348,18])) (pos:=#[348,8,348,18]))]) (orelse:=[]) (pos:=#[347,4,348,18])),(ZQ (targets:=[(YK "_law_ins" #[349,4,349,12])]) (value:=(Expr.Subscript (value:=(Expr.List (elts:=[x1,x2,x3,x4,x5,x6,x7,x8]) (pos:=#[349,15,349,39]))) (slice:=(ZP (func:=(YK "_law_take" #[349,40,349,49])) (args:=[ (YK "_law_bag_here" #[349,50,349,63]),(Yz (YG 8) 0 #[349,65,349,66])]) (keywords:=[]) (pos:=#[349,40,349,67]))) (pos:=#[349,15,349,68]))) (pos:=#[349,4,349,68])),(ZQ (targets:=[(YK "_law_outs" #[350,4,350,13])]) (value:=(Expr.Subscript (value:=(Expr.List (elts:=[x9,x10,x11,x12,x13,x14,x15,x16]) (pos:=#[350,16,350,40]))) (slice:=(ZP (func:=(YK "_law_take" #[350,41,350,50])) (args:=[ (YK "_law_bag_here" #[350,51,350,64]),(Yz (YG 8) 0 #[350,66,350,67])]) (keywords:=[]) (pos:=#[350,41,350,68]))) (pos:=#[350,16,350,69]))) (pos:=#[350,4,350,69])),(Stmt.If (test:=(Expr.Compare (left:=(YK "_law_n" #[351,7,351,13])) (ops:=[PySem.CmpOp.Eq]) (comparators:=[(Yz (YG 5) 0 #[351,17,351,18])]) (pos:=#[351,7,351,18]))) (body:=[ (ZQ (targets:=[ (Expr.Tuple (elts:=[(YK "_law_ins" #[352,8,352,16]),(YK "_law_outs" #[352,18,352,27])]) (k:=0) (pos:=#[352,8,352,27]))]) (value:=(Expr.Tuple (elts:=[ (ZP (func:=(YK "min" #[352,31,352,34])) (args:=[ (YK "_law_ins" #[352,35,352,43]),(Yz (YG 2) 0 #[352,45,352,46])]) (keywords:=[]) (pos:=#[352,31,352,47])),(ZP (func:=(YK "min" #[352,49,352,52])) (args:=[ (YK "_law_outs" #[352,53,352,62]),(Yz (YG 2) 0 #[352,64,352,65])]) (keywords:=[]) (pos:=#[352,49,352,66]))]) (k:=0) (pos:=#[352,30,352,67]))) (pos:=#[352,8,352,67]))]) (orelse:=[]) (pos:=#[351,4,352,67])),(ZQ (targets:=[(YK "_law_wide" #[353,4,353,13])]) (value:=(Expr.Subscript (value:=(Expr.List (elts:=[ (Yz (YG 4) 0 #[353,17,353,18]),(Yz (YG 4) 0 #[353,20,353,21]),(Yz (YG 9) 0 #[353,23,353,24]),(Yz (YG 1000) 0 #[353,26,353,30])]) (pos:=#[353,16,353,31]))) (slice:=(ZP (func:=(YK "_law_take" #[353,32,353,41])) (args:=[ (YK "_law_bag_here" #[353,42,353,55]),(Yz (YG 4) 0 #[353,57,353,58])]) (keywords:=[]) (pos:=#[353,32,353,59]))) (pos:=#[353,16,353,60]))) (pos:=#[353,4,353,60])),(Stmt.If (test:=(Expr.Compare (left:=(YK "_law_wide" #[354,7,354,16])) (ops:=[PySem.CmpOp.Gt]) (comparators:=[(Yz (YG 9) 0 #[354,19,354,20])]) (pos:=#[354,7,354,20]))) (body:=[ (ZQ (targets:=[(YK "_law_n" #[355,8,355,14])]) (value:=(ZP (func:=(YK "min" #[355,17,355,20])) (args:=[ (YK "_law_n" #[355,21,355,27]),(Yz (YG 2) 0 #[355,29,355,30])]) (keywords:=[]) (pos:=#[355,17,355,31]))) (pos:=#[355,8,355,31]))]) (orelse:=[]) (pos:=#[354,4,355,31])),(Stmt.Return (value:=(some (Expr.Tuple (elts:=[ (YK "_law_n" #[356,12,356,18]),(YK "_law_ins" #[356,20,356,28]),(YK "_law_outs" #[356,30,356,39]),(YK "_law_wide" #[356,41,356,50])]) (k:=0) (pos:=#[356,11,356,51])))) (pos:=#[356,4,356,51]))]:=#[_,_,_,_,_,_,_,_,_,_,_,_,_,_,_,_,rfl,rfl,rfl,rfl,rfl,rfl,rfl,rfl,rfl,rfl,rfl,rfl,rfl,rfl,rfl,rfl,by with_unfolding_all rfl]
theorem fP:sC ["_law_bag_here","_law_n","_law_ins","_law_outs","_law_wide"] 1 nV:=by walk_at "d"
theorem BE (T:Txt K mg Z) (ac:bv P):T.mY.o P w base 2 Ly:=by
 refine T.mY.F.k fP ?_;walk_at "i";obtain b|rfl|hB|k:=h;obtain x1|x2|x3|x4|x5|x6|x7|x8|x9|x10|x11|x12|x13|x14|x15|x16|hx1|hx2|hx3|hx4|hx5|hx6|hx7|hx8|hx9|hx10|hx11|hx12|hx13|hx14|hx15|hx16|hbd:=BX;rw[hbd]
 refine #[_,(ak (fL 1 fP.nd (cT (bU T ac) hr T.bx (cH bQ aj)))
  (ku (dw (bh fI (cT (bU T ac) hr T.bx (cH bQ aj)) aj (bo _)) (av (fL 1 fP.nd aj)) cg)
  (ak (fL 2 fP.nd (aO bA (fO (fH hx1 aj (fH hx2 aj (fH hx3 aj (fH hx4 aj (fH hx5 aj (fH hx6 aj (fH hx7 aj (fH hx8 aj jx))))))))) (cT (bU T ac) hr T.bx (cH bQ aj))))
  (ak (fL 3 fP.nd (aO bA (fO (fH hx9 aj (fH hx10 aj (fH hx11 aj (fH hx12 aj (fH hx13 aj (fH hx14 aj (fH hx15 aj (fH hx16 aj jx))))))))) (cT (bU T ac) hr T.bx (cH bQ aj))))
  (ku (dw (bh fI cL aj (bo _)) (av (Oc (i:=2) (j:=3) rfl fP.nd rfl rfl () rfl rfl (cH (bF (uJ rfl) (by rfl) T.min Za (cH fh aj)) (bF (uJ rfl) (by rfl) T.min Za (cH jC aj))) rfl)) cg)
  (ak (fL 4 fP.nd (aO bA (fO (PY aj aj aj aj)) (cT (bU T ac) hr T.bx (cH bQ aj))))
  (ku (dw (bh An uM aj (bo _)) (av (fL 1 fP.nd (bF (uJ rfl) (by rfl) T.min Za (cH cL aj)))) cg)
  (av (aX (c8 (PY cL fh jC uM))))))))))),?_]
 walk_at "s"
 try rw[iC]
 exists #[b,5,rfl,hB,(),(),λn H1 n0 n1 B1 u1=>?_];obtain n|rfl:=pd n0;exists #[λσ' H'=>(∃n:Nat,σ'=[some (.ref b),some (.int n),none,none,none]/\n<=5)/\kH H' b/\dD b H H',?_,?_]
 ·exists #[b,8,rfl,B1,(),(),λv H2 v0 v1 B2 u2=>?_];exists iZ (λ_=>?_) (λ_=>?_)
  ·exists #[#[5,rfl,()],B2,u1.trans u2]
  ·exists #[#[n,rfl,()],B2,u1.trans u2]
 clear n0 n1 u1 B1;rintro σ' H1 ⟨⟨n,rfl,n5⟩,B1,u1⟩;exists dU λl0 H2 s2 n2 g2=>?_
 exists #[b,8,rfl,B1.same s2,(),(),λv H3 v0 v1 B3 u3=>?_];have g3:=u3.other (λz=>B1.at (by rw[<- z];exact n2)) g2;obtain x|ex|mx|_:=uw (xs:=[V.int 0,V.int 1,V.int 1,V.int 1,V.int 2,V.int 2,V.int 3,V.int 4]) v0 (by simpa using v1)
 obtain ⟨i,rfl,hi⟩:∃z:Nat,x=.int z/\z<=4:=by
  simp only[ay,aH,or_false] at mx;rcases mx with rfl | rfl | rfl | rfl | rfl | rfl | rfl | rfl
  ·exact #[0,rfl,()]
  ·exact #[1,rfl,()]
  ·exact #[1,rfl,()]
  ·exact #[1,rfl,()]
  ·exact #[2,rfl,()]
  ·exact #[2,rfl,()]
  ·exact #[3,rfl,()]
  ·exact #[4,rfl,()]
 exists b7 (br.of g3) ex ?_;clear ex mx g3 g2;exists dU λl1 H4 s4 n4 g4=>?_
 exists #[b,8,rfl,B3.same s4,(),(),λt H5 t0 t1 B5 u5=>?_];have g5:=u5.other (λz=>B3.at (by rw[<- z];exact n4)) g4;obtain x|ex|mx|_:=uw (xs:=[V.int 0,V.int 1,V.int 1,V.int 1,V.int 2,V.int 2,V.int 3,V.int 4]) t0 (by simpa using t1)
 obtain ⟨o,rfl,ho⟩:∃z:Nat,x=.int z/\z<=4:=by
  simp only[ay,aH,or_false] at mx;rcases mx with rfl | rfl | rfl | rfl | rfl | rfl | rfl | rfl
  ·exact #[0,rfl,()]
  ·exact #[1,rfl,()]
  ·exact #[1,rfl,()]
  ·exact #[1,rfl,()]
  ·exact #[2,rfl,()]
  ·exact #[2,rfl,()]
  ·exact #[3,rfl,()]
  ·exact #[4,rfl,()]
 exists b7 (br.of g5) ex ?_;clear ex mx g5 g4;have u15:=(((u1.same s2).trans u3).same s4).trans u5;exists #[λσ' H'=>(∃i o:Nat,σ'=[some (.ref b),some (.int n),some (.int i),some (.int o),none]/\i<=4/\o<=4/\(n=5->i<=2/\o<=2))/\kH H' b/\dD b H H',?_,?_]
 ·exists iZ (λh0=>?_) (λh0=>?_)
  ·exists #[#[min i 2,min o 2,?_,(),(),λ_=>#[(),()]],B5,u15];have e1:(if (2:Int) < (i:Int) then (2:Int) else (i:Int))=((min i 2:Nat):Int):=by split <;> lia
   have e2:(if (2:Int) < (o:Int) then (2:Int) else (o:Int))=((min o 2:Nat):Int):=by split <;> lia
   rw[<- e1,<- e2];rfl
  ·exists #[#[i,o,rfl,hi,ho,λz=>absurd (decide_eq_true (show (n:Int)=5 by lia)) h0],B5,u15]
 clear hi ho u15 B5 u5 u3 u1;rintro σ' H5 ⟨⟨i,o,rfl,hi,ho,h5⟩,B5,u5⟩;exists dU λl2 H6 s6 n6 g6=>?_
 exists #[b,4,rfl,B5.same s6,(),(),λv H7 v0 v1 B7 u7=>?_];have g7:=u7.other (λz=>B5.at (by rw[<- z];exact n6)) g6;obtain x|ex|mx|_:=uw (xs:=[V.int 4,V.int 4,V.int 9,V.int 1000]) v0 (by simpa using v1)
 obtain ⟨w,rfl,hw⟩:∃w:Nat,x=.int w/\(w=4\/w=9\/w=1000):=by
  simp only[ay,aH,or_false] at mx;rcases mx with rfl | rfl | rfl | rfl
  ·exact #[4,rfl,.inl rfl]
  ·exact #[4,rfl,.inl rfl]
  ·exact #[9,rfl,.inr (.inl rfl)]
  ·exact #[1000,rfl,.inr (.inr rfl)]
 exists b7 (br.of g7) ex ?_;have u07:=(u5.same s6).trans u7;exists #[λσ' H'=>(∃n:Nat,σ'=[some (.ref b),some (.int n),some (.int i),some (.int o),some (.int w)]/\n<=5/\(w=4\/w=9\/(w=1000/\n<=2))/\(n=5->i<=2/\o<=2))/\kH H' b/\dD b H H',?_,?_]
 ·exists iZ (λh0=>?_) (λh0=>?_)
  ·exists #[#[min n 2,?_,(),(),λz=>()],B7,u07];have e1:(if (2:Int) < (n:Int) then (2:Int) else (n:Int))=((min n 2:Nat):Int):=by split <;> lia
   rw[<- e1];rfl
  ·exists #[#[n,rfl,n5,?_,h5],B7,u07];rcases hw with z | z | z
   ·exact .inl z
   ·exact .inr (.inl z)
   ·exact absurd (decide_eq_true (show (9:Int) < (w:Int) by lia)) h0
 ·clear h5 n5;rintro σ' H8 ⟨⟨n',rfl,n5,hwn,h5⟩,B8,u8⟩;exists cw λr H9 s9 g9=>?_
  exact k r n' i o w H9 g9 n5 hi ho hwn h5 (B8.same s9) (u8.same s9)
theorem tx:sC ["_law_bag_here","_law_wide","_law_way"] 2 qB:=by walk_at "d"
theorem Az (T:Txt K mg Z) (ac:bv P):T.lH.o P w base 2 (zP K):=by
 refine T.lH.F.k tx ?_;walk_at "i";obtain b|w|rfl|hB|w0|w1|k:=h
 refine #[_,(ak (fL 2 tx.nd (cT (bU T ac) hr T.bx (cH bQ aj)))
  (ak (dw (bh oR fh aj (bo _)) (av (aX (c8 (cH aj aj)))) cg)
  (ak (dw (bh oR fh aj (bo _)) (av (aX (c8 (cH (bw jy (cT (bU T ac) hr T.bx (cH bQ aj)) aj) aj)))) cg)
  (ak (dw (bh fI fh aj (bo _)) (av (aX (cT (fQ T ac) hr T.dR (cH (bw jy (cT (bU T ac) hr T.bx (cH bQ aj)) aj) (bw fj aj (cT (bU T ac) hr T.bx (cH bQ aj))))))) cg)
  (av (aX (cT (fQ T ac) hr T.dR (cH (bw jy (cT (bU T ac) hr T.bx (cH bQ (bw fj (bw cN aj cL) aj))) cL) (bw fj aj (cT (bU T ac) hr T.bx (cH bQ cL))))))))))),?_]
 walk_at "s"
 try rw[iC]
 exists #[b,8,rfl,hB,(),(),λv H1 v0 v1 B1 u1=>?_];exists iZ (λh0=>?_) (λh0=>?_)
 ·exists cw λr H2 s2 g2=>?_
  exact k r 0 _ #[a8 _,by show 1<=_;lia] (bY.mk g2 rfl) (B1.same s2) (u1.same s2)
 exists iZ (λh1=>?_) (λh1=>?_)
 ·exists #[b,7,rfl,B1,(),(),λa H2 a0 a1 B2 u2=>?_];exists cw λr H3 s3 g3=>?_
  exact k r ((a - 3:Int):Rat) _ #[by show (a - 3).natAbs<=_;lia,by show 1<=_;lia] (bY.mk g3 rfl) (B2.same s3) ((u1.trans u2).same s3)
 exists iZ (λh2=>?_) (λh2=>?_)
 ·exists #[b,13,rfl,B1,(),(),λa H2 a0 a1 B2 u2=>?_];exists #[b,6,rfl,B2,(),(),λc H3 c0 c1 B3 u3=>?_];exists #[_,_,rfl,(),(NB ()).mono (),λr H4 s4 g4=>?_];obtain q|e|d|_:=OG (t:=a - 6) (b:=1+c) (W:=max w 6) () () ();exact k r q _ d (bY.mk g4 e) (B3.same s4) (((u1.trans u2).trans u3).same s4)
 exists #[b,_,rfl,B1,(),(),λa H2 a0 a1 B2 u2=>?_];exists #[b,_,rfl,B2,(),(),λc H3 c0 c1 B3 u3=>?_];exists #[_,_,rfl,(),(NB ()).mono (),λr H4 s4 g4=>?_];obtain q|e|d|_:=OG (t:=a - w) (b:=1+c) (W:=max w 6) () () ();exact k r q _ d (bY.mk g4 e) (B3.same s4) (((u1.trans u2).trans u3).same s4)
theorem F3:sC ["_law_bag_here","_law_many","_law_wide"] 3 vh:=by walk_at "d"
theorem pP (T:Txt K mg Z) (ac:bv P):T.iF.o P w base 3 (FT K):=by
 refine T.iF.F.k F3 ?_;walk_at "i";obtain b|m|w|rfl|hB|hm|w0|w1|k:=h;refine #[_,(av (aX (cu ["_law_k"] ["_law_bag_here","_law_wide"] [0,2] (cm rfl T.range (dj cL)) (λ_=>(fo 0)) (λ_=>cv) (λ_=>(cT (Az T ac) hr T.lH (cH cL fh)))))),?_];walk_at "s"
 try rw[iC]
 exists #[(),(),?_];refine yh (n:=m) (bY K) (Dr (max w 6)) hB hm (λa u B=>a.upto u B) ?_ ?_
 ·rintro i H' NY NN hi u B k1;exists #[b,w,rfl,B,w0,w1,λr x H2 hx h2 B2 u2=>k1 _ x _ u2 B2 hx h2]
 ·rintro ys cs H' p hp u B g lc hc pr nx;exact k p cs H' hp #[ys,g,pr] lc hc B u
theorem kJ:sC ["_law_bag_here","_law_n","_law_way","_law_first","_law_wide","_law_move_here","_law_i","_law_row_here","_law_j"] 5 tU:=by walk_at "d"
theorem Ej (T:Txt K mg Z) (ac:bv P):T.nZ.o P w base 4 (FO K):=by
 refine T.nZ.F.k kJ ?_;walk_at "i";obtain b|n|w|way|first|rfl|hB|n8|w0|w1|k:=h
 refine #[_,(ak (fL 5 kJ.nd (fO jx))
  (ak (eL Yv rfl (cm rfl T.range (dj cL)) (fo 6 kJ.nd)
   (ak (fL 7 kJ.nd (cT (pP T ac) hr T.iF (Bj bQ cL uM)))
  (ak (eL Yv rfl (cm rfl T.range (dj cL)) (fo 8 kJ.nd)
   (ku (dw (PW.pt (j9 (bh fI fh aj (bo _)) (kL (bh An (cT (bU T ac) hr T.bx (cH bQ aj)) aj (bo _))))) (av (gM (c8 (cH aj aj)) (gX Bw Iw set_list))) cg)
  (ku (dw (PW.pt (j9 (bh fI fh aj (bo _)) (kL (bh oR (bw fj rd aj) cL (bo _))))) (av (gM (c8 (cH (eN oA (by rfl) T.int YR (dj (ig fI Iw (bw fj rd aj) (bo _)))) aj)) (gX Bw Iw set_list))) cg)
  (ku (dw (PW.pt (sP (PW.pt (j9 (bh fI fh aj (bo _)) (j9 (bh Ao rd jC (bo _)) (kL (bh oR Iw jC (bo _)))))) (nQ (PW.pt (j9 (bh fI fh aj (bo _)) (j9 (bh oR rd jC (bo _)) (kL (bh Ao Iw jC (bo _))))))))) (av (gM (c8 (cH aj aj)) (gX Bw Iw set_list))) cg)
  (av (dw (bh fI fh aj (bo _)) (av (gM (c8 (cH (bw cN (aO bA (fO (PY aj aj (qS my aj) aj)) (bw qG jC aj)) (eN oA (by rfl) T.int YR (dj (ig fI rd Iw (bo _))))) aj)) (gX Bw Iw set_list))) cg))))))
  (av (jd (uR cW cJ cI iV xO (dj Bw)))))))
  (av (aX xO)))),?_]
 walk_at "s"
 try rw[iC]
 have W1:1<=max w 6:=()
 exists dU λr H1 s1 n1 g1=>?_
 have rb:r≠b:=λz=>hB.at (by rw[<- z];exact n1)
 obtain q0|I0|xs0|gq0:=hB.inner;have I1:Inner H1 b q0:=(s1.upto (p:=b)).2 _ I0;obtain ⟨A,eA⟩:∃A:Addr->Prop,A=λq=>H q=none/\q≠r:=#[_,rfl]
 have nb:¬A b:=by rw[eA];exact λz=>hB.at z.1
 have nr:¬A r:=by rw[eA];exact λz=>z.2 rfl
 have nq:¬A q0:=by rw[eA];exact λz=>by have z1:=z.1;rw[gq0] at z1;cases z1
 have rq:r≠q0:=λz=>by rw[<- z,n1] at gq0;cases gq0
 exists #[(),(),?_];refine dZ (n:=n) (λi σ' H'=>∃(x1 x2 x3:Option V) (us:List V),σ'=[some (.ref b),some (.int n),some (.int way),some (.int first),some (.int w),some (.ref r),x1,x2,x3]/\H' r=some (.lst us)/\us.9=i/\us.Nodup/\(∀x∈us,iP K A H' n (Dr (max w 6)) x)/\kH H' b/\Inner H' b q0/\dD b H H') #[none,none,none,[],rfl,g1,rfl,iH,(λ_ z=>nomatch z),hB.same s1,I1,s1.upto] ?_ ?_
 ·rintro i σ' H' hi ⟨x1,x2,x3,us,rfl,gu,lu,nd,ru,B',I',u'⟩;exists #[b,n,w,rfl,B',(),w0,w1,λp xs Ha np Ra la da Ba ua=>?_];have hp0:H p=none:=u'.none B' np
  have pn:V.ref p∉us:=λz=>by
   obtain q'|_|_|e'|_|g'|_:=(ru _ z).at;cases e';rw[np] at g';cases g'
  have ap':H p=none/\p≠r:=#[hp0,λz=>by rw[z,gu] at np;cases np];have ap:A p:=by rw[eA];exact ap'
  have X0:Ll K A n (Dr (max w 6)) r p b q0 us H Ha:=#[ua.other rb gu,λx hx=>(ru x hx).upto ua B' nb,#[p,xs,rfl,ap,Ra,la,da],Ba,ua.2 _ I',u'.trans ua];clear ru Ra gu;exists #[(),(),?_];refine dZ (n:=n) (λj σ' H'=>(∃x3,σ'=[some (.ref b),some (.int n),some (.int way),some (.int first),some (.int w),some (.ref r),some (.int i),some (.ref p),x3])/\Ll K A n (Dr (max w 6)) r p b q0 us H H') #[#[_,rfl],X0] ?_ ?_
  ·rintro j σ' Hj hj ⟨⟨x3,rfl⟩,X⟩;exists #[λσ' H'=>σ'=[some (.ref b),some (.int n),some (.int way),some (.int first),some (.int w),some (.ref r),some (.int i),some (.ref p),some (.int j)]/\Ll K A n (Dr (max w 6)) r p b q0 us H H',?_,?_]
   ·exists iZ (λ_=>?_) (λ_=>?_)
    ·exists #[b,3,rfl,X.bag,(),(),λd Hd d0 d1 Bd ud=>?_];replace X:=X.upto ud Bd nb rb
     repeat' (first | walk_at "rd" | refine iZ (λ_=>?_) (λ_=>?_))
     all_goals first
      | exact ⟨rfl,X⟩
      | (refine cw λt Hb sb gb=>?_;walk_at "w";obtain zs|gz|lz|Xz:=(X.same sb).put ap nr nb nq hp0 (bY.mk (q:=0) gb rfl) (uo (i:=0) (a8 _) W1) j;refine fg gz (fu ()) rfl ?_;exact #[rfl,Xz])
    ·exists #[rfl,X]
   clear X;rintro σ' Hj ⟨rfl,X⟩;refine #[λσ' H'=>σ'=[some (.ref b),some (.int n),some (.int way),some (.int first),some (.int w),some (.ref r),some (.int i),some (.ref p),some (.int j)]/\Ll K A n (Dr (max w 6)) r p b q0 us H H',?_,?_]
   ·repeat' (first | walk_at "rd" | refine iZ (λ_=>?_) (λ_=>?_))
    all_goals first
     | exact ⟨rfl,X⟩
     | (refine cw λt Hb sb gb=>?_;walk_at "w";obtain zs|gz|lz|Xz:=(X.same sb).put ap nr nb nq hp0 (bY.mk (q:=((if decide ((j:Int)=(i:Int)+1)=true then (1:Int) else 0:Int):Rat)) gb rfl) (uo (by split <;> lia) W1) j;refine fg gz (fu ()) rfl ?_;exact #[rfl,Xz])
   clear X;rintro σ' Hj ⟨rfl,X⟩;refine #[λσ' H'=>σ'=[some (.ref b),some (.int n),some (.int way),some (.int first),some (.int w),some (.ref r),some (.int i),some (.ref p),some (.int j)]/\Ll K A n (Dr (max w 6)) r p b q0 us H H',?_,?_]
   ·repeat' (first | walk_at "rd" | refine iZ (λ_=>?_) (λ_=>?_))
    all_goals first
     | exact ⟨rfl,X⟩
     | (refine cw λt Hb sb gb=>?_;walk_at "w";obtain zs|gz|lz|Xz:=(X.same sb).put ap nr nb nq hp0 (bY.mk (q:=0) gb rfl) (uo (i:=0) (a8 _) W1) j;refine fg gz (fu ()) rfl ?_;exact #[rfl,Xz])
   clear X;rintro σ' Hj ⟨rfl,X⟩;exists iZ (λ_=>?_) (λ_=>?_)
   ·exists dU λl0 Hc sc nc gc=>?_
    walk_at "w";obtain x|ex|mx|_:=uw (xs:=[V.int 2,V.int 1,V.int (-1),V.int 0]) (i:=first % 4) (ox _ ()) (by have:=j4 first (show (0:Int) < 4 by decide);simpa using this)
    obtain ⟨z,rfl,hz⟩:∃z:Int,x=.int z/\z.natAbs<=2:=by
     simp only[ay,aH,or_false] at mx;rcases mx with rfl | rfl | rfl | rfl
     ·exact #[2,rfl,()]
     ·exact #[1,rfl,()]
     ·exact #[-1,rfl,()]
     ·exact #[0,rfl,()]
    refine b7 (br.of gc) ex ?_;exists fW (La () ()) ?_;exists cw λt Hb sb gb=>?_
    walk_at "w";obtain zs|gz|lz|Xz:=((X.same sc).same sb).put ap nr nb nq hp0 (bY.mk (q:=((z*(if decide ((i:Int)=(j:Int))=true then (1:Int) else 0):Int):Rat)) gb rfl) (uo (by split <;> lia) W1) j;refine fg gz (fu ()) rfl ?_;exact #[#[_,rfl],Xz]
   ·exists #[#[_,rfl],X]
  ·rintro σ' Hj ⟨⟨x3,rfl⟩,X⟩;exists #[.inl #[rfl,_,br.of X.gr],?_];exists iT X.gr (dk ()) ?_;refine #[_,_,_,us++[.ref p],rfl,aD,by simp [lu],AD nd pn,λx hx=>?_,X.bag.upd X.inn rb rq,X.inn.upd rb,X.up.after n1];rcases aB.mp hx with hx | hx
   ·exact (X.ru x hx).other X.gr nr
   ·have e:x=V.ref p:=by simpa using hx
    rw[e];exact X.rp.other X.gr nr
 ·rintro σ' H' ⟨x1,x2,x3,us,rfl,gu,lu,nd,ru,B',I',u'⟩;exists k r us H' n1 gu lu nd (by rw[eA] at ru;exact ru) B' u'
theorem F1:sC ["_law_one","_law_other"] 2 vg:=by walk_at "d"
theorem kv (T:Txt K mg Z) (ac:bv P):T.gU.o P w base 2 (oE K (λx y=>x+y)):=by
 refine T.gU.F.ok F1 (λvs H Q E h=>?_) (λcdv A outer s H vs Q E hr h=>?_)
 ·obtain p|q|a|b|c|d|rfl|hp|hq|hb|hd|sa|sb|sc|sd|k:=zA h;rfl
 ·obtain p|q|a|b|c|d|rfl|hp|hq|hb|hd|sa|sb|sc|sd|k:=zA h;refine #[_,(av (aX (cT (fQ T ac) hr T.dR (cH (bw fj (bw cN (aO bH bQ aj) (aO bH cL aj)) (bw cN (aO bH cL aj) (aO bH bQ aj))) (bw cN (aO bH bQ aj) (aO bH cL aj)))))),?_];refine nD (σ:=[some (.ref p),some (.ref q)]) rfl ?_
  try rw[iC]
  have hbd:0 < b*d:=eY hb hd;have sbd:Sz 8999000 (b*d):=(sb.mul sd).mono ();exists fW (show fJ _ _ from .inr #[_,_,sa,sd,()]) ?_;exists fW (show fJ _ _ from .inr #[_,_,sc,sb,()]) ?_;exists fW (show fJ _ _ from .inr #[_,_,sb,sd,()]) ?_;walk_at "w";exists #[_,_,rfl,hbd,sbd,k]
theorem DP:sC ["_law_one","_law_other"] 2 tQ:=by walk_at "d"
theorem wd (T:Txt K mg Z) (ac:bv P):T.lE.o P w base 3 (zO K):=by
 refine T.lE.F.k DP ?_;walk_at "i";obtain p|q|xs|ys|rfl|hp|hq|hl|hz|h1|h2|kk:=h;refine #[_,(av (aX (cu ["_law_k"] ["_law_one","_law_other"] [0,1] (cm rfl T.range (dj (bF bc (by rfl) T.len aW (dj bQ)))) (λ_=>(fo 0)) (λ_=>cv) (λ_=>(cT (kv T ac) hr T.gU (cH (aO (nH K (by rfl)) cL bQ) (aO (nH K (by rfl)) fh bQ))))))),?_];walk_at "s"
 try rw[iC]
 obtain us|gu|qu:=id hp;obtain ws|gw|qw:=id hq;have lu:=qu.9;exists #[_,_,rfl,.inl (br.of gu),?_];exists #[(),(),?_];refine iw (n:=us.9) (bY K) (λi=>xs.getD i 0+ys.getD i 0) () (λa b=>a.same b) ?_ ?_
 ·rintro i H' NY NN hi s k1;have ix:i < xs.9:=()
  have iy:i < ys.9:=()
  obtain vx|ex|nx:=Eu (ce (λ_ _ z=>z.same s) qu) ix;obtain vy|ey|ny:=Eu (ce (λ_ _ z=>z.same s) qw) iy;exists b7 (br.of (s _ _ gu)) ex ?_;exists b7 (br.of (s _ _ gw)) ey ?_;exists #[_,_,_,_,rfl,nx,ny,h1 _ (getD_mem ix),h2 _ (getD_mem iy),λr3 H3 s3 n3=>k1 _ _ s3 n3]
 ·rintro ys' H' l hl' s g pr nx;exact kk l H' hl' s #[ys',g,by rw[Lq ()];rw[<- lu] at pr;exact pr]
theorem DO:sC ["_law_one","_law_other"] 2 tP:=by walk_at "d"
theorem nW (T:Txt K mg Z) (ac:bv P):T.iK.o P w base 2 (oE K (λx y=>x*y)):=by
 refine T.iK.F.ok DO (λvs H Q E h=>?_) (λcdv A outer s H vs Q E hr h=>?_)
 ·obtain p|q|a|b|c|d|rfl|hp|hq|hb|hd|sa|sb|sc|sd|k:=zj h;rfl
 ·obtain p|q|a|b|c|d|rfl|hp|hq|hb|hd|sa|sb|sc|sd|k:=zj h;refine #[_,(av (aX (cT (fQ T ac) hr T.dR (cH (bw cN (aO bH bQ aj) (aO bH cL aj)) (bw cN (aO bH bQ aj) (aO bH cL aj)))))),?_];refine nD (σ:=[some (.ref p),some (.ref q)]) rfl ?_
  try rw[iC]
  have hbd:0 < b*d:=eY hb hd;have sbd:Sz 8999000 (b*d):=(sb.mul sd).mono ();exists fW (show fJ _ _ from .inr #[_,_,sa,sc,()]) ?_;exists fW (show fJ _ _ from .inr #[_,_,sb,sd,()]) ?_;walk_at "w";exists #[_,_,rfl,hbd,sbd,k]
theorem IW:sC ["_law_by_here","_law_row_here"] 2 xJ:=by walk_at "d"
theorem rZ (T:Txt K mg Z) (ac:bv P):T.kh.o P w base 3 (IS K):=by
 refine T.kh.F.k IW ?_;walk_at "i";obtain u|q|c|ys|rfl|hc|sc|hq|hz|h2|kk:=h;refine #[_,(av (aX (cu ["_law_one"] ["_law_by_here"] [0] (cM cL) (λ_=>(fo 0)) (λ_=>cv) (λ_=>(cT (nW T ac) hr T.iK (cH cL bQ)))))),?_];walk_at "s"
 try rw[iC]
 obtain us|gu|qu:=id hq;exists #[#[_,br.of gu],?_];refine dS (K:=K) (F:=bY K) (bY K) (λy=>c*y) gu qu hz (λa b=>a.same b) (λa b=>a.same b) ?_ ?_
 ·rintro i y x H' NY NN en s hx k;exists #[_,_,_,_,rfl,hc.same s,hx,sc,h2 y (ai en),λr H2 s2 h2'=>k _ _ s2 h2']
 ·rintro ys' H' r hr s g pr nx;exact kk r H' hr s #[ys',g,pr]
theorem fe:sC ["_law_bag_here","_law_move_here","_law_put","_law_look","_law_n","_law_turn","_law_i","_law_j","_law_by_here","_law_less_here","_law_row_here"] 4 rS:=by walk_at "d"
theorem BI (T:Txt K mg Z) (ac:bv P):T.m7.o P w base 4 (CG K):=by
 refine T.m7.F.k fe ?_;walk_at "i";obtain b|m|p|l|q0|n|WV|μ|A|us|ws|vs|rfl|MA|X|n8|i4|o4|M0|M1|⟨M,eM⟩|V1|hA|k:=h
 refine #[_,(ak (fL 4 fe.nd (bF bc (by rfl) T.len aW (dj cL)))
  (ak (dw (PW.pt (sP (bh oR uM aj (bo _)) (nQ (bh fI (cT (bU T ac) hr T.bx (cH bQ aj)) aj (bo _))))) (av (aX (c8 (Bj cL fh jC)))) cg)
  (ak (eL Yv rfl (cm rfl T.range (dj (bw fj aj (cT (bU T ac) hr T.bx (cH bQ aj))))) (fo 5 fe.nd)
   (ak (fL 6 fe.nd (cT (bU T ac) hr T.bx (cH bQ uM)))
  (ak (fL 7 fe.nd (bw qG (bw fj (bw fj rd aj) (cT (bU T ac) hr T.bx (cH bQ (bw jy uM aj)))) uM))
  (ak (fL 8 fe.nd (c8 (cH (aO bA (fO (PY aj (qS my aj) aj (qS my aj))) (cT (bU T ac) hr T.bx (cH bQ aj))) aj)))
  (ak (fL 9 fe.nd (c8 (cH (bw jy aj (aO bH Iw aj)) aj)))
  (ak (gM (cT (wd T ac) hr T.lE (cH (aO bA cL rd) (cT (rZ T ac) hr T.kh (cH Iw (aO bA cL Bw))))) (gX cL rd set_list))
  (ak (eL Yv rfl (cM (bw qH cL jC)) (fo 10 fe.nd)
   (av (gM (cT (kv T ac) hr T.gU (cH (aO bA (pv 10) Bw) (cT (nW T ac) hr T.iK (cH (pv 9) (aO bA (pv 10) rd))))) (gX (pv 10) Bw set_list))))
  (av (eL Yv rfl (cM fh) (fo 10 fe.nd)
   (av (gM (cT (kv T ac) hr T.gU (cH (aO bA (pv 10) rd) (cT (nW T ac) hr T.iK (cH Iw (aO bA (pv 10) Bw))))) (gX (pv 10) rd set_list))))))))))))
  (av (aX (c8 (Bj cL fh jC))))))),?_]
 walk_at "s"
 try rw[iC]
 have done:∀r us' H' t,t<=3->H' r=some (.tup [.ref m,.ref p,.ref l])->lW K A H' n (λx=>Fr (μ x) (9^t*WV)) m p l b q0 us' ws vs->jL A b m H H'->Q (.ref r) H':=λr us' H' t ht g x kp=>k r us' H' g (x.weak λ_ _ y h=>h.mono (ax _ (ar () ht))) kp
 have X0:lW K A H n (λx=>Fr (μ x) (9^0*WV)) m p l b q0 us ws vs:=X.weak λ_ _ y h=>h.mono (by simp)
 clear X k;have gu:=X0.gm;have lu:=X0.lm;exists #[_,_,rfl,.inl (br.of gu),?_];rw[lu];clear gu lu;have kp0:jL A b m H H:=λ_ _ h _ _ _=>h
 exists iZ (λh0=>?_) (λh0=>?_)
 ·exists cw λr H' s' g'=>?_
  exact done r us H' 0 () g' (X0.same s') (kp0.same s')
 have n2:2<=n:=by
  rcases aR n 2 with z | z
  ·exact absurd (decide_eq_true (show (n:Int) < 2 by lia)) h0
  ·exact z
 exists #[b,2,rfl,X0.bag,(),(),λv H1 v0 v1 B1 u1=>?_];have X1:=X0.upto MA u1 B1;have kp1:=kp0.upto u1;exists iZ (λh1=>?_) (λh1=>?_)
 ·exists cw λr H' s' g'=>?_
  exact done r us H' 0 () g' (X1.same s') (kp1.same s')
 exists #[b,3,rfl,B1,(),(),λc H2 c0 c1 B2 u2=>?_];have X2:=X1.upto MA u2 B2;have kp2:=kp1.upto u2;clear X0 X1 kp0 kp1 u1 u2 B1;exists #[(),(),?_];refine dZ (n:=(1+c).toNat) (λt σ' H'=>∃(x1 x2 x3 x4 x5 x6:Option V) (us:List V),σ'=[some (.ref b),some (.ref m),some (.ref p),some (.ref l),some (.int n),x1,x2,x3,x4,x5,x6]/\lW K A H' n (λx=>Fr (μ x) (9^t*WV)) m p l b q0 us ws vs/\jL A b m H H') #[none,none,none,none,none,none,us,rfl,X2,kp2] ?_ ?_
 ·rintro t σ' H' ht ⟨x1,x2,x3,x4,x5,x6,us,rfl,X,kp⟩;have t3:t<=2:=()
  exists #[b,n,rfl,X.bag,(),(),λii Ha i0 i1 Ba ua=>?_];obtain ii|rfl:=pd i0;have Xa:=X.upto MA ua Ba;have kpa:=kp.upto ua;exists #[b,_,rfl,Ba,(),(),λd Hb d0 d1 Bb ub=>?_];have Xb:=Xa.upto MA ub Bb;have kpb:=kpa.upto ub;exists fW (show (0:Int) < n by lia) ?_;have j0:=ox ((ii:Int)+1+d) (show (n:Int)≠0 by lia);have j1:=j4 ((ii:Int)+1+d) (show (0:Int) < n by lia);generalize ((ii:Int)+1+d) % (n:Int)=jj at j0 j1 ⊢;obtain jj|rfl:=pd j0;exists dU λl0 Hc sc nc gc=>?_
  exists #[b,4,rfl,Bb.same sc,(),(),λv' Hd v0' v1' Bd ud=>?_];have gd:=ud.other (λz=>Bb.at (by rw[<- z];exact nc)) gc;obtain x|ex|mx|_:=uw (xs:=[V.int 1,V.int (-1),V.int 2,V.int (-2)]) v0' (by simpa using v1')
  obtain ⟨z,rfl,hz⟩:∃z:Int,x=.int z/\z.natAbs<=2:=by
   simp only[ay,aH,or_false] at mx;rcases mx with rfl | rfl | rfl | rfl
   ·exact #[1,rfl,()]
   ·exact #[-1,rfl,()]
   ·exact #[2,rfl,()]
   ·exact #[-2,rfl,()]
  have Xd:=(Xb.same sc).upto MA ud Bd;have kpd:=(kpb.same sc).upto ud;exists b7 (br.of gd) ex ?_;exists cw λbt He se ge=>?_
  exists cw λlt Hf sf gf=>?_
  have Xf:=(Xd.same se).same sf;have kpf:=(kpd.same se).same sf;have nb:bY K Hf ((z:Int):Rat) (.ref bt):=bY.mk (sf _ _ ge) rfl;have nl:bY K Hf ((0 - z:Int):Rat) (.ref lt):=bY.mk gf rfl;clear X Xa Xb Xd kp kpa kpb kpd ua ub ud sc gc gd ex mx ge gf se sf Ba Bb Bd nc;have gu:=Xf.gm;have lu:=Xf.lm
  have ru:∀x∈us,iP K A Hf n (Fr M (9^t*WV)) x:=λx hx=>by
   have:=Xf.row x (by simp [hx]);rwa [eM x (Xf.apart.1 x hx).1 (Xf.apart.1 x hx).2] at this
  have hM:0 < M/\M<=2^800:=by
   have hx:us[ii]'()∈us:=az _;have:=eM _ (Xf.apart.1 _ hx).1 (Xf.apart.1 _ hx).2;rw[<- this];exact #[M0 _,M1 _]
  have e1:us[ii]?=some (us[ii]'()):=by simp
  have e2:us[jj]?=some (us[jj]'()):=by simp
  obtain q1|z1|qs1|w1|a1|g1|k1|p1|l1|c1:=(ru _ (ai e1)).at;obtain q2|z2|qs2|w2|a2|g2|k2|p2|l2|c2:=(ru _ (ai e2)).at;rw[w1] at e1;rw[w2] at e2;generalize eW:9^t*WV=W at *
  have W9:9*W<=2^140:=by rw[<- eW];exact QY () V1 ()
  have sz9M:∀{x:Rat} {U:Nat},U<=9*W->Fr M U x->jV x:=λhU h=>KY hM.1 hM.2 (ag hU W9) h
  have sz9:∀{x:Rat} {U:Nat} {v:V},U<=9*W->Fr (μ v) U x->jV x:=λhU h=>KY (M0 _) (M1 _) (ag hU W9) h
  exists b7 (br.of gu) (dC e1) ?_;exists b7 (br.of gu) (dC e2) ?_;exists #[_,q2,_,qs2,rfl,nb,DC (),#[z2,g2,p2],(),λy hy=>sz9M () (c2 y hy),λr1 Hg n1 sg R1=>?_];exists #[q1,r1,qs1,_,rfl,#[z1,sg _ _ g1,ce (λ_ _ y=>y.same sg) p1],R1,by rw[af,l1,l2],(),λy hy=>sz9M () (c1 y hy),λy hy=>?_,λr2 Hh n2' sh R2=>?_]
  ·obtain y'|hy'|rfl:=au.mp hy;exact zI hz (c2 y' hy') hM.1 hM.2 ()
  have sfh:=sg.trans sh
  have new:V.ref r2∉us++vs++ws:=λz=>by
   obtain q'|_|_|e'|_|g'|_:=((Xf.same sg).row _ z).at;cases e';rw[n2'] at g';cases g'
  have Xh:=(Xf.same sfh).weak (C':=λx y=>(x∈ws->Fr (μ x) W y)/\Fr (μ x) (3*W) y) λx _ y h=>#[λ_=>h,h.mono ()]
  have kph:=kpf.same sfh;have guh:=sfh _ _ gu;have ar2:A r2:=(kpf.same sg).new hA (Xf.same sg).bag (by rw[sg _ _ gu];simp) n2'
  have rp2:iP K A Hh n (λy=>(V.ref r2∈ws->Fr (μ (.ref r2)) W y)/\Fr (μ (.ref r2)) (3*W) y) (.ref r2):=by
   rw[eM (.ref r2) (λz=>new (aB.mpr (.inr z))) (λz=>new (aB.mpr (.inl (aB.mpr (.inr z)))))];refine #[r2,_,rfl,ar2,R2,by rw[aT,af];lia,λy hy=>#[λz=>absurd (aB.mpr (.inr z)) new,?_]];obtain j'|hj'|e:=bN hy;rw[dn,cK] at e;rw[<- e];exact EA hz (c1 _ (az _)) (c2 _ (az _))
  exists fg guh (fu ()) rfl ?_;have Xi:=Xh.set MA rp2 new ii;have kpi:=kph.upd (o:=.lst (us.set ii (.ref r2))) (q:=m) (.inr rfl);have nli:bY K (upd Hh m (.lst (us.set ii (.ref r2)))) ((0 - z:Int):Rat) (.ref lt):=(nl.same sfh).updL guh;have nbi:bY K (upd Hh m (.lst (us.set ii (.ref r2)))) ((z:Int):Rat) (.ref bt):=(nb.same sfh).updL guh;generalize upd Hh m (.lst (us.set ii (.ref r2)))=Hi at Xi kpi nli nbi ⊢;generalize us.set ii (.ref r2)=um at Xi;clear nb nl Xf kpf gu ru e1 e2 g1 p1 g2 p2 R1 R2 Xh kph guh rp2 sg sh sfh new;have gm:=Xi.gm;have lm:=Xi.lm;have gl:=Xi.gl;have nd:=Xi.nd;obtain nd1|nd2|nd3:=d5.mp nd;exists qF gm gl ko λcl Hj sj nj gj=>?_
  have kpj:=kpi.same sj
  have rows:∀x∈um++vs,∀q,x=V.ref q->q≠cl:=λx hx q e y=>by
   obtain q'|zs|_|e'|_|g'|_:=(Xi.row x (aB.mpr (.inl hx))).at;rw[e] at e';cases e';rw[y,nj] at g';cases g'
  have Xj:=(Xi.same sj).weak (C':=λx y=>(x∈ws->Fr (μ x) W y)/\(x∈(um++vs).drop 0->Fr (μ x) (3*W) y)/\Fr (μ x) (9*W) y) λx _ y h=>#[h.1,λ_=>h.2,h.2.mono ()]
  have lj:bY K Hj ((0 - z:Int):Rat) (.ref lt):=nli.same sj;have bj:bY K Hj ((z:Int):Rat) (.ref bt):=nbi.same sj;clear Xi kpi nli nbi;refine #[_,rfl,#[_,br.of gj],?_];refine qT (K:=K) (a:=cl) (xs:=um++vs) (λs σ' H'=>∃x6:Option V,σ'=[some (.ref b),some (.ref m),some (.ref p),some (.ref l),some (.int n),some (.int t),some (.int ii),some (.int jj),some (.ref bt),some (.ref lt),x6]/\lW K A H' n (λx y=>(x∈ws->Fr (μ x) W y)/\(x∈(um++vs).drop s->Fr (μ x) (3*W) y)/\Fr (μ x) (9*W) y) m p l b q0 um ws vs/\jL A b m H H'/\H' cl=some (.lst (um++vs))/\bY K H' ((0 - z:Int):Rat) (.ref lt)/\bY K H' ((z:Int):Rat) (.ref bt)) #[_,rfl,Xj,kpj,gj,lj,bj] (λs σ' H' _ #[_,_,_,_,e,_]=>br.of e) ?_ ?_
  ·rintro s x σ' Hk hx ⟨y6,rfl,Xk,kpk,gk,lk,bk⟩;have hs:s < (um++vs).9:=(aI.mp hx).1;have mx:=ai hx
   have xd:x∈(um++vs).drop s:=by
    rw[dX hs,(aI.mp hx).2];exact .head _
   have xd2:x∉(um++vs).drop (s+1):=λz=>by
    have:=nd1.sublist (List.drop_sublist s _);rw[dX hs,cQ,(aI.mp hx).2] at this;exact this.1 z
   have xw:x∉ws:=λz=>nd3 x mx x z rfl
   have rx:=Xk.row x (aB.mpr (.inl mx));obtain q|zs|qs|rfl|aq|gq|lq|pq|lq2|cq:=rx.at;have qcl:=rows _ mx q rfl;obtain vj|ej|nj':=Eu pq (j:=jj) ();obtain vi|ei|ni':=Eu pq (j:=ii) ();have cj:=(cq _ (getD_mem (xs:=qs) (i:=jj) ())).2.1 xd;have ci:=(cq _ (getD_mem (xs:=qs) (i:=ii) ())).2.1 xd;exists b7 (br.of gq) ej ?_;exists b7 (br.of gq) ei ?_;exists #[_,_,_,_,rfl,lk,ni',DC (),sz9 () ci,λr3 Hl sl n3=>?_];exists #[_,_,_,_,rfl,nj'.same sl,n3,sz9 () cj,zI () ci (M0 _) (M1 _) (),λr4 Hm sm n4=>?_];have slm:=sl.trans sm;exists fg (slm _ _ gq) (fu ()) rfl ?_;refine #[_,rfl,?_,(kpk.same slm).upd (.inl aq),by rw[aY qcl.symm];exact slm _ _ gk,(lk.same slm).updL (slm _ _ gq),(bk.same slm).updL (slm _ _ gq)];refine ((Xk.same slm).weak λx' _ y h=>#[h.1,λz=>h.2.1 ?_,h.2.2]).put MA aq (slm _ _ gq) n4 #[λz=>absurd z xw,λz=>absurd z xd2,?_] jj
   ·rw[dX hs];exact .tail _ z
   ·exact (EA () cj ci).mono ()
  ·rintro σ' Hk ⟨y6,rfl,Xk,kpk,gk,lk,bk⟩;have gp:=Xk.gp;have Xk2:=Xk.weak (C':=λx y=>(x∈ws.drop 0->Fr (μ x) W y)/\Fr (μ x) (9*W) y) λx _ y h=>#[λz=>h.1 (by simpa using z),h.2.2]
   clear Xk;exists #[#[_,br.of gp],?_];refine qT (K:=K) (a:=p) (xs:=ws) (λs σ' H'=>∃x6:Option V,σ'=[some (.ref b),some (.ref m),some (.ref p),some (.ref l),some (.int n),some (.int t),some (.int ii),some (.int jj),some (.ref bt),some (.ref lt),x6]/\lW K A H' n (λx y=>(x∈ws.drop s->Fr (μ x) W y)/\Fr (μ x) (9*W) y) m p l b q0 um ws vs/\jL A b m H H'/\bY K H' ((z:Int):Rat) (.ref bt)) #[_,rfl,Xk2,kpk,bk] (λs σ' H' _ #[_,_,X,_]=>br.of X.gp) ?_ ?_
   ·rintro s x σ' Hl hx ⟨w6,rfl,Xl,kpl,bl⟩;have hs:s < ws.9:=(aI.mp hx).1;have mx:=ai hx
    have xd:x∈ws.drop s:=by
     rw[dX hs,(aI.mp hx).2];exact .head _
    have xd2:x∉ws.drop (s+1):=λz=>by
     have:=nd2.sublist (List.drop_sublist s _);rw[dX hs,cQ,(aI.mp hx).2] at this;exact this.1 z
    have rx:=Xl.row x (aB.mpr (.inr mx));obtain q|zs|qs|rfl|aq|gq|lq|pq|lq2|cq:=rx.at;obtain vj|ej|nj':=Eu pq (j:=jj) ();obtain vi|ei|ni':=Eu pq (j:=ii) ();have cj:=(cq _ (getD_mem (xs:=qs) (i:=jj) ())).1 xd;have ci:=(cq _ (getD_mem (xs:=qs) (i:=ii) ())).1 xd;exists b7 (br.of gq) ei ?_;exists b7 (br.of gq) ej ?_;exists #[_,_,_,_,rfl,bl,nj',DC (),sz9 () cj,λr3 Hm sm n3=>?_];exists #[_,_,_,_,rfl,ni'.same sm,n3,sz9 () ci,zI () cj (M0 _) (M1 _) (),λr4 Hn sn n4=>?_];have smn:=sm.trans sn;exists fg (smn _ _ gq) (fu ()) rfl ?_;refine #[_,rfl,?_,(kpl.same smn).upd (.inl aq),(bl.same smn).updL (smn _ _ gq)];refine ((Xl.same smn).weak λx' _ y h=>#[λz=>h.1 ?_,h.2]).put MA aq (smn _ _ gq) n4 #[λz=>absurd z xd2,?_] ii
    ·rw[dX hs];exact .tail _ z
    ·exact (EA () ci cj).mono ()
   ·rintro σ' Hl ⟨w6,rfl,Xl,kpl,bl⟩;refine #[_,_,_,_,_,_,um,rfl,Xl.weak λ_ _ y h=>h.2.mono ?_,kpl];rw[<- eW,c7,bu (9^t) 9,cD];exact ah _
 ·rintro σ' H' ⟨x1,x2,x3,x4,x5,x6,us',rfl,X,kp⟩;exists cw λr H2' s' g'=>?_
  exact done r us' H2' _ () g' (X.same s') (kp.same s')
theorem eZ:sC ["_law_bag_here","_law_n","_law_ins","_law_outs","_law_wide","_law_way","_law_first","_law_move_here","_law_put","_law_look","_law_k","_law_row_here"] 5 rR:=by walk_at "d"
theorem BH (T : Txt K mg Z) (ac : P.given.tree = none) : T.m6.o P w base 5 (CA K) := by
  have pT := bU (P := P) (w := w) (base := base) T ac;have Ip := Ej (P := P) (w := w) (base := base) T ac;have Bh := pP (P := P) (w := w) (base := base) T ac;have Fp := BI (P := P) (w := w) (base := base) T ac;refine T.m6.F.k eZ ?_;walk_at "i";obtain b|n|i|o|w|c|rfl|hB|n8|i4|o4|w0|w1|hc|hc20|hcM|k:= h
  refine #[_, (ak (fL 5 eZ.nd (cT pT hr T.bx (cH bQ aj)))
    (ak (fL 6 eZ.nd (cT pT hr T.bx (cH bQ (bw fj cL aj))))
    (ak (fL 7 eZ.nd (cT Ip hr T.nZ (gQ bQ (PY cL xO rd uM))))
    (ak (jc 8 ["_law_k"] ["_law_bag_here", "_law_n", "_law_wide"] [0, 1, 4] eZ.nd rfl rfl (cm rfl T.range (dj fh)) (λ_ => (fo 0)) (λ_ => cv) (λ_ => (cT Bh hr T.iF (Bj cL fh jC))))
    (ak (jc 9 ["_law_k"] ["_law_bag_here", "_law_n", "_law_wide"] [0, 1, 4] eZ.nd rfl rfl (cm rfl T.range (dj jC)) (λ_ => (fo 0)) (λ_ => cv) (λ_ => (cT Bh hr T.iF (Bj cL fh jC))))
    (ak (eL Yv rfl (cm rfl T.range (dj cL)) (fo 10 eZ.nd)
      (ak (eL Yv rfl (cM Iw) (fo 11 eZ.nd)
      (av (dw (PW.pt (sP (PW.pt (j9 (bh fI xO aj (bo _)) (kL (bh Ao (pv 10) rd (bo _))))) (nQ (PW.pt (j9 (bh fI xO aj (bo _)) (j9 (bh oR (bw fj (pv 10) aj) cL (bo _)) (kL (bh fI (cT pT hr T.bx (cH bQ aj)) aj (bo _))))))))) (av (gM (c8 (cH aj aj)) (gX (pv 11) (pv 10) set_list))) cg)))
    (av (eL Yv rfl (cM (pv 9)) (fo 11 eZ.nd)
      (av (dw (PW.pt (sP (PW.pt (j9 (bh fI xO aj (bo _)) (kL (bh Ao (pv 10) rd (bo _))))) (nQ (PW.pt (j9 (bh fI xO aj (bo _)) (j9 (bh An (pv 10) aj (bo _)) (kL (bh fI (cT pT hr T.bx (cH bQ aj)) aj (bo _))))))))) (av (gM (c8 (cH aj aj)) (gX (pv 11) (pv 10) set_list))) cg))))))
    (av (aX (cT Fp hr T.m7 (PY bQ Bw Iw (pv 9))))))))))), ?_]
  walk_at "s"
  try rw [iC]
  have W1 : 1 ≤ max w 6 := by lia
  obtain q0|I0|xs0|gq0:= hB.inner;exists #[b, 6, rfl, hB, by decide, by decide, λway H1 a0 a1 B1 u1 => ?_];exists #[b, _, rfl, B1, by lia, by lia, λfirst H2 f0 f1 B2 u2 => ?_];have u02 := u1.trans u2;exists #[b, n, w, way, first, rfl, B2, n8, w0, w1, λm us H3 nm0 gm lm ndm rm B3 u3 => ?_];have u03 := u02.trans u3;exists #[(), by lia, ?_];refine C6 (n := i) (b := b) (cC K H3) (λxs => xs.9 = n /\ ∀ x ∈ xs, Dr (max w 6) x) B3 () (λa u B => a.upto u B B3.at) (λ#[q, e, _, _, g, _] => #[q, e, by rw [g]; exact λz => nomatch z]) ?_ ?_
  · rintro s H' NY NN hi u B k1;exists #[b, n, w, rfl, B, by lia, w0, w1, λr xs H2 nr R lx dx B2 u2 => k1 _ xs _ u2 B2 #[lx, dx] #[r, rfl, u.none B nr, R] #[r, rfl, nr]]
  rintro ws puts H4 p np u4 B4 gp lp ndp hp pr4 nx4;have u04 := u03.trans u4;exists #[(), by lia, ?_];refine C6 (n := o) (b := b) (cC K H4) (λxs => xs.9 = n /\ ∀ x ∈ xs, Dr (max w 6) x) B4 () (λa u B => a.upto u B B4.at) (λ#[q, e, _, _, g, _] => #[q, e, by rw [g]; exact λz => nomatch z]) ?_ ?_
  · rintro s H' NY NN hi u B k1;exists #[b, n, w, rfl, B, by lia, w0, w1, λr xs H2 nr R lx dx B2 u2 => k1 _ xs _ u2 B2 #[lx, dx] #[r, rfl, u.none B nr, R] #[r, rfl, nr]]
  rintro vs looks H5 l nl u5 B5 gl ll ndl hl pr5 nx5;have u05 := u04.trans u5;have hm0 : H m = none := u02.none B2 nm0;have hp0 : H p = none := u03.none B3 np;have hl0 : H l = none := u04.none B4 nl;have mb : m ≠ b := λz => B2.at (by rw [<- z]; exact nm0)
  have pb : p ≠ b := λz => B3.at (by rw [<- z]; exact np)
  have lb : l ≠ b := λz => B4.at (by rw [<- z]; exact nl)
  have gm4 := u4.other mb gm;have gm5 := u5.other mb gm4;have gp5 := u5.other pb gp;have mp : m ≠ p := λz => by rw [z, np] at gm; cases gm
  have ml : m ≠ l := λz => by rw [z, nl] at gm4; cases gm4
  have pl : p ≠ l := λz => by rw [z, nl] at gp; cases gp
  have mq : m ≠ q0 := λz => Inner.at B2 (u02.2 _ I0) (by rw [<- z]; exact nm0)
  obtain ⟨A, eA⟩ : ∃ A : Addr → Prop, A = λq => H q = none /\ q ≠ m /\ q ≠ p /\ q ≠ l := #[_, rfl]
  have mkA : ∀ {q}, H q = none → q ≠ m → q ≠ p → q ≠ l → A q := λh1 h2 h3 h4 => by rw [eA]; exact #[h1, h2, h3, h4]
  have unA : ∀ {q}, A q → H q = none /\ q ≠ m /\ q ≠ p /\ q ≠ l := λh => by rw [eA] at h; exact h
  have MA : J9 A m p l b q0 := #[λz => (unA z).2.1 rfl, λz => (unA z).2.2.1 rfl, λz => (unA z).2.2.2 rfl, λz => hB.at (unA z).1, (λz => by have z1 := (unA z).1; rw [gq0] at z1; cases z1), mb, pb, lb, mp, ml, mq];clear eA;have lws : ws.9 = i := by rw [<- pr4.9]; exact lp
  have lvs : vs.9 = o := by rw [<- pr5.9]; exact ll
  have alM : ∀ q, V.ref q ∈ us → H3 q ≠ none /\ q ≠ b /\ H4 q ≠ none := λq hq => by
    obtain q'|qs|e|⟨a1, a2⟩|r|z:= rm _ hq;cases e;have qb : q ≠ b := λy => B2.at (by rw [<- y]; exact a1)
    obtain xq|gq|_:= id r;obtain xq4|gq4|_:= r.upto u4 B3 qb;exact #[(by rw [gq]; exact λz => nomatch z), qb, (by rw [gq4]; exact λz => nomatch z)]
  have alP : ∀ q, V.ref q ∈ ws → H3 q = none /\ H4 q ≠ none := λq hq => by
    obtain _|_|q'|e|a|_|g|_:= eO pr4 hq;cases e;exact #[a, by rw [g]; exact λz => nomatch z]
  have alL : ∀ q, V.ref q ∈ vs → H4 q = none := λq hq => by
    obtain _|_|q'|e|a|_:= eO pr5 hq;cases e;exact a
  have isR : ∀ x, x ∈ us \/ x ∈ ws \/ x ∈ vs → ∃ q, x = V.ref q := λx hx => by
    rcases hx with hx | hx | hx
    · obtain q|_|e|_:= rm x hx; exact #[q, e]
    · obtain _|_|q|e|_:= eO pr4 hx; exact #[q, e]
    · obtain _|_|q|e|_:= eO pr5 hx; exact #[q, e]
  have nd : (us ++ vs ++ ws).Nodup := by
    refine d5.mpr #[d5.mpr #[ndm, ndl, λx hx y hy e => ?_], ndp, λx hx y hy e => ?_]
    · subst e;obtain q|rfl:= isR x (.inl hx);exact (alM q hx).2.2 (alL q hy)
    · subst e;obtain q|rfl:= isR x (.inr (.inl hy));rcases aB.mp hx with hx | hx
      · exact (alM q hx).1 (alP q hy).1
      · exact (alP q hy).2 (alL q hx)
  have X5 : J7 K A n (Dr (max w 6)) m p l b q0 us ws vs H H5 := by
    refine #[#[B5, u05.2 _ I0, gm5, gp5, gl, lm, λx hx => ?_, nd], gp5, gl, λc u e n1 _ _ => u05.1 c u e n1];rcases aB.mp hx with hx | hx
    · rcases aB.mp hx with hx | hx
      · obtain q|qs|e|⟨a1, a2⟩|r|z:= rm x hx;obtain xq|gq|_:= id r;have qb : q ≠ b := λy => B2.at (by rw [<- y]; exact a1)
        have r4 := r.upto u4 B3 qb;obtain xq4|gq4|_:= id r4;exact #[q, qs, e, mkA (u02.none B2 a1) a2 (λy => by rw [y, np] at gq; cases gq) (λy => by rw [y, nl] at gq4; cases gq4), r4.upto u5 B4 qb, z]
      · refine NV (A := A) pr5 hl (λq hq a b' => ?_) x hx;exact mkA (u04.none B4 a) (λy => by rw [y, gm4] at a; cases a) (λy => by rw [y, gp] at a; cases a) (λy => je nx5 (by rw [<- y]; exact hq))
    · refine iP.upto (NV (A := A) pr4 hp (λq hq a b' => ?_) x hx) u5 B4 MA.ab;exact mkA (u03.none B3 a) (λy => by rw [y, gm] at a; cases a) (λy => je nx4 (by rw [<- y]; exact hq)) (λy => b' (by rw [y]; exact nl))
  clear alM alP alL isR rm pr4 pr5 nx4 nx5 gm gm4 gm5 gp gp5 gl hp hl;exists #[(), by lia, ?_];refine dZ (n := n) (λkk σ' H' => (∃ x1 x2, σ' = [some (.ref b), some (.int n), some (.int i), some (.int o), some (.int w), some (.int way), some (.int first), some (.ref m), some (.ref p), some (.ref l), x1, x2]) /\ J7 K A n (Dr (max w 6)) m p l b q0 us ws vs H H') #[#[_, _, rfl], X5] ?_ ?_
  · rintro kk σ' Hj hk ⟨⟨x1, x2, rfl⟩, X⟩;exists #[#[_, br.of X.gp], ?_];refine qT (K := K) (a := p) (xs := ws) (λs σ' H' => (∃ x2, σ' = [some (.ref b), some (.int n), some (.int i), some (.int o), some (.int w), some (.int way), some (.int first), some (.ref m), some (.ref p), some (.ref l), some (.int kk), x2]) /\ J7 K A n (Dr (max w 6)) m p l b q0 us ws vs H H') #[#[_, rfl], X] (λs σ' H' _ #[_, e] => br.of e.gp) ?_ ?_
    · rintro s x σ' Hk hx ⟨⟨y2, rfl⟩, X⟩;have mx := ai hx;obtain q|_|rfl|_:= X.row (.inl mx)
      repeat' (first | walk_at "rd" | refine iZ (λ_ => ?_) (λ_ => ?_))
      all_goals first
        | exact ⟨⟨_, rfl⟩, X⟩
        | (refine cw λt Hb sb gb => ?_; walk_at "w"; obtain zs|gz|lz|Xz:= (X.same sb).put MA (.inl mx) (bY.mk (q := 0) gb rfl) (uo (i := 0) (a8 _) W1) kk; refine fg gz (fu ()) rfl ?_; exact #[#[_, rfl], Xz])
        | (refine ⟨b, 2, rfl, X.mix.bag, by decide, by decide, λd Hd d0 d1 Bd ud => ?_⟩
           replace X := X.upto MA ud Bd
           repeat' (first | walk_at "rd" | refine iZ (λ_ => ?_) (λ_ => ?_))
           all_goals first
             | exact ⟨⟨_, rfl⟩, X⟩
             | (refine cw λt Hb sb gb => ?_
                walk_at "w";obtain zs|gz|lz|Xz:= (X.same sb).put MA (.inl mx) (bY.mk (q := 0) gb rfl) (uo (i := 0) (a8 _) W1) kk;refine fg gz (fu ()) rfl ?_;exact #[#[_, rfl], Xz]))
    · rintro σ' Hk ⟨⟨y2, rfl⟩, X⟩;exists #[#[_, br.of X.gl], ?_];refine qT (K := K) (a := l) (xs := vs) (λs σ' H' => (∃ x2, σ' = [some (.ref b), some (.int n), some (.int i), some (.int o), some (.int w), some (.int way), some (.int first), some (.ref m), some (.ref p), some (.ref l), some (.int kk), x2]) /\ J7 K A n (Dr (max w 6)) m p l b q0 us ws vs H H') #[#[_, rfl], X] (λs σ' H' _ #[_, e] => br.of e.gl) ?_ ?_
      · rintro s x σ' Hk hx ⟨⟨y2, rfl⟩, X⟩;have mx := ai hx;obtain q|_|rfl|_:= X.row (.inr mx)
        repeat' (first | walk_at "rd" | refine iZ (λ_ => ?_) (λ_ => ?_))
        all_goals first
          | exact ⟨⟨_, rfl⟩, X⟩
          | (refine cw λt Hb sb gb => ?_; walk_at "w"; obtain zs|gz|lz|Xz:= (X.same sb).put MA (.inr mx) (bY.mk (q := 0) gb rfl) (uo (i := 0) (a8 _) W1) kk; refine fg gz (fu ()) rfl ?_; exact #[#[_, rfl], Xz])
          | (refine ⟨b, 2, rfl, X.mix.bag, by decide, by decide, λd Hd d0 d1 Bd ud => ?_⟩
             replace X := X.upto MA ud Bd
             repeat' (first | walk_at "rd" | refine iZ (λ_ => ?_) (λ_ => ?_))
             all_goals first
               | exact ⟨⟨_, rfl⟩, X⟩
               | (refine cw λt Hb sb gb => ?_
                  walk_at "w";obtain zs|gz|lz|Xz:= (X.same sb).put MA (.inr mx) (bY.mk (q := 0) gb rfl) (uo (i := 0) (a8 _) W1) kk;refine fg gz (fu ()) rfl ?_;exact #[#[_, rfl], Xz]))
      · rintro σ' Hk ⟨⟨y2, rfl⟩, X⟩;exact #[#[_, _, rfl], X]
  · rintro σ' Hj ⟨⟨x1, x2, rfl⟩, X⟩
    obtain ⟨M1, M2, M3, V0, a1, a2, a3, V2, hcs, R1, R2, R3⟩ : ∃ M1 M2 M3 V0 : Nat, (0 < M1 /\ M1 ≤ 2 ^ 800) /\ (0 < M2 /\ M2 ≤ 2 ^ 800) /\ (0 < M3 /\ M3 ≤ 2 ^ 800) /\ V0 ≤ 2 ^ 20 /\ ((w ≤ 9 /\ M1 = 2520 /\ M2 = 2520 /\ M3 = 2520 /\ V0 = 9) \/ (9 < w /\ M1 ≤ 2 ^ (c * (n * n)) /\ M2 ≤ 2 ^ (c * (i * n)) /\ M3 ≤ 2 ^ (c * (o * n)) /\ V0 = 2 ^ c)) /\ (∀ x ∈ us, iP K A Hj n (Fr M1 V0) x) /\ (∀ x ∈ ws, iP K A Hj n (Fr M2 V0) x) /\ ∀ x ∈ vs, iP K A Hj n (Fr M3 V0) x := by
      by_cases w9 : w ≤ 9
      · have XM := X.mix.weak (C' := λ_ => Fr 2520 9) λ_ _ y h => Vv #[ag h.1 (), ag h.2 ()] (Nat.dvd_refl _)
        have z : 0 < 2520 /\ 2520 ≤ 2 ^ 800 := #[(), ag (show 2520 ≤ 2 ^ 12 by decide) (ar () ())];exact #[2520, 2520, 2520, 9, z, z, z, by decide, .inl #[w9, rfl, rfl, rfl, rfl], λx hx => XM.row x (by simp [hx]), λx hx => XM.row x (by simp [hx]), λx hx => XM.row x (by simp [hx])]
      · obtain M1|M2|M3|a1|a2|a3|b1|b2|b3|R1|R2|R3:= (X.mix.weak (C' := λ_ => Dr (2 ^ c)) λ_ _ y h => #[ag h.1 hc, ag h.2 hc]).fr3;rw [lws] at b2;rw [lvs] at b3;have up : ∀ {M k : Nat}, M ≤ 2 ^ (c * k) → k ≤ (n + i + o) * n → M ≤ 2 ^ 800 := λh hk => ag h (ar () (ag (cY _ hk) hcM))
        exact #[M1, M2, M3, 2 ^ c, #[a1, up b1 (ax _ ())], #[a2, up b2 (ax _ ())], #[a3, up b3 (ax _ ())], ar () hc20, .inr #[(), b1, b2, b3, rfl], R1, R2, R3]
    obtain μ|e2|e3|e1|e4:= Oy ws vs M1 M2 M3;obtain ap1|ap2:= X.mix.apart
    have XM : lW K A Hj n (λx => Fr (μ x) V0) m p l b q0 us ws vs := by
      refine #[X.mix.bag, X.mix.inn, X.mix.gm, X.mix.gp, X.mix.gl, X.mix.lm, λx hx => ?_, X.mix.nd];rcases aB.mp hx with hx | hx
      · rcases aB.mp hx with hx | hx
        · rw [e1 x (ap1 x hx).1 (ap1 x hx).2]; exact R1 x hx
        · rw [e3 x hx (ap2 x hx)]; exact R3 x hx
      · rw [e2 x hx]; exact R2 x hx
    have p1 : ∀ x, 0 < μ x := λx => by
      rcases e4 x with e | e | e
      · rw [e]; exact a1.1
      · rw [e]; exact a2.1
      · rw [e]; exact a3.1
    have p2 : ∀ x, μ x ≤ 2 ^ 800 := λx => by
      rcases e4 x with e | e | e
      · rw [e]; exact a1.2
      · rw [e]; exact a2.2
      · rw [e]; exact a3.2
    have gmj := X.mix.gm;exists #[b, m, p, l, q0, n, V0, μ, A, us, ws, vs, rfl, MA, XM, n8, by lia, by lia, p1, p2, #[M1, e1], V2, λq hq => ?_, λr us' H' g Y kp => ?_]
    · refine mkA ?_ (λz => by rw [z, gmj] at hq; cases hq) (λz => by rw [z, X.gp] at hq; cases hq) (λz => by rw [z, X.gl] at hq; cases hq);cases e : H q with
      | none => rfl
      | some u =>
        have := X.kp q u e (λz => X.mix.bag.at (by rw [<- z]; exact hq)) (λz => by have := (unA z).1; rw [e] at this; cases this) (λz => by rw [z, hm0] at e; cases e);rw [hq] at this; cases this
    · obtain yp1|yp2:= Y.apart;obtain mv|Gm|lmv|hmv:= vB (H0 := H) (n := n) (C := Fr M1 (9 ^ 3 * V0)) (m := n) #[us', Y.gm, Y.lm, MA.am, λx hx => by have := Y.row x (by simp [hx]); rwa [e1 x (yp1 x hx).1 (yp1 x hx).2] at this] λq h => (unA h).1
      obtain pt|Gp|lpt|hpt:= vB (H0 := H) (n := n) (C := Fr M2 (9 ^ 3 * V0)) (m := i) #[ws, Y.gp, lws, MA.ap, λx hx => by have := Y.row x (by simp [hx]); rwa [e2 x hx] at this] λq h => (unA h).1
      obtain lk|Gl|llk|hlk:= vB (H0 := H) (n := n) (C := Fr M3 (9 ^ 3 * V0)) (m := o) #[vs, Y.gl, lvs, MA.al, λx hx => by have := Y.row x (by simp [hx]); rwa [e3 x hx (yp2 x hx)] at this] λq h => (unA h).1
      refine k r mv pt lk H' #[m, p, l, g, hm0, hp0, hl0, Gm, Gp, Gl] lmv lpt llk #[(), by lia, by lia, λxs hx => by rw [(hmv xs hx).1, lmv], λxs hx => by rw [(hpt xs hx).1, lmv], λxs hx => by rw [(hlk xs hx).1, lmv]] #[M1, M2, M3, 9 ^ 3 * V0, a1.1, a2.1, a3.1, λxs hx => (hmv xs hx).2, λxs hx => (hpt xs hx).2, λxs hx => (hlk xs hx).2, ?_] Y.bag #[λc' u e n1 => (X.kp.trans kp) c' u e n1 (λz => by have := (unA z).1; rw [e] at this; cases this) (λz => by rw [z, hm0] at e; cases e), λq h => by rw [<- Inner.inj I0 h]; exact Y.inn];rcases hcs with ⟨b1, b2, b3, b4, b5⟩ | ⟨b1, b2, b3, b4, b5⟩
      · exact .inl #[b1, b2, b3, b4, by rw [b5]]
      · exact .inr #[b1, b2, b3, b4, by rw [b5]]
theorem Aa:sC ["_law_grid"] 1 qD:=by walk_at "d"
theorem kS (T:Txt K mg Z) (ac:bv P):T.gE.o P w base 1 (zX K):=by
 refine T.gE.F.k Aa ?_;walk_at "i";obtain p|H0|rows|rfl|hp|hl|hm|k:=h;refine #[_,(av (aX (cu ["_law_row_here"] [] [] (cM bQ) (λ_=>(fo 0)) (λ_=>cv) (λ_=>(eN (iY K (by rfl)) (by rfl) T.list YD (dj bQ)))))),?_];walk_at "s"
 try rw[iC]
 obtain xs|gx|qx|_:=id hp;exists #[#[_,br.of gx],?_];refine dS (K:=K) (F:=cC K H0) (cC K H) id gx qx hl (λa b=>a.same b) (λa b=>a.same b) ?_ ?_
 ·rintro i ns x H' NY NN en s ⟨u,rfl,_,zs,gz,qz⟩ k1;exists #[u,zs,rfl,.inl (br.of gz),λl1 hl1=>?_];exact k1 _ _ (aE.new hl1) #[l1,rfl,s.none hl1,zs,aD,ce (λ_ _ z=>z.same (aE.new hl1)) qz]
 ·rintro ys' H' r hr s g pr nx;rw[PV] at pr nx;exact k r H' hr s #[ys',g,pr,je nx]
theorem DQ:sC ["_law_parts_here"] 1 tV:=by walk_at "d"
theorem Ek (T:Txt K mg Z) (ac:bv P):T.oa.o P w base 7 (zK K Z.a_System):=by
 refine T.oa.F.k DQ ?_;walk_at "i";obtain r|H0|mv|pt|lk|rfl|PQ|D|F|k:=h;refine #[_,(av (aX (Ea T.mk_System (kd T ac) (hr.mono ()) rfl T.mg_System T.jh .nil Gn (Bj (cT (kS T ac) hr T.gE (dj (aO bH bQ aj))) (cT (kS T ac) hr T.gE (dj (aO bH bQ aj))) (cT (kS T ac) hr T.gE (dj (aO bH bQ aj))))))),?_];walk_at "s"
 try rw[iC]
 obtain m|p|l|g|n1|n2|n3|Gm|Gp|Gl:=id PQ;have d1:=D.n8;have d2:=D.i4;have d3:=D.o4;exists #[m,H0,mv,rfl,Gm,(),λxs hx=>by rw[D.mw xs hx];lia,λa H1 na s1 Ga=>?_];have g1:=s1 _ _ g;exists #[p,H0,pt,rfl,Gp.same s1,(),λxs hx=>by rw[D.pw xs hx];lia,λb H2 nb s2 Gb=>?_];have s12:=s1.trans s2;have g2:=s12 _ _ g;exists #[l,H0,lk,rfl,Gl.same s12,(),λxs hx=>by rw[D.lw xs hx];lia,λc H3 nc s3 Gc=>?_];have s13:=s12.trans s3;walk_at "w";intro x dx nx ndx nex;exact #[x,dx,a,b,c,H3,H,H1,H2,mv,pt,lk,rfl,nx,ndx,nex,rfl,(Ga.same s2).same s3,Gb.same s3,Gc,D,F.ok.1,F.ok.2.1,F.ok.2.2,λH' s' S'=>#[rfl,k x H' (s13.none nx) (s13.trans s') (S'.weak s13)]]
theorem DN:sC ["_law_one","_law_other"] 2 tO:=by walk_at "d"
theorem Ei (T:Txt K mg Z) (ac:bv P):T.nY.o P w base 2 (zN K):=by
 refine T.nY.F.ok DN (λvs H Q E h=>?_) (λcdv A outer s H vs Q E hr h=>?_)
 ·obtain p|q|a|b|c|d|rfl|hp|hq|hb|hd|hc|sa|sb|sc|sd|k:=Gi h;rfl
 ·obtain p|q|a|b|c|d|rfl|hp|hq|hb|hd|hc|sa|sb|sc|sd|k:=Gi h
  refine #[_,(ak (dw (bh oR (aO bH cL aj) aj (bo _)) (av (aX (cT (fQ T ac) hr T.dR (cH (bw jy aj (bw cN (aO bH bQ aj) (aO bH cL aj))) (bw jy aj (bw cN (aO bH bQ aj) (aO bH cL aj))))))) cg)
   (av (aX (cT (fQ T ac) hr T.dR (cH (bw cN (aO bH bQ aj) (aO bH cL aj)) (bw cN (aO bH bQ aj) (aO bH cL aj))))))),?_]
  refine nD (σ:=[some (.ref p),some (.ref q)]) rfl ?_
  try rw[iC]
  have sbc:Sz 8999000 (b*c):=(sb.mul sc).mono ();exists iZ (λh=>?_) (λh=>?_)
  ·have h0:c < 0:=of_decide_eq_true h;have hbc:b*c < 0:=vJ hb h0;exists fW (show fJ _ _ from .inr #[_,_,sa,sd,()]) ?_;exists fW (show fJ _ _ from .inr #[_,_,sb,sc,()]) ?_;exists #[_,_,rfl,(),by rw[Int.zero_sub];exact sbc.neg,λr H' s' h'=>?_];exact k r H' s' (by rw[if_pos h0,if_pos h0];exact h')
  ·have h0:¬c < 0:=λz=>h (decide_eq_true z)
   have hbc:0 < b*c:=eY hb ();exists fW (show fJ _ _ from .inr #[_,_,sa,sd,()]) ?_;exists fW (show fJ _ _ from .inr #[_,_,sb,sc,()]) ?_;exists #[_,_,rfl,hbc,sbc,λr H' s' h'=>?_];exact k r H' s' (by rw[if_neg h0,if_neg h0];exact h')
theorem d9:sC ["_law_rows","_law_size","_law_rank","_law_place","_law_at","_law_k"] 2 oM:=by walk_at "d"
theorem yN (T:Txt K mg Z) (ac:bv P):T.jX.o P w base 4 (CI K):=by
 refine T.jX.F.k d9 ?_;walk_at "i";obtain p|n|w|a|H0|rows|rfl|G|r100|n100|hw|F|k:=h
 refine #[_,(ak (jc 0 ["_law_row_here"] [] [] d9.nd rfl rfl (cM bQ) (λ_=>(fo 0)) (λ_=>cv) (λ_=>(eN (iY K (by rfl)) (by rfl) T.list YD (dj bQ))))
  (ak (fL 2 d9.nd aj)
  (ak (eL Yv rfl (cm rfl T.range (dj cL)) (fo 3 d9.nd)
   (ak (fL 4 d9.nd fh)
  (ak (vY Yv (PW.pt (j9 (bh oR uM (bF bc (by rfl) T.len aW (dj bQ)) (bo _)) (kL (bh (xU (BK hr)) (aO bA (aO bA bQ uM) jC) (c8 (cH aj aj)) (bo _)))))
   (av (fL 4 d9.nd (bw fj uM aj))))
  (av (dw (bh oR uM (bF bc (by rfl) T.len aW (dj bQ)) (bo _)) (ak (gM (c8 (cH (aO bA bQ uM) (aO bA bQ fh))) (vq rfl (cp (gX bQ fh set_list) (cp (gX bQ uM set_list) gP))))
  (ak (gM (cT (rZ T ac) hr T.kh (cH (cT (Ei T ac) hr T.nY (cH (c8 (cH aj aj)) (aO bA (aO bA bQ fh) jC))) (aO bA bQ fh))) (gX bQ fh set_list))
  (ak (eL Yv rfl (cm rfl T.range (dj (bF bc (by rfl) T.len aW (dj bQ)))) (fo 5 d9.nd)
   (av (dw (PW.pt (j9 (bh uS xO fh (bo _)) (kL (bh (Ed (BK hr)) (aO bA (aO bA bQ xO) jC) (c8 (cH aj aj)) (bo _))))) (av (gM (cT (uU T ac) hr T.jT (cH (aO bA bQ xO) (cT (rZ T ac) hr T.kh (cH (aO bA (aO bA bQ xO) jC) (aO bA bQ fh))))) (gX bQ xO set_list))) cg)))
  (av (fL 2 d9.nd (bw fj fh aj)))))) cg)))))
  (av (aX (oP rC bQ rW (pL fh))))))),?_]
 walk_at "s"
 try rw[iC]
 obtain xs|gx|qx|_:=id G;obtain _|_|_|_|_|_|_|r15|e39:=id F;have szT:∀{D:Nat} {x:Rat},0 < D->D<=2^(min rows.9 n*(w+4)+a)->Tp D (2^(min rows.9 n*(w+4))) x->jV x:=λh0 h1 t=>j7 t h0 (ag h1 (ar () ())) (ar () ())
 have szP:∀{D D':Nat} {x y:Rat},0 < D->0 < D'->D<=2^(min rows.9 n*(w+4)+a)->D'<=2^(min rows.9 n*(w+4)+a)->Tp D (2^(min rows.9 n*(w+4))) x->Tp D' (2^(min rows.9 n*(w+4))) y->jV (x*y):=λh0 h0' h1 h1' t t'=>j7 (t.mul t') (b8 h0 h0') (ag (aP h1 h1') (by rw[<- bG];exact ar () ())) (by rw[<- bG];exact ar () ())
 exists #[#[_,br.of gx],?_];refine dS (K:=K) (F:=cC K H0) (cC K H) id gx qx () (λa b=>a.same b) (λa b=>a.same b) ?_ ?_
 ·rintro i ns x H' NY NN en s ⟨u,rfl,_,zs,gz,qz⟩ k1;exists #[u,zs,rfl,.inl (br.of gz),λl1 hl1=>?_];exact k1 _ _ (aE.new hl1) #[l1,rfl,s.none hl1,zs,aD,ce (λ_ _ z=>z.same (aE.new hl1)) qz]
 rintro ys1 H1 L hL s1 g1 pr1 nx1;rw[PV] at pr1 nx1;have PR1:Yt (gK K H L H1) rows ys1:=Kt pr1 (je nx1);clear pr1 nx1;exists #[(),(),?_];refine dZ (n:=n) (λP σ' H'=>aE H H'/\∃rs ps y1 y2 y3 vs,σ'=[some (.ref L),some (.int n),some (.int ps.9),y1,y2,y3]/\H' L=some (.lst vs)/\Yt (gK K H L H') rs vs/\Im rows n P rs ps) #[s1,rows,[],_,_,_,ys1,rfl,g1,PR1,Im.start hw] ?_ ?_
 ·rintro P σ' H' hP ⟨s',rs,ps,y1,y2,y3,vs,rfl,gL,pr,I⟩;have hl:=I.len;obtain km|kP:=I.km;have lv:=pr.9;exists za (λσ' H''=>aE H' H''/\∃t:Nat,σ'=[some (.ref L),some (.int n),some (.int ps.9),some (.int P),some (.int t),y3]/\ps.9<=t/\t<=rs.9/\∀s,ps.9<=s->s < t->aS rs s P=0) (λσ' _=>match σ' with | [_,_,_,_,some (.int v),_]=>rs.9 - v.toNat | _=>0) #[aE.refl _,ps.9,rfl,ah _,(),λs h1 h2=>absurd h2 ()] ?_;rintro σ' Ha ⟨sa,t,rfl,kt,tl,hz⟩;have gLa:=sa _ _ gL;have pra:Yt (gK K H L Ha) rs vs:=ce (λ_ _ z=>z.same sa) pr;exists #[_,_,rfl,.inl (br.of gLa),?_];rw[<- lv];exists iZ (λh=>?_) (λh=>?_)
  ·have ht:t < rs.9:=by have:=of_decide_eq_true h;lia
   obtain xt|vt|et|evt|mt|qt|rfl|nqt|qtL|Rt:=gD pra ht;have wt:=I.wide xt mt;obtain us|gu|qu:=id Rt;obtain vx|ex|nx:=Eu qu (j:=P) ();have ext:rs.getD t []=xt:=by rw[aa,et];rfl
   have fx:aS rs t P=xt.getD P 0:=by unfold aS;rw[ext]
   exists b7 (br.of gLa) (dC evt) ?_;exists b7 (br.of gu) ex ?_;exists cw λt0 Hb sb gb=>?_
   have sab:=sa.trans sb;exists #[_,_,KH,xt.getD P 0,0,(),nx.same sb,bY.mk (q:=0) gb rfl,?_];by_cases e0:xt.getD P 0=0
   ·rw[decide_eq_true e0];exists #[#[sab,t+1,?_,(),(),λs h1 h2=>?_],?_]
    ·rw[show ((t:Int)+1)=((t+1:Nat):Int) by lia];rfl
    ·by_cases e:s=t
     ·rw[e,fx];exact e0
     ·exact hz s h1 ()
    ·show rs.9 - ((t:Int)+1).toNat < rs.9 - (t:Int).toNat
     lia
   ·rw[decide_eq_false e0];have hne:aS rs t P≠0:=by rw[fx];exact e0
    have gLb:=sb _ _ gLa;have prb:Yt (gK K H L Hb) rs vs:=ce (λ_ _ z=>z.same sb) pra;have s0b:=s'.trans sab;clear pra gLa gu qu ex nx gb Rt;exists #[_,_,rfl,.inl (br.of gLb),?_];rw[<- lv];walk_at "w";rw[decide_eq_true (show (t:Int) < (rs.9:Int) by lia)];have hk:ps.9 < rs.9:=()
    obtain xt'|vt'|et'|evt'|mt'|Ft:=gD prb ht;obtain xk|vk|ek|evk|mk|Fk:=gD prb hk;rw[et] at et';cases et';have exk:rs.getD ps.9 []=xk:=by rw[aa,ek];rfl
    exists b7 (br.of gLb) (dC evt') ?_;exists b7 (br.of gLb) (dC evk) ?_;exists cw λtp Hc sc gc=>?_
    have gLc:=sc _ _ gLb;have s0c:=s0b.trans sc;have prc:Yt (gK K H L Hc) rs vs:=ce (λ_ _ z=>z.same sc) prb;have Ftc:=gK.same Ft sc;have Fkc:=gK.same Fk sc;exists fg gLc (fu ()) rfl ?_;have gLd:(upd Hc L (.lst (vs.set ps.9 vt'))) L=some (.lst (vs.set ps.9 vt')):=aD;have s0d:aE H (upd Hc L (.lst (vs.set ps.9 vt'))):=s0c.after hL;have prd:Yt (gK K H L (upd Hc L (.lst (vs.set ps.9 vt')))) (rs.set ps.9 xt) (vs.set ps.9 vt'):=gY (ce (λ_ _ z=>gK.upd z gLc) prc) _ (gK.upd Ftc gLc);have Fkd:=gK.upd (o:=.lst (vs.set ps.9 vt')) Fkc gLc;generalize upd Hc L (.lst (vs.set ps.9 vt'))=Hd at gLd s0d prd Fkd ⊢;exists fg gLd (fu (by rw[cS];lia)) rfl ?_;have gLe:(upd Hd L (.lst ((vs.set ps.9 vt').set t vk))) L=some (.lst ((vs.set ps.9 vt').set t vk)):=aD;have s0e:aE H (upd Hd L (.lst ((vs.set ps.9 vt').set t vk))):=s0d.after hL;have pre:Yt (gK K H L (upd Hd L (.lst ((vs.set ps.9 vt').set t vk)))) ((rs.set ps.9 xt).set t xk) ((vs.set ps.9 vt').set t vk):=gY (ce (λ_ _ z=>gK.upd z gLd) prd) _ (gK.upd Fkd gLd);generalize upd Hd L (.lst ((vs.set ps.9 vt').set t vk))=He at gLe s0e pre ⊢;have sw:=Ui hk ht;rw[ext,exk] at sw;obtain ⟨rs1,ers1⟩:∃rs1,rs1=(rs.set ps.9 xt).set t xk:=#[_,rfl];have l1:rs1.9=rs.9:=by rw[ers1,cS,cS]
    rw[<- ers1] at pre sw;have sk:jJ ps.9 t ps.9=t:=by unfold jJ;rw[if_pos rfl]
    generalize (vs.set ps.9 vt').set t vk=vs1 at gLe pre;clear gLb prb gLc prc Ftc Fkc gLd prd Fkd Ft Fk evt' evk ers1 gc sc;obtain x1|v1|e1|ev1|m1|q1|rfl|nq1|q1L|R1:=gD pre (i:=ps.9) ()
    have ex1:x1=xt:=by
     have:=sw ps.9;rw[sk,ext,aa,e1] at this;exact this
    subst ex1;obtain us1|gu1|qu1:=id R1;obtain vx1|evx1|nx1:=Eu qu1 (j:=P) ();obtain Dt|Dt0|Dt1|Dt2:=I.sz F () (i:=t) ()
    have szt:∀y∈x1,jV y:=λy hy=>by
     obtain c|rfl:=EC ext hy;exact szT Dt0 Dt1 (Dt2 c)
    have szx:jV (x1.getD P 0):=szt _ (getD_in ());exists cw λtq Hf sf gf=>?_
    exists b7 (br.of (sf _ _ gLe)) (dC ev1) ?_;exists b7 (br.of (sf _ _ gu1)) evx1 ?_;exists #[_,_,1,x1.getD P 0,rfl,bY.mk (q:=1) gf rfl,nx1.same sf,Qi,szx,e0,λqr Hg sg nq=>?_];have sfg:=sf.trans sg;exists b7 (br.of (sfg _ _ gLe)) (dC ev1) ?_;exists #[_,q1,1 / x1.getD P 0,x1,rfl,nq,Qj szx e0,R1.same sfg,(),szt,λur Hh nur sh Rur=>?_];have seh:=sfg.trans sh;have gLh:=seh _ _ gLe;have prh:Yt (gK K H L Hh) rs1 vs1:=ce (λ_ _ z=>z.same seh) pre;have lv1:=prh.9;have urL:ur≠L:=λz=>by rw[z,sfg _ _ gLe] at nur;cases nur
    have nur0:H ur=none:=(s0e.trans sfg).none nur;exists fg gLh (fu ()) rfl ?_;obtain ⟨Aq,eA⟩:∃Aq,Aq=rs1.set ps.9 (Cq x1 P):=#[_,rfl];have gLi:(upd Hh L (.lst (vs1.set ps.9 (.ref ur)))) L=some (.lst (vs1.set ps.9 (.ref ur))):=aD;have s0i:aE H (upd Hh L (.lst (vs1.set ps.9 (.ref ur)))):=(s0e.trans seh).after hL
    have pri:Yt (gK K H L (upd Hh L (.lst (vs1.set ps.9 (.ref ur))))) Aq (vs1.set ps.9 (.ref ur)):=by
     rw[eA];exact gY (ce (λ_ _ z=>gK.upd z gLh) prh) _ #[ur,rfl,nur0,urL,Rur.updL gLh urL]
    generalize upd Hh L (.lst (vs1.set ps.9 (.ref ur)))=Hi at gLi s0i pri ⊢;have lA:Aq.9=rs.9:=by rw[eA,cS,l1]
    have lvi:=pri.9;generalize vs1.set ps.9 (.ref ur)=vs2 at gLi pri lvi;clear gLh prh gLe pre R1 gu1 qu1 nx1 gf nq Rur;have hB:=Vs (rs:=rs) (k:=ps.9) (t:=t) (P:=P);have Bv:=λi (hi:i < rs.9)=>Tq (rs:=rs) (k:=ps.9) (t:=t) (P:=P) hi
    rw[ext] at Bv
    have Av:∀i,i < rs.9->Aq.getD i []=if i=ps.9 then Cq x1 P else rs.getD (jJ ps.9 t i) []:=λi hi=>by
     rw[eA,nI ()]
     split
     ·rfl
     ·exact sw i
    have I2:Im rows n (P+1) (GP rs ps.9 t P) (ps++[P]):=I.step kt ht hne (by rw[hB,hl]) (RN I.wide hk ht) λi hi c=>Vr I.wide hk ht () c
    obtain Du|Du0|Du1|Du2:=I2.sz F () (i:=ps.9) ();have lur:(Cq x1 P).9=n:=by unfold Cq;rw[af];exact wt
    have bk:(GP rs ps.9 t P).getD ps.9 []=Cq x1 P:=by rw[Bv _ hk,if_pos rfl]
    exists #[_,_,rfl,.inl (br.of gLi),?_];rw[<- lvi,lA];exists #[(),(),?_];refine dZ (n:=rs.9) (λs σ' H'=>aE H H'/\∃y vs',σ'=[some (.ref L),some (.int n),some (.int ps.9),some (.int P),some (.int t),y]/\H' L=some (.lst vs')/\Yt (gK K H L H') ((GP rs ps.9 t P).take s++Aq.drop s) vs') #[s0i,_,vs2,rfl,gLi,pri] ?_ ?_
    ·rintro s σ' Hj hs ⟨sj,y,vs',rfl,gLj,prj⟩;have lj:=prj.9;rw[ao,bf,eV,hB,lA] at lj;have at':∀i,((GP rs ps.9 t P).take s++Aq.drop s)[i]?=if i < s then (GP rs ps.9 t P)[i]? else Aq[i]?:=λi=>FC (by rw[lA,hB])
     walk_at "w";by_cases es:s=ps.9
     ·rw[decide_eq_true (show (s:Int)=(ps.9:Int) by lia)];exists #[sj,_,vs',rfl,gLj,?_];rw[<- Kh (by rw[lA,hB]) ?_]
      ·exact prj
      ·have h1:=Av s hs;have h2:=Bv s hs;rw[if_pos es] at h1 h2;rw[ae (show s < Aq.9 by lia),ae (show s < (GP rs ps.9 t P).9 by lia)];rw[aa,ae (show s < Aq.9 by lia)] at h1;rw[aa,ae (show s < (GP rs ps.9 t P).9 by lia)] at h2;have h1:Aq[s]=Cq x1 P:=h1;have h2:(GP rs ps.9 t P)[s]=Cq x1 P:=h2;rw[h1,h2]
     ·rw[decide_eq_false (show ¬(s:Int)=(ps.9:Int) by lia)];obtain x2|v2|e2|ev2|m2|q2|rfl|nq2|q2L|R2:=gD prj (i:=s) (by rw[ao,bf,eV,hB,lA];lia)
      have ex2:rs.getD (jJ ps.9 t s) []=x2:=by
       have h1:=Av s hs;rw[if_neg es] at h1;rw[at' s,if_neg ()] at e2;rw[<- h1,aa,e2];rfl
      have w2:x2.9=n:=by rw[<- ex2];exact I.wide _ (getD_in (pH hk ht hs))
      have B2:=Bv s hs;rw[if_neg es,ex2] at B2
      have eB2:(GP rs ps.9 t P)[s]?=some (W0 (λx y=>x - y) x2 ((Cq x1 P).map λy=>x2.getD P 0*y)):=by
       rw[<- B2,aa,ae (show s < (GP rs ps.9 t P).9 by lia)];rfl
      obtain us2|gu2|qu2:=id R2;obtain vx2|evx2|nx2:=Eu qu2 (j:=P) ();obtain D2|D20|D21|D22:=I.sz F () (i:=jJ ps.9 t s) (by rw[<- hl];exact pH hk ht hs)
      have sz2:∀y∈x2,jV y:=λy hy=>by
       obtain c|rfl:=EC ex2 hy;exact szT D20 D21 (D22 c)
      exists b7 (br.of gLj) (dC ev2) ?_;exists b7 (br.of gu2) evx2 ?_;exists cw λt2 Hk sk' gk=>?_
      exists #[_,_,KH,x2.getD P 0,0,(),nx2.same sk',bY.mk (q:=0) gk rfl,?_];have gLk:=sk' _ _ gLj;have prk:Yt (gK K H L Hk) ((GP rs ps.9 t P).take s++Aq.drop s) vs':=ce (λ_ _ z=>z.same sk') prj;by_cases ez:x2.getD P 0=0
      ·rw[decide_eq_true ez];exists #[sj.trans sk',_,vs',rfl,gLk,?_];rw[<- Kh (by rw[lA,hB]) ?_]
       ·exact prk
       ·rw[eB2,ez,XR ()];rw[at' s,if_neg ()] at e2;exact e2
      ·rw[decide_eq_false ez];obtain x3|v3|e3|ev3|m3|q3|rfl|nq3|q3L|R3:=gD prk (i:=ps.9) (by rw[ao,bf,eV,hB,lA];lia)
       have ex3:x3=Cq x1 P:=by
        rw[at' ps.9] at e3
        split at e3
        ·rw[<- bk,aa,e3];rfl
        ·have h1:=Av _ hk;rw[if_pos rfl] at h1;rw[<- h1,aa,e3];rfl
       subst ex3
       have szu:∀y∈Cq x1 P,jV y:=λy hy=>by
        obtain c|rfl:=EC bk hy;exact szT Du0 Du1 (Du2 c)
       have R2k:=R2.same sk';exists b7 (br.of gLk) (dC ev2) ?_;exists b7 (br.of gLk) (dC ev2) ?_;exists b7 (br.of (sk' _ _ gu2)) evx2 ?_;exists b7 (br.of gLk) (dC ev3) ?_;exists #[_,q3,x2.getD P 0,Cq x1 P,rfl,nx2.same sk',sz2 _ (getD_in ()),R3,(),szu,λr4 Hl n4 sl R4=>?_];exists #[q2,r4,x2,_,rfl,R2k.same sl,R4,by rw[af];lia,(),sz2,λy hy=>?_,λr5 Hm n5 sm R5=>?_]
       ·obtain y'|hy'|rfl:=au.mp hy;obtain c|rfl:=EC bk hy';have fz:aS rs (jJ ps.9 t s) P=x2.getD P 0:=by unfold aS;rw[ex2]
        have:=szP D20 Du0 D21 Du1 (D22 P) (Du2 c);rw[fz] at this;exact this
       have slm:=sl.trans sm;have gLm:=slm _ _ gLk;have r5L:r5≠L:=λz=>by rw[z,sl _ _ gLk] at n5;cases n5
       exists fg gLm (fu ()) rfl ?_;refine #[((sj.trans sk').trans slm).after hL,_,_,rfl,aD,?_];rw[<- Qf (by rw[lA,hB]) eB2];exact gY (ce (λ_ _ z=>gK.upd (gK.same z slm) gLm) prk) s #[r5,rfl,((sj.trans sk').trans sl).none n5,r5L,R5.updL gLm r5L]
    ·rintro σ' Hj ⟨sj,y,vs',rfl,gLj,prj⟩;rw[aF (),List.drop_eq_nil_of_le (),fK] at prj;exists #[sj,_,ps++[P],some (.int P),some (.int t),y,vs',?_,gLj,prj,I2];rw[ao,aQ,show ((ps.9:Int)+1)=((ps.9+1:Nat):Int) by lia];rfl
  ·have te:t=rs.9:=by
    rcases aR t rs.9 with z | z
    ·exact absurd (decide_eq_true (show (t:Int) < (rs.9:Int) by lia)) h
    ·lia
   exists #[_,_,rfl,.inl (br.of gLa),?_];rw[<- lv];walk_at "w";rw[decide_eq_false (show ¬(t:Int) < (rs.9:Int) by lia)];exists #[s'.trans sa,rs,ps,_,_,_,vs,rfl,gLa,pra,I.skip λi h1 h2=>hz i h1 ()]
 rintro σ' H' ⟨s',rs,ps,y1,y2,y3,vs,rfl,gL,pr,I⟩;exists xN (br.of gL) λsl H3 s3 n3 g3=>?_
 rw[HJ] at g3;exact k sl _ ps H3 (s'.none n3) (s'.trans s3) (CY (pO (ce (λ_ _ z=>gK.rowF z) pr) ps.9) s3 n3 g3) (I.done hw) I.km.1
theorem pK:sC ["_law_one","_law_other","_law_total","_law_k"] 2 vn:=by walk_at "d"
theorem yC (T:Txt K mg Z) (ac:bv P):T.nG.o P w base 3 (DG K):=by
 refine T.nG.F.k pK ?_;walk_at "i";obtain p|q|xs|ys|rfl|hp|hq|hl|hz|⟨k1,j1,k2,j2,h1,h2,hkj⟩|kk:=h
 refine #[_,(ak (fL 2 pK.nd (c8 (cH aj aj)))
  (ak (eL Yv rfl (cm rfl T.range (dj (bF bc (by rfl) T.len aW (dj bQ)))) (fo 3 pK.nd)
   (av (fL 2 pK.nd (cT (kv T ac) hr T.gU (cH fh (cT (nW T ac) hr T.iK (cH (aO bA bQ jC) (aO bA cL jC))))))))
  (av (aX fh)))),?_]
 walk_at "s"
 try rw[iC]
 obtain us|gu|qu:=id hp;obtain ws|gw|qw:=id hq;have lu:=qu.9;have lw:=qw.9;exists cw λr0 H0 s0 g0=>?_
 exists #[_,_,rfl,.inl (br.of (s0 _ _ gu)),?_];exists #[(),(),?_];refine dZ (n:=us.9) (λi σ' H'=>aE H H'/\∃(r:V) (v:Option V),σ'=[some (.ref p),some (.ref q),some r,v]/\bY K H' (fX (xs.take i) (ys.take i)) r) #[s0,_,none,rfl,bY.mk g0 rfl] ?_ ?_
 ·rintro i σ' H' hi ⟨s,r,v,rfl,hr⟩;have ix:i < xs.9:=()
  have iy:i < ys.9:=()
  obtain vx|ex|nx:=Eu (ce (λ_ _ z=>z.same s) qu) ix;obtain vy|ey|ny:=Eu (ce (λ_ _ z=>z.same s) qw) iy;exists b7 (br.of (s _ _ gu)) ex ?_;exists b7 (br.of (s _ _ gw)) ey ?_;exists #[_,_,_,_,rfl,nx,ny,h1.szn (getD_mem ix) (),h2.szn (getD_mem iy) (),λr3 H3 s3 n3=>?_];exists #[_,_,_,_,rfl,hr.same s3,n3,O9 h1 h2 hz i hkj,Ox (h1.one (getD_mem ix)) (h2.one (getD_mem iy)) hkj,λr4 H4 s4 n4=>?_];exists #[(s.trans s3).trans s4,_,_,rfl,by rw[C4 ix iy];exact n4]
 ·rintro σ' H' ⟨s,r,v,rfl,hr⟩;rw[aF (),aF ()] at hr;obtain t|rfl|ht:=hr;exists kk _ H' s #[t,rfl,ht]
theorem IV:sC ["_law_grid","_law_row_here"] 2 xI:=by walk_at "d"
theorem Jj (T:Txt K mg Z) (ac:bv P):T.sE.o P w base 4 (DF K):=by
 refine T.sE.F.k IV ?_;walk_at "i";obtain p|q|H0|rows|ys|rfl|hp|hq|hz|hl|hr1|kk:=h;refine #[_,(av (aX (cu ["_law_one"] ["_law_row_here"] [1] (cM bQ) (λ_=>(fo 0)) (λ_=>cv) (λ_=>(cT (yC T ac) hr T.nG (cH bQ cL)))))),?_];walk_at "s"
 try rw[iC]
 obtain xs|gx|qx|_:=id hp;exists #[#[_,br.of gx],?_];refine dS (K:=K) (F:=cC K H0) (bY K) (λxs=>fX xs ys) gx qx hz (λa b=>a.same b) (λa b=>a.same b) ?_ ?_
 ·rintro i ns x H' NY NN en s ⟨u,rfl,_,hu⟩ k;obtain e1|e2:=hr1 ns (ai en);exists #[u,q,ns,ys,rfl,hu,hq.same s,e1.symm,(),e2,λr H2 s2 h2'=>k _ _ s2 h2']
 ·rintro ys' H' r hr s g pr nx;exact kk r H' hr s #[ys',g,pr]
theorem iS:sC ["_law_parts_here","_law_rows","_law_some","_law_k"] 1 rQ:=by walk_at "d"
theorem BG (T:Txt K mg Z) (ac:bv P):T.m5.o P w base 5 (zM K):=by
 refine T.m5.F.k iS ?_;walk_at "i";obtain r|a|c|H0|Hz|mv|pt|lk|rfl|PQ|D|KF|z0|z1|k:=h
 refine #[_,(ak (fL 1 iS.nd (fO jx))
  (ak (fL 2 iS.nd (eN oj (by rfl) T.list YD (dj (aO bH bQ aj))))
  (ak (eL Yv rfl (cm rfl T.range (dj (bF bc (by rfl) T.len aW (dj (aO bH bQ aj))))) (fo 3 iS.nd)
   (ak (fL 1 iS.nd (bw qH cL fh))
  (av (jc 2 ["_law_row_here"] ["_law_parts_here"] [0] iS.nd rfl rfl (cM fh) (λ_=>(fo 0)) (λ_=>cv) (λ_=>(cT (Jj T ac) hr T.sE (cH (aO (uH K (by rfl)) cL aj) bQ)))))))
  (av (aX cL))))),?_]
 walk_at "s"
 try rw[iC]
 obtain m|p|l|g|n1|n2|n3|Gm|Gp|Gl:=id PQ;obtain ms|gm|qm|_:=id Gm;obtain qs|gp|qp|_:=id (Gp.weakN z0);have lms:=qm.9;have lqs:=qp.9;have d8:=D.n8;have i4:=D.i4;exists dU λro H1 s1 nro g1=>?_
 have gr1:=s1 _ _ g;have gp1:=s1 _ _ gp;exists #[p,qs,rfl,.inl (br.of gp1),λso nso=>?_];have s2:aE H1 (upd H1 so (.lst qs)):=aE.new nso;have g2:(upd H1 so (.lst qs)) so=some (.lst qs):=aD;generalize upd H1 so (.lst qs)=H2 at s2 g2 ⊢;have s02:=s1.trans s2;have gr2:=s02 _ _ g;exists #[_,_,rfl,.inl (br.of (s02 _ _ gm)),?_];rw[<- lms];exists #[(),(),?_];have q1:Yt (cC K Hz H1) pt qs:=ce (λ_ _ z=>cC.same z s1) qp;refine dZ (n:=mv.9) (λj σ' H'=>aE H H'/\∃ro so y,σ'=[some (.ref r),some (.ref ro),some (.ref so),y]/\H ro=none/\bg K Hz H' ro (iX mv pt j)/\bg K Hz H' so (pt.map (jr mv j))) #[s02,ro,so,_,rfl,nro,#[[],s2 _ _ g1,.nil,(λz=>nomatch z)],#[qs,g2,?_,je #[_,nso,q1]]] ?_ ?_
 ·rw[show pt.map (jr mv 0)=pt from List.map_id' ..];exact ce (λ_ _ z=>cC.same z s2) q1
 ·rintro j σ' H' hj ⟨s',ro,so,y,rfl,nro,Ga,Gb⟩;obtain xs|ga|qa|_:=id Ga;obtain ys|gb|qb|_:=id Gb;have lxs:=qa.9;have lys:=qb.9;rw[zu] at lxs;rw[af] at lys;have b1:j*pt.9<=8*4:=aP () i4;exists qF ga gb ko λl3 H3 s3 n3 g3=>?_
  have q3:=bT qa qb
  have G3:bg K Hz H3 l3 (iX mv pt (j+1)):=by
   rw[GI];exact #[_,g3,ce (λ_ _ z=>cC.same z s3) q3,je #[_,n3,q3]]
  have Gb3:=Gb.same s3;obtain zs|gz|qz|_:=id Gb3;have s03:=s'.trans s3;have gr3:=s03 _ _ g;exists #[#[_,br.of gz],?_];refine dS (K:=K) (F:=cC K Hz) (cC K Hz) (oS mv) gz qz (by rw[af];lia) (λa b=>a.same b) (λa b=>a.same b) ?_ ?_
  ·rintro i xs v H4 NY NN en s4 ⟨u,rfl,_,hu⟩ k1;have mn:=ai en
   have wx:xs.9=mv.9:=by
    obtain y0|h0|rfl:=au.mp mn;exact D5 (D.pw y0 h0) _
   have gr4:=s4 _ _ gr3;exists #[m,u,H0,mv,xs,rfl,(Gm.same s03).same s4,hu,(),(),λws hw=>#[by rw[D.mw ws hw,wx],KF.fitP D.mw D.pw (show j+1<=mv.9 by lia) ws hw xs mn],λr5 H5 n5 s5 R5=>k1 _ _ s5 #[r5,rfl,z1 _ (s03.none (s4.none n5)),R5]]
  rintro ys4 H4 l4 n4 s4 g4 pr4 nx4;walk_at "w";rw[Oe] at pr4;exact #[s03.trans s4,l3,l4,_,rfl,s'.none n3,G3.same s4,ys4,g4,pr4,je nx4]
 ·rintro σ' H' ⟨s',ro,so,y,rfl,nro,Ga,Gb⟩;exists k ro H' nro s' Ga
theorem pJ:sC ["_law_thing","_law_part"] 1 mD:=by walk_at "d"
theorem we (T:Txt K mg Z) (ac:bv P):T.jf.o P w base 2 (LB K):=by
 refine T.jf.F.k pJ ?_;walk_at "i";obtain x|n|rfl|⟨p,rfl,hp⟩|hn|k:=h
 refine #[_,(ak (dw (PW.pt (sP (mE (kM (zi rfl T.isinstance PyProof.Rows.boot_tuple T.tuple bQ))) (nQ (bh uS (bF bc (by rfl) T.len aW (dj bQ)) aj (bo _))))) (av (aX sQ)) cg)
  (ak (eL Yv rfl (UR bQ) (fo 1 pJ.nd)
   (av (dw (PW.pt (sP (mE (kM (zi rfl T.isinstance YR T.int cL))) (nQ (kM (zi rfl T.isinstance PyProof.Rows.boot_bool T.bool cL))))) (av (aX sQ)) cg)))
  (av (aX (Eb (ig An (aO bH bQ aj) aj (bo _)) (D9 (ig (xU (BK hr)) (cT (fQ T ac) hr T.dR (cH (aO bH bQ aj) (aO bH bQ aj))) bQ (bo _)))))))),?_]
 walk_at "s"
 try rw[iC]
 obtain hb|hg|_|hs:=hn;exists .inr #[p,_,_,rfl,hp,rfl,?_];exists #[_,_,rfl,.inr hp,?_];walk_at "w"
 try refine RD ?_
 exists #[#[_,hp],?_];refine RH (K:=K) (a:=p) (xs:=[.int n.1,.int n.2]) (λi σ' H'=>H'=H/\∃x,σ'=[some (.ref p),x]) #[rfl,none,rfl] (λi σ' H' _ #[e,_]=>by subst e;exact hp) ?_ ?_
 ·rintro i x σ' H' hx ⟨rfl,y,rfl⟩
  obtain ⟨z,rfl⟩:∃z,x=V.int z:=by
   have hm:x∈[V.int n.1,V.int n.2]:=ai hx;simp only[ay,aH,or_false] at hm;rcases hm with e | e
   ·exact #[_,e]
   ·exact #[_,e]
  exists .inl #[_,_,.int z,rfl,?_];exists .inl #[_,_,.int z,rfl,?_];exists #[rfl,_,rfl]
 ·rintro σ' H' ⟨rfl,x,rfl⟩;walk_at "w";rw[decide_eq_true hb];exists #[n.1,n.2,rfl,hb,hs.mono (),λr H' s1 h'=>?_];obtain e1|e2:=U4 hb hg;exists #[_,_,WL,(lo n.1 n.2,hi n.1 n.2),n,(),#[r,rfl,pA.of h'],#[p,rfl,s1.sqt hp],?_];rw[e1,e2,decide_eq_true rfl];exact k _ s1
theorem z9:sC ["_law_thing","_law_many"] 2 qC:=by walk_at "d"
theorem AA (T:Txt K mg Z) (ac:bv P):T.lI.o P w base 3 (xv K):=by
 refine T.lI.F.k z9 ?_;walk_at "i";obtain p|ns|rfl|hp|hl|hn|k:=h
 refine #[_,(ak (dw (PW.pt (sP (mE (kM (xT rfl T.isinstance YD T.list bQ))) (nQ (bh uS (bF bc (by rfl) T.len aW (dj bQ)) cL (bo _))))) (av (aX sQ)) cg)
  (av (aX (bF (A1 rfl) (by rfl) T.all PyProof.Rows.boot_all (dj (cu ["_law_one"] [] [] (cM bQ) (λ_=>(fo 0)) (λ_=>cv) (λ_=>(cT (we T ac) hr T.jf (dj bQ))))))))),?_]
 walk_at "s"
 try rw[iC]
 obtain xs|gx|qx:=id hp;have lx:=qx.9;exists #[_,_,.lst gx,rfl,?_];exists #[_,_,rfl,.inl (br.of gx),?_];walk_at "w";rw[show ((xs.9:Nat):Int)=(ns.9:Nat) by rw[lx],decide_eq_true rfl];exists #[#[_,br.of gx],?_];refine eP (K:=K) (xs:=xs) (λi ys H'=>aE H H'/\ys=Mg i (.bl true)) ko #[aE.refl _,rfl] (λi ys H' _ #[s,_]=>br.of (s _ _ gx)) ?_ ?_
 ·rintro i x ys H' hx hlen ⟨s,rfl⟩;obtain n|en|z:=bO qx hx;exists #[x,n,rfl,s.num z,hn n (ai en),λH2 s2=>#[s.trans s2,by rw[Dp]]]
 ·rintro ys H' hy ⟨s,rfl⟩ l hl';exists #[l,Mg xs.9 true,rfl,br.of (by rw[aD];simp),?_];have e4:(Mg xs.9 true).all id=true:=by simp
  rw[e4];exact k _ (s.trans (aE.new hl'))
theorem yK:sC ["_law_thing","_law_many","_law_wide"] 3 oO:=by walk_at "d"
theorem yO (T:Txt K mg Z) (ac:bv P):T.jY.o P w base 4 (zU K):=by
 refine T.jY.F.k yK ?_;walk_at "i";obtain p|rows|m|rfl|hp|hl|hm|hn|k:=h
 refine #[_,(ak (dw (PW.pt (sP (mE (kM (xT rfl T.isinstance YD T.list bQ))) (nQ (bh uS (bF bc (by rfl) T.len aW (dj bQ)) cL (bo _))))) (av (aX sQ)) cg)
  (av (aX (bF (A1 rfl) (by rfl) T.all PyProof.Rows.boot_all (dj (cu ["_law_row_here"] ["_law_wide"] [2] (cM bQ) (λ_=>(fo 0)) (λ_=>cv) (λ_=>(cT (AA T ac) hr T.lI (cH bQ cL))))))))),?_]
 walk_at "s"
 try rw[iC]
 obtain xs|gx|qx:=id hp;have lx:=qx.9;exists #[_,_,.lst gx,rfl,?_];exists #[_,_,rfl,.inl (br.of gx),?_];walk_at "w";rw[show ((xs.9:Nat):Int)=(rows.9:Nat) by rw[lx],decide_eq_true rfl];exists #[#[_,br.of gx],?_];refine eP (K:=K) (xs:=xs) (λi ys H'=>aE H H'/\ys=Mg i (.bl true)) ko #[aE.refl _,rfl] (λi ys H' _ #[s,_]=>br.of (s _ _ gx)) ?_ ?_
 ·rintro i x ys H' hx hlen ⟨s,rfl⟩;obtain ns|en|q|rfl|z:=bO qx hx;obtain e1|e2:=hn ns (ai en);exists #[q,ns,by rw[e1],z.same s,(),e2,λH2 s2=>#[s.trans s2,by rw[Dp]]]
 ·rintro ys H' hy ⟨s,rfl⟩ l hl';exists #[l,Mg xs.9 true,rfl,br.of (by rw[aD];simp),?_];have e4:(Mg xs.9 true).all id=true:=by simp
  rw[e4];exact k _ (s.trans (aE.new hl'))
theorem sN:sC ["_law_one","_law_other","_law_n"] 2 oN:=by walk_at "d"
theorem sR (T:Txt K mg Z) (ac:bv P):T.iN.o P w base 4 (Cz K):=by
 refine T.iN.F.k sN ?_;walk_at "i";obtain p|q|n|H0|H1|mv|g|rfl|G|Go|lm|hw|n8|fit|k:=h
 refine #[_,(ak (fL 2 sN.nd (bF bc (by rfl) T.len aW (dj bQ)))
  (av (aX (cu ["_law_row_here"] ["_law_n","_law_other"] [2,1] (cM bQ) (λ_=>(fo 0)) (λ_=>cv) (λ_=>(cu ["_law_j"] ["_law_row_here","_law_other"] [0,2] (cm rfl T.range (dj cL)) (λ_=>(fo 0)) (λ_=>cv) (λ_=>(cT (yC T ac) hr T.nG (cH cL (cu ["_law_line"] ["_law_j"] [0] (Ah K fh) (λ_=>(fo 0)) (λ_=>cv) (λ_=>(aO (nH K (by rfl)) bQ cL)))))))))))),?_]
 walk_at "s"
 try rw[iC]
 obtain xs|gx|qx|_:=id G;have lx:=qx.9;obtain os|go|qo|_:=id Go;have lo:=qo.9;rw[gN] at lo;exists #[_,_,rfl,.inl (br.of gx),?_];rw[<- lx,lm];exists #[#[_,br.of gx],?_];refine JO (K:=K) (as:=mv) (F:=cC K H0) (λc=>(Yq n).map λj=>fX c ((Yq n).map λl=>g l j)) gx qx () (λh s=>h.same s) ?_ ?_
 ·rintro i c v H2 NY NN ec s2 ⟨u,rfl,_,Ru⟩ k1;have mc:=ai ec;exists #[(),(),?_];refine iw (n:=n) (bY K) (λj=>fX c ((Yq n).map λl=>g l j)) () (λh s=>h.same s) ?_ ?_
  ·rintro j H3 NY3 NN3 hj s3 k3;have go3:=(s2.trans s3) _ _ go;exists #[#[_,br.of go3],?_];refine dS (K:=K) (as:=fR n g) (F:=cC K H1) (bY K) (λxs=>xs.getD j 0) go3 (ce (λ_ _ z=>cC.same z (s2.trans s3)) qo) (by rw[gN];lia) (λh s=>h.same s) (λh s=>h.same s) ?_ ?_
   ·rintro l r v H4 NY4 NN4 er s4 ⟨w,rfl,_,Rw⟩ k4;have lr:=KN r (ai er);obtain ws|gw|qw:=id Rw;obtain vx|ex|nx:=Eu qw (j:=j) ();exists b7 (br.of gw) ex ?_;exact k4 _ _ (aE.refl _) nx
   rintro ys5 H5 l5 hl5 s5 g5 pr5 _;rw[Mm hj] at pr5;exists #[u,l5,c,_,rfl,(Ru.same s3).same s5,#[ys5,g5,pr5],by rw[af,aN,hw c mc],by rw[hw c mc];lia,fit c mc j hj,λr6 H6 s6 n6=>?_];exact k3 _ _ (s5.trans s6) n6
  rintro ys7 H7 l7 hl7 s7 g7 pr7 _;exact k1 l7 H7 s7 hl7 #[ys7,g7,pr7]
 rintro ys H' r nr s' g' nd pr nn;rw[prodF lm hw] at pr;exact k r ys H' nr s' g' nd pr nn
theorem dA:sC ["_law_move_here","_law_n","_law_grid","_law_factor","_law_found","_law_k","_law_j","_law_total","_law_row_here"] 1 tJ:=by walk_at "d"
theorem v8 (T:Txt K mg Z) (ac:bv P):T.lh.o P w base 5 (zQ K):=by
 refine T.lh.F.k dA ?_;walk_at "i";obtain p|H0|mv|rfl|G|hw|n4|FS|k:=h
 refine #[_,(ak (fL 1 dA.nd (bF bc (by rfl) T.len aW (dj bQ)))
  (ak (jc 2 ["_law_k"] ["_law_n"] [1] dA.nd rfl rfl (cm rfl T.range (dj cL)) (λ_=>(fo 0)) (λ_=>cv) (λ_=>(bw Ol (fO (dj (c8 (cH aj aj)))) cL)))
  (ak (fL 3 dA.nd (c8 (cH aj aj)))
  (ak (fL 4 dA.nd (fO jx))
  (ak (eL Yv rfl (CN rfl T.range (cH aj (bw fj cL aj))) (fo 5 dA.nd)
   (ak (fL 2 dA.nd (cT (sR T ac) hr T.iN (cH bQ fh)))
  (ak (eL Yv rfl (cm rfl T.range (dj cL)) (fo 6 dA.nd)
   (av (gM (cT (kv T ac) hr T.gU (cH (aO bA (aO bA fh rd) rd) jC)) (gX (aO bA fh rd) rd set_list))))
  (ak (fL 7 dA.nd (c8 (cH aj aj)))
  (ak (eL Yv rfl (D7 rfl T.enumerate (dj (cT (sR T ac) hr T.iN (cH bQ fh)))) (vq rfl (cp (fo 6 dA.nd) (cp (fo 8 dA.nd) gP)))
   (av (fL 7 dA.nd (cT (kv T ac) hr T.gU (cH Bw (aO bA Iw rd))))))
  (ak (fL 3 dA.nd (cT (fQ T ac) hr T.dR (cH (bw jy aj (aO bH Bw aj)) (bw cN (aO bH Bw aj) xO))))
  (av (jd (uR cW cJ cI iV uM (dj (c8 (cH (bw jy aj (aO bH jC aj)) (aO bH jC aj)))))))))))))
  (av (aX (LP uM (pL (qS my aj)))))))))),?_]
 walk_at "s"
 try rw[iC]
 obtain Dd|D0|D1|ff|tt:=id FS;obtain xs|gx|qx|_:=id G;have lx:=qx.9;have p16:Dd<=2^3995000:=ag D1 (ar () ());have szM:∀k,k<=mv.9->∀i j,i < mv.9->j < mv.9->jV ((mK (aS mv) mv.9 k).1 i j):=λk hk i j hi hj=>j7 ((tt k hk).1 i j hi hj) D0 p16 (ar () ())
 have szC:∀k,k<=mv.9->jV (mK (aS mv) mv.9 k).2:=λk hk=>j7 (tt k hk).2 D0 p16 (ar () ())
 have szS:∀k,k<=mv.9->∀j,j<=mv.9->jV (aK j λa=>(mK (aS mv) mv.9 k).1 a a):=λk hk j hj=>by
  have t:=Tp.sum (k:=j) (M:=Dd) (W:=2^500000) (f:=λa=>(mK (aS mv) mv.9 k).1 a a) λa ha=>(tt k hk).1 a a () ()
  refine j7 t D0 p16 (ag (ax _ (show j<=2^3 by lia)) ?_);rw[<- bG];exact ar () ()
 exists #[_,_,rfl,.inl (br.of gx),?_];rw[<- lx];exists #[(),(),?_];refine JN (K:=K) (n:=mv.9) (λ_=>(Yq mv.9).map λ_=>0) () ?_ ?_
 ·rintro i H1 NY NN hi s1 k1;exists cw λt2 H2 s2 g2=>?_
  exists dU λl3 H3 s3 n3 g3=>?_
  exists NZ g3 () λl4 H4 s4 n4' g4=>?_
  refine k1 l4 H4 ((s2.trans s3).trans s4) (s2.none (s3.none n4')) ?_;rw[GB];exact #[_,g4,vv (bY.mk (q:=0) ((s3.trans s4) _ _ g2) rfl) mv.9]
 rintro ys0 H1 gp0 n1 s1 g1 nd1 pr1 nn1;have G1:bg K H H1 gp0 (fR mv.9 (Gk (aS mv) mv.9 0)):=#[ys0,g1,pr1,nn1];exists cw λf0 H2 s2 g2=>?_
 exists dU λfl H3 s3 n3 g3=>?_
 have s03:=(s1.trans s2).trans s3;have nfl:H fl=none:=s1.none (s2.none n3);have N0:bY K H3 (mK (aS mv) mv.9 0).2 (.ref f0):=bY.mk (q:=1) (s3 _ _ g2) rfl;exists #[#[(),(),(),()],?_];refine yd (lo:=1) (n:=(((mv.9:Int)+1) - 1).toNat) (λi σ' H'=>aE H H'/\∃Hz gp fv us y1 y2 y3 y4,σ'=[some (.ref p),some (.int mv.9),some (.ref gp),some fv,some (.ref fl),y1,y2,y3,y4]/\bg K Hz H' gp (fR mv.9 (Gk (aS mv) mv.9 i))/\bY K H' (mK (aS mv) mv.9 i).2 fv/\H' fl=some (.lst us)/\Yt (bY K H') ((Yq i).map λk=>-((mK (aS mv) mv.9 (k+1)).2)) us) #[s03,H,gp0,.ref f0,[],none,none,none,none,rfl,G1.same (s2.trans s3),N0,g3,.nil] ?_ ?_
 ·rintro i σ' H4 hi ⟨s4,Hz,gp,fv,us,y1,y2,y3,y4,rfl,G4,N4,gf4,pr4⟩;have i4:i < mv.9:=()
  have lu:=pr4.9;rw[af,aN] at lu;rw[show ((1:Int)+(i:Int))=((i+1:Nat):Int) by lia];exists #[p,gp,mv.9,H0,Hz,mv,_,rfl,G.same s4,G4,rfl,hw,(),FS.gk (),λgq ys5 H5 n5 s5 g5 nd5 pr5 nn5=>?_];have e5:(fR mv.9 λa b=>aK mv.9 λl=>aS mv a l*Gk (aS mv) mv.9 i l b)=fR mv.9 λa b=>(mK (aS mv) mv.9 i).1 a b+if a=b/\a < 0 then (mK (aS mv) mv.9 i).2 else 0:=uj λa b _ _=>by rw[KQ,if_neg (),jk]
  rw[e5] at pr5;have ly5:=pr5.9;rw[gN] at ly5;have s45:=s4.trans s5;have gf5:=s5 _ _ gf4;have fl5:H4 fl≠none:=by rw[gf4];exact λz=>nomatch z
  have gqf:gq≠fl:=λz=>fl5 (by rw[<- z];exact n5)
  exists #[(),(),?_];refine dZ (n:=mv.9) (λj σ' H'=>aE H H'/\aE H4 H'/\(∃y1 y2 y3,σ'=[some (.ref p),some (.int mv.9),some (.ref gq),some fv,some (.ref fl),some (.int (i+1:Nat)),y1,y2,y3])/\H' gq=some (.lst ys5)/\Yt (cC K H4 H') (fR mv.9 λa b=>(mK (aS mv) mv.9 i).1 a b+if a=b/\a < j then (mK (aS mv) mv.9 i).2 else 0) ys5) #[s45,s5,#[_,_,_,rfl],g5,pr5] ?_ ?_
  ·rintro j σ' H6 hj ⟨s6,s46,⟨y1,y2,y3,rfl⟩,g6,pr6⟩;have ev:=ae (show j < ys5.9 by lia);obtain row|er|q|eq|nq|Rq:=bO pr6 ev;rw[eq] at ev;rw[uk hj] at er;have er:=bP er;subst er;obtain zs|gz|qz:=id Rq;have lz:=qz.9;rw[af,aN] at lz;obtain vx|ex|nx:=Eu qz (j:=j) (by rw[af,aN];exact hj);rw[qQ hj,if_neg (),jk] at nx;have qg:gq≠q:=λz=>nn5 (by rw[z];exact ai ev)
   exists b7 (br.of g6) (dC ev) ?_;exists b7 (br.of gz) ex ?_;exists #[_,_,_,_,rfl,nx,N4.same s46,szM i () j j hj hj,szC i (),λr7 H7 s7 n7=>?_];have gz7:=s7 _ _ gz;exists b7 (br.of (s7 _ _ g6)) (dC ev) ?_;exists fg gz7 (fu ()) rfl ?_;have hq:H q=none:=s4.none nq;refine #[(s6.trans s7).after hq,(s46.trans s7).after nq,#[_,_,_,rfl],by rw[aY qg];exact s7 _ _ g6,?_];have R7:df K (upd H7 q (.lst (zs.set j (.ref r7)))) q (((Yq mv.9).map λb=>(mK (aS mv) mv.9 i).1 j b+if j=b/\j < j then (mK (aS mv) mv.9 i).2 else 0).set j ((mK (aS mv) mv.9 i).1 j j+(mK (aS mv) mv.9 i).2)):=#[_,aD,gY (ce (λ_ _ z=>bY.updL (bY.same z s7) gz7) qz) j (n7.updL gz7)];have P7:=yy gz7 nq R7 (ce (λ_ _ z=>cC.same z s7) pr6) nd5 ev
   have e7:=Ml (n:=mv.9) (k:=j) (h:=λj a b=>(mK (aS mv) mv.9 i).1 a b+if a=b/\a < j then (mK (aS mv) mv.9 i).2 else 0) hj λa b _ _=>by
    by_cases e1:a=j
    ·subst e1;rw[if_pos rfl];by_cases e2:b=a
     ·subst e2;rw[if_pos rfl]
     ·rw[if_neg e2,if_neg (),if_neg ()]
    ·rw[if_neg e1];by_cases e2:a=b/\a < j
     ·rw[if_pos e2,if_pos ()]
     ·rw[if_neg e2,if_neg ()]
   have e8:(mK (aS mv) mv.9 i).1 j j+(mK (aS mv) mv.9 i).2=(mK (aS mv) mv.9 i).1 j j+if j=j/\j < j+1 then (mK (aS mv) mv.9 i).2 else 0:=by rw[if_pos #[rfl,()]]
   rw[e8] at P7;rw[<- e7];exact P7
  rintro σ' H6 ⟨s6,s46,⟨y5,y6,y7,rfl⟩,g6,pr6⟩
  have e6:(fR mv.9 λa b=>(mK (aS mv) mv.9 i).1 a b+if a=b/\a < mv.9 then (mK (aS mv) mv.9 i).2 else 0)=fR mv.9 (Gk (aS mv) mv.9 (i+1)):=uj λa b ha hb=>by
   show _=_+_
   by_cases e:a=b
   ·rw[if_pos #[e,ha],if_pos e]
   ·rw[if_neg (λz=>e z.1),if_neg e]
  rw[e6] at pr6;have G6:bg K H4 H6 gq (fR mv.9 (Gk (aS mv) mv.9 (i+1))):=#[ys5,g6,pr6,nn5];have gf6:=s46 _ _ gf4;exists cw λt7 H7 s7 g7=>?_
  exists #[p,gq,mv.9,H0,H4,mv,_,rfl,G.same (s6.trans s7),G6.same s7,rfl,hw,(),FS.gk (),λgr ys8 H8 n8 s8 g8 nd8 pr8 nn8=>?_];have e8:(fR mv.9 λa b=>aK mv.9 λl=>aS mv a l*Gk (aS mv) mv.9 (i+1) l b)=fR mv.9 (mK (aS mv) mv.9 (i+1)).1:=uj λa b _ _=>KQ _ _ _
  rw[e8] at pr8;have ly8:=pr8.9;rw[gN] at ly8;exists #[#[_,br.of g8],?_];refine GO (K:=K) (xs:=ys8) (λj σ' H'=>aE H8 H'/\∃tv y1 y3,σ'=[some (.ref p),some (.int mv.9),some (.ref gq),some fv,some (.ref fl),some (.int (i+1:Nat)),y1,some tv,y3]/\bY K H' (aK j λa=>(mK (aS mv) mv.9 (i+1)).1 a a) tv) #[aE.refl _,.ref t7,_,_,rfl,bY.mk (q:=0) (s8 _ _ g7) rfl] (λj σ' H' _ #[s,_]=>br.of (s _ _ g8)) ?_ ?_
  ·rintro j v σ' H9 r9 hv ⟨s9,tv,y1,y3,rfl,N9⟩ hr9;have hj:j < mv.9:=by have:=(aI.mp hv).1;lia
   obtain row|er|q|rfl|nq|Rq:=bO pr8 hv;rw[uk hj] at er;have er:=bP er;subst er;have sr:aE H9 (upd H9 r9 (.tup [.int j,.ref q])):=aE.new hr9;have gr:(upd H9 r9 (.tup [.int j,.ref q])) r9=some (.tup [.int j,.ref q]):=aD;generalize upd H9 r9 (.tup [.int j,.ref q])=Ha at sr gr ⊢;obtain zs|gz|qz:=Rq.same (s9.trans sr);obtain vx|ex|nx:=Eu qz (j:=j) (by rw[af,aN];exact hj);rw[qQ hj] at nx;exists b7 (br.of gz) ex ?_;exists #[_,_,_,_,rfl,N9.same sr,nx,szS (i+1) () j (),szM (i+1) () j j hj hj,λrb Hb sb nb=>?_];exists #[(s9.trans sr).trans sb,_,_,_,rfl,nb]
  rintro σ' H9 ⟨s9,tv,y8,y9,rfl,N9⟩;rw[ly8.symm] at N9;obtain tp|rfl|sq:=id N9;have k0:((i+1:Nat):Int)≠0:=()
  have dpos:=gZ (aK mv.9 λa=>(mK (aS mv) mv.9 (i+1)).1 a a);have szt:=szS (i+1) () mv.9 ();exists fW (K9 () ()) ?_;exists #[_,_,rfl,eY dpos (),(szt.2.mul (show Sz 4 ((i+1:Nat):Int) by show ((i+1:Nat):Int).natAbs < 2^4;rw[b9];lia)).mono (),λra Ha sa ga=>?_];have Na:bY K Ha (mK (aS mv) mv.9 (i+1)).2 (.ref ra):=bY.mk ga (oi (eY dpos ()) (Nk i));obtain _|e0|sqa:=id Na;cases e0;have s4a:=(((s46.trans s7).trans s8).trans s9).trans sa;have gfa:=s4a _ _ gf4;exists #[.inl #[rfl,_,br.of gfa],?_];exists cw λtb Hb sb gb=>?_
  have gfb:=sb _ _ gfa;have Nb:bY K Hb (-((mK (aS mv) mv.9 (i+1)).2)) (.ref tb):=bY.mk gb (Rm rfl);exists iT gfb (dk ()) ?_;have s8b:=((s7.trans s8).trans s9).trans (sa.trans sb);refine #[((s4.trans s4a).trans sb).after nfl,H4,gq,.ref ra,_,_,_,_,_,rfl,(G6.same s8b).updL gfb fl5 gqf,(Na.same sb).updL gfb,aD,?_];rw[i8,cR];exact bT (ce (λ_ _ z=>bY.updL (bY.same z (s4a.trans sb)) gfb) pr4) (.cons (Nb.updL gfb) .nil)
 rintro σ' H4 ⟨s4,Hz,gp,fv,us,y1,y2,y3,y4,rfl,G4,N4,gf4,pr4⟩;rw[show (((mv.9:Int)+1) - 1).toNat=mv.9 by lia] at pr4;walk_at "w";unfold V4;exists #[rfl,fl,us,rfl,br.of gf4,λr5 n5=>?_];exact k r5 _ (s4.none n5) (s4.trans (aE.new n5)) #[_,aD,ce (λ_ _ z=>bY.same z (aE.new n5)) (Al pr4)]
theorem il:sC ["_law_parts_here","_law_rows","_law_move_here","_law_i","_law_row_here","_law_k"] 2 qE:=by walk_at "d"
theorem AB (T:Txt K mg Z) (ac:bv P):T.lJ.o P w base 4 (vT K):=by
 refine T.lJ.F.k il ?_;walk_at "i";obtain r|p|m|pp|l|H0|H1|H2|mv|pt|lk|F|rfl|g|Gm|Gp|D|GF_|lF|wF|C|k:=h
 refine #[_,(ak (fL 2 il.nd (fO jx))
  (ak (eL Yv rfl (cm rfl T.range (dj (bF bc (by rfl) T.len aW (dj (aO bH bQ aj))))) (fo 3 il.nd)
   (ak (fL 4 il.nd (eN oj (by rfl) T.list YD (dj (aO bA (aO bH bQ aj) jC))))
  (ak (eL Yv rfl (cm rfl T.range (dj (bF bc (by rfl) T.len aW (dj cL)))) (fo 5 il.nd)
   (av (fL 4 il.nd (cT (wd T ac) hr T.lE (cH uM (cT (rZ T ac) hr T.kh (cH (aO bA (aO bA (aO bH bQ aj) xO) jC) (aO bA cL xO))))))))
  (av (jd (uR cW cJ cI iV fh (dj uM)))))))
  (av (aX (c8 (Bj fh (aO bH bQ aj) (aO bH bQ aj))))))),?_]
 walk_at "s"
 try rw[iC]
 obtain ms|gm|qm|_:=id Gm;obtain qs|gp|qp|_:=id Gp;obtain fs|gf|qf|_:=id GF_;have lms:=qm.9;have lqs:=qp.9;have lfs:=qf.9;have d1:=D.n8;have d2:=D.i4;exists dU λml H3 s3 n3 g3=>?_
 have ml3:H3 ml≠none:=by rw[g3];exact λz=>nomatch z
 have gr3:=s3 _ _ g;exists #[_,_,rfl,.inl (br.of (s3 _ _ gm)),?_];rw[<- lms];exists #[(),(),?_];refine dZ (n:=mv.9) (λi σ' H'=>aE H H'/\(∀q,H' q=none->H3 q=none)/\∃us y1 y2 y3,σ'=[some (.ref r),some (.ref p),some (.ref ml),y1,y2,y3]/\H' ml=some (.lst us)/\Yt (cC K H3 H') ((kx mv pt F).take i) us) #[s3,(λ_ h=>h),[],_,_,_,rfl,g3,.nil] ?_ ?_
 ·rintro i σ' H4 hi ⟨s4,h34,us,y1,y2,y3,rfl,g4,pr4⟩;have lu:=pr4.9;rw[bf,fw] at lu;have gr4:=s4 _ _ g;have ev:=ae (show i < ms.9 by lia);obtain line|el|qa|eqa|_|Ra:=bO qm ev;rw[eqa] at ev;have ll:=D.mw line (ai el);obtain ls|gl|ql:=Ra.same s4;exists b7 (br.of (s4 _ _ gm)) (dC ev) ?_;exists #[qa,ls,rfl,.inl (br.of gl),λrw5 n5=>?_];have s5:aE H4 (upd H4 rw5 (.lst ls)):=aE.new n5;have g5:(upd H4 rw5 (.lst ls)) rw5=some (.lst ls):=aD;generalize upd H4 rw5 (.lst ls)=H5 at s5 g5 ⊢
  have e0:((Yq mv.9).map λb=>aS mv i b+aK 0 λk=>aS pt k i*aS F k b)=line:=by
   have e1:∀b,aS mv i b+(aK 0 λk=>aS pt k i*aS F k b)=line.getD b 0:=λb=>by
    show _+(0:Rat)=_
    rw[jk];unfold aS;rw[aa (l:=mv),el];rfl
   rw[cF λb _=>e1 b];exact CT ll
  have R5:df K H5 rw5 ((Yq mv.9).map λb=>aS mv i b+aK 0 λk=>aS pt k i*aS F k b):=by
   rw[e0];exact #[ls,g5,ce (λ_ _ z=>bY.same z s5) ql]
  have s45:=s4.trans s5;exists #[_,_,rfl,.inl (br.of (s45 _ _ gf)),?_];rw[<- lfs];exists #[(),(),?_];refine dZ (n:=F.9) (λkk σ' H'=>aE H4 H'/\∃rw y3,σ'=[some (.ref r),some (.ref p),some (.ref ml),some (.int i),some (.ref rw),y3]/\H4 rw=none/\df K H' rw ((Yq mv.9).map λb=>aS mv i b+aK kk λk=>aS pt k i*aS F k b)) #[s5,rw5,_,rfl,n5,R5] ?_ ?_
  ·rintro kk σ' H6 hk ⟨s6,rw6,y6,rfl,n6,R6⟩;have s46:=s4.trans s6;have gr6:=s46 _ _ g;have ep:=ae (show kk < qs.9 by lia);obtain prow|er|qb|eqb|_|Rb:=bO qp ep;rw[eqb] at ep;have lpr:=D.pw prow (ai er);obtain bs|gb|qbs:=Rb.same s46;obtain vx|ex|nx:=Eu qbs (j:=i) ();have ef:=ae (show kk < fs.9 by lia);obtain frow|efr|qc|eqc|_|Rc:=bO qf ef;rw[eqc] at ef;have lfr:=wF frow (ai efr);have e1:prow.getD i 0=aS pt kk i:=by unfold aS;rw[aa (l:=pt),er];rfl
   have e2:frow=(Yq mv.9).map λb=>aS F kk b:=by
    rw[<- CT lfr];exact cF λb _=>by unfold aS;rw[aa (l:=F),efr];rfl
   rw[e1] at nx;exists b7 (br.of (s46 _ _ gp)) (dC ep) ?_;exists b7 (br.of gb) ex ?_;exists b7 (br.of (s46 _ _ gf)) (dC ef) ?_;walk_at "w";rw[e2] at Rc;refine #[_,qc,_,_,rfl,nx,C.sp kk i,Rc.same s46,by rw[af,aN];lia,λz hz=>?_,λr7 H7 n7 s7 R7=>?_]
   ·obtain b|_|rfl:=au.mp hz;exact C.sf kk b
   exists #[rw6,r7,_,_,rfl,R6.same s7,R7,by rw[af,af,af],by rw[af,aN];lia,λz hz=>?_,λz hz=>?_,λr8 H8 n8 s8 R8=>?_]
   ·obtain b|_|rfl:=au.mp hz;exact C.sj kk i b ()
   ·obtain z'|hz'|rfl:=au.mp hz;obtain b|_|rfl:=au.mp hz';exact C.sq kk i b
   rw[IK (m:=0)] at R8;exists #[(s6.trans s7).trans s8,r8,_,rfl,s6.none (s7.none n8),?_];rw[cF λb _=>show aS mv i b+aK (kk+1) (λk=>aS pt k i*aS F k b)=(aS mv i b+aK kk λk=>aS pt k i*aS F k b)+aS pt kk i*aS F kk b from by show _+(_+_)=_;rw[Rat.add_assoc]];exact R8
  rintro σ' H6 ⟨s6,rw6,y6,rfl,n6,R6⟩;have g6:=s6 _ _ g4;have rl:rw6≠ml:=λz=>by rw[z,g4] at n6;cases n6
  exists #[.inl #[rfl,_,br.of g6],?_];exists iT g6 (dk ()) ?_
  refine #[(s4.trans s6).after n3,(λq hq=>h34 q (s6.none (YM λz=>by
   by_cases e:q=ml
   ·rw[e,aD] at hq;cases hq
   ·rw[aY e] at hq;exact z hq))),_,_,_,_,rfl,aD,?_]
  have ec:(kx mv pt F)[i]?=some ((Yq mv.9).map λb=>aS mv i b+aK F.9 λk=>aS pt k i*aS F k b):=by rw[lF];exact uk hi
  rw[take_snoc ec];have off:=UX rl;exact bT (ce (λ_ _ z=>cC.updL (cC.same z s6) g6 ml3) pr4) (.cons #[rw6,rfl,h34 _ n6,R6.updL g6 rl] .nil)
 rintro σ' H4 ⟨s4,_,us,y1,y2,y3,rfl,g4,pr4⟩;rw[aF (by rw[fw];exact ah _)] at pr4;have gr4:=s4 _ _ g;exists cw λt5 H5 s5 g5=>?_
 have nn:V.ref ml∉us:=λz=>by
  obtain _|_|q|e|h|_:=eO pr4 z;cases e;exact ml3 h
 exact k t5 ml H5 (s4.trans s5) g5 n3 #[us,s5 _ _ g4,ce (λ_ _ z=>cC.same (z.weak s3) s5) pr4,nn]
theorem iQ:sC ["_law_system","_law_parts_here","_law_wish_here","_law_full","_law_handed","_law_kind","_law_told_here","_law_first","_law_row_here"] 4 rP:=by walk_at "d"
theorem BF (T:Txt K mg Z) (ac:bv P):T.mZ.o P w base 12 (yw K Z.a_System):=by
 refine T.mZ.F.k iQ ?_;walk_at "i";obtain sy|r|wq|fl|H0|H1|M1|M2|Vx|mv|pt|lk|R|ps|wish|rfl|A|P0|n4|X|Rw|lw|⟨Mw,w0,wb,tw⟩|RR|hfl|k:=h
 refine #[_,(ak (fL 4 iQ.nd (eN (iY K (by rfl)) (by rfl) T.list YD (dj fh)))
  (ak (gM (cT (rY T ac) hr T.jH (cH bQ uM)) (vq rfl (cp (fo 5 iQ.nd) (cp (fo 6 iQ.nd) gP))))
  (ak (dw (PW.pt (sP (bh (Ed (BK hr)) uM fh (bo _)) (nQ (bh uS (ig fI xO Ai (bo _)) jC (bo _))))) (av (aX sQ)) cg)
  (ak (dw (mE (kM jC)) (av (aX sQ)) cg)
  (ak (dw (mE (kM (cT (yO T ac) hr T.jY (Bj rd (bF bc (by rfl) T.len aW (dj (aO bH cL aj))) (bF bc (by rfl) T.len aW (dj (aO bH cL aj))))))) (av (aX sQ)) cg)
  (ak (dw (bh (Ed (BK hr)) (cT (v8 T ac) hr T.lh (dj (aO bH (cT (AB T ac) hr T.lJ (cH cL rd)) aj))) fh (bo _)) (av (aX sQ)) cg)
  (ak (fL 7 iQ.nd (cT (kS T ac) hr T.gE (dj rd)))
  (ak (eL Yv rfl (cM rd) (fo 8 iQ.nd)
   (av (jd (uR cW cJ cI iV Iw (dj (c8 (cH aj aj)))))))
  (ak (jd (uR cW cJ cI iV rd (dj (fO jx))))
  (av (aX (ig (xU (BK hr)) (cT (rY T ac) hr T.jH (cH bQ fh)) (c8 (cH Ai Bw)) (bo _))))))))))))),?_]
 walk_at "s"
 try rw[iC]
 obtain wv|gw|qw:=id Rw;have lwv:=qw.9;have D:=A.D;have d4:=D.i4;have ST:=A.Y.st wish Mw lw w0 wb tw;exists #[wq,wv,rfl,.inl (br.of gw),λcq nc=>?_];have sc:aE H (upd H cq (.lst wv)):=aE.new nc;have Rc:df K (upd H cq (.lst wv)) cq wish:=#[wv,aD,ce (λ_ _ z=>bY.same z sc) qw];generalize upd H cq (.lst wv)=Hc at sc Rc ⊢;exists #[sy,cq,H1,mv,pt,lk,R,ps,wish,rfl,A.same sc,Rc,lw,ST,RR,λfull t2 g G H2 s2 g2 ng Gg lG wG KP DT=>?_,λlt t2 H2 s2 g2=>?_]
 rotate_left
 ·have s02:=sc.trans s2;rw[decide_eq_false ()] at hfl;subst hfl;exists #[_,_,GK,wish,wish,(),(Rc.same s2).kind,(Rw.same s02).kind,?_];rw[decide_eq_true rfl];walk_at "w";rw[decide_eq_false (show ¬(YV "no"=YV "yes") by decide),decide_eq_true (rfl:false=false)];walk_at "w"
  try refine N2 (by assumption) ?_
  exists k _ s02
 have s02:=sc.trans s2;rw[decide_eq_true full] at hfl;subst hfl;exists #[_,_,GK,wish,wish,(),(Rc.same s2).kind,(Rw.same s02).kind,?_];rw[decide_eq_true rfl];exists N2 (by assumption) ?_;obtain m|p|l|gt|mn|pn|ln|Gm|Gp|Gl:=P0.same s02;obtain um|gm|qm|_:=id Gm;obtain up|gp|qp|_:=id Gp;have lum:=qm.9;have lup:=qp.9;obtain CL|szG:=Sd X () d4 KP;obtain ow|FS:=OO X () d4 n4 KP;have lm1:(G.map (YO nm)).9=pt.9:=by rw[af];exact lG
 exists #[_,_,rfl,.inl (br.of gp),?_];rw[<- lup];exists #[_,_,rfl,.inl (br.of gm),?_];rw[<- lum];exists #[g,_,mv.9,by rw[lm1],Gg.gridK,by rw[lm1];lia,(),λns' hx=>?_,λH3 s3=>?_]
 ·obtain xs|mx|rfl:=au.mp hx;refine #[by rw[af];exact wG xs mx,λv hv=>?_];obtain v|mv'|rfl:=au.mp hv;exact DB (szG xs mx v mv')
 exists #[r,g,m,p,l,H0,Hc,H0,mv,pt,lk,G,rfl,s3 _ _ gt,Gm.same s3,Gp.same s3,D,Gg.same s3,lG,wG,CL,λdt m2 H4 s4 gd nm2 Gm2=>?_];exists #[m2,_,kx mv pt G,rfl,Gm2,λxs hx=>by rw[C7 xs hx,fw],by rw[fw];exact n4,FS,λwr H5 nwr s5 R5=>?_];rw[ow] at R5;have s25:=s3.trans (s4.trans s5);have s05:=s02.trans s25;exists #[_,_,GK,wish,wish,(),R5.kind,(Rw.same s05).kind,?_];rw[decide_eq_true rfl];clear R5 CL FS KP gm qm gp qp Gm Gp Gl gd nm2 Gm2 Rc;have G5:=Gg.same s25;exists #[g,_,G,rfl,G5,(),λxs hx=>by rw[wG xs hx];lia,λfr H6 nfr s6 Gf=>?_];obtain zs|L0|lz:=LL.of (B:=mv.9) (N:=λq=>H q=none/\H5 q≠none) G5 (λxs hx=>by rw[wG xs hx];exact ah _) (λq h h'=>#[sc.none h,h']);have hg5:H5 g≠none:=by rw[L0.1];exact λz=>nomatch z
 have Lg:=L0.same s6;have s06:=s05.trans s6;exists #[#[_,br.of Lg.1],?_];refine qT (K:=K) (a:=g) (xs:=zs) (λi2 σ' H'=>aE H H'/\kD (λq=>H5 q≠none) H6 H'/\LL (λq=>H q=none/\H5 q≠none) (mv.9+i2) H' g zs/\∃y,σ'=[some (.ref sy),some (.ref r),some (.ref wq),some (.bl true),some (.ref cq),some (.str (YV "yes")),some (.ref g),some (.ref fr),y]) #[s06,kD.of (aE.refl _),Lg,_,rfl] (λi σ' H' _ #[_,_,L,_]=>br.of L.1) ?_ ?_
 ·rintro i2 v σ' Hi hv ⟨ei,ki,Li,y,rfl⟩;have hi:=(aI.mp hv).1;obtain q|ws|rfl|nq|qt|gq|lq:=Li.2 v (ai hv);exists #[.inl #[rfl,_,br.of gq],?_];exists cw λt2 Hj sj gj=>?_
  have gqj:=sj _ _ gq;exists iT gqj (dk ()) ?_;exact #[(ei.trans sj).after nq.1,(ki.trans (kD.of sj)).trans (kD.set gqj nq.2),(Li.same sj).upd qt () (by rw[ao,aQ];lia),_,rfl]
 rintro σ' Hi ⟨ei,ki,Li,y,rfl⟩;exists #[.inl #[rfl,_,br.of Li.1],?_];exists dU λl8 Hj sj nj gj=>?_
 have Lj:=Li.same sj;exists iT Lj.1 (dk ()) ?_;have sm:aE H (upd Hj g (.lst (zs++[.ref l8]))):=(ei.trans sj).after (sc.none ng);have km:kD (λq=>H5 q≠none) H6 (upd Hj g (.lst (zs++[.ref l8]))):=(ki.trans (kD.of sj)).trans (kD.set Lj.1 hg5);generalize upd Hj g (.lst (zs++[.ref l8]))=Hm at sm km ⊢;clear Lj Li Lg L0 ei ki;have Gfm:bg K H5 Hm fr G:=Gf.keepL km nfr λq h z=>z h
 exists #[sy,wq,H1,mv,pt,lk,R,ps,wish,rfl,A.same sm,Rw.same sm,lw,ST,RR,λ_ t8 g8 G8 H8 s8 gt8 ng8 Gg8 lG8 wG8 KP8 DT8=>?_,λlt=>absurd full ()];cases DT8.uniq DT;exists cw λt9 H9 s9 gt9=>?_
 exists #[_,_,Ta WK AO,(YV "yes",G),(YV "yes",G),(),#[t8,_,_,rfl,pA.of (s9 _ _ gt8),rfl,(Gg8.same s9).kind],#[t9,_,_,rfl,pA.of gt9,rfl,(Gfm.same (s8.trans s9)).kind],?_];rw[decide_eq_true rfl];exact k _ (sm.trans (s8.trans s9))
theorem oK:sC ["_law_bag_here","_law_parts_here","_law_n","_law_way"] 2 qv:=by walk_at "d"
theorem Ay (T:Txt K mg Z) (ac:bv P):T.k6.o P w base 6 (yu K):=by
 refine T.k6.F.k oK ?_;walk_at "i";obtain b|r|H0|M1|M2|Vx|mv|pt|lk|rfl|B0|hb0|P0|D|n4|X|k:=h
 refine #[_,(ak (fL 2 oK.nd (bF bc (by rfl) T.len aW (dj (aO bH cL aj))))
  (ak (fL 3 oK.nd (cT (bU T ac) hr T.bx (cH bQ aj)))
  (ak (dw (bh fI jC aj (bo _)) (av (aX (bw Ol (fO (dj (c8 (cH aj aj)))) fh))) cg)
  (ak (dw (bh fI jC aj (bo _)) (av (aX (cu ["_law_k"] [] [] (cm rfl T.range (dj fh)) (λ_=>(fo 0)) (λ_=>cv) (λ_=>(c8 (cH (eN oA (by rfl) T.int YR (dj (ig fI bQ aj (bo _)))) aj)))))) cg)
  (ak (dw (bh fI jC aj (bo _)) (av (aX (cT (v8 T ac) hr T.lh (dj (aO bH cL aj))))) cg)
  (ak (dw (PW.pt (j9 (bh oR fh aj (bo _)) (kL (bh fI (cT (bU T ac) hr T.bx (cH bQ aj)) aj (bo _))))) (av (aX (cT (pP T ac) hr T.iF (Bj bQ fh aj)))) cg)
  (av (aX (cT (pP T ac) hr T.iF (Bj bQ fh aj)))))))))),?_]
 walk_at "s"
 try rw[iC]
 obtain m|p|l|gt|mn|pn|ln|Gm|Gp|Gl:=id P0;obtain um|gm|qm|_:=id Gm;have lum:=qm.9;exists #[_,_,rfl,.inl (br.of gm),?_];rw[<- lum];exists #[b,5,rfl,B0,(),(),λv H1 v0 v1 B1 u1=>?_];clear gt Gm Gp Gl gm qm lum;exists iZ (λh0=>?_) (λh0=>?_)
 ·exists cw λt6 H6 s6 g6=>?_
  exists dU λl7 H7 s7 n7 g7=>?_
  exists NZ g7 () λq1 H8 s8 nq1 g8=>?_
  have s18:=(s6.trans s7).trans s8;exact k q1 _ H8 (λz=>(B1.same (s6.trans s7)).at (by rw[<- z];exact nq1)) (B1.same s18) (u1.same s18) #[_,g8,vv (bY.mk (q:=0) ((s7.trans s8) _ _ g6) rfl) mv.9] cE (Kg λz hz=>.inl (gJ hz))
 exists iZ (λh1=>?_) (λh1=>?_)
 ·exists #[(),(),?_];refine iw (n:=mv.9) (bY K) (λj=>if j=0 then (1:Rat) else 0) () (λa b=>a.same b) ?_ ?_
  ·rintro j Hb NY NN hj sa k1;exists cw λtb Hc sc gc=>k1 _ _ sc (bY.mk gc ?_)
   by_cases z:j=0
   ·rw[if_pos z,decide_eq_true ()];rfl
   ·rw[if_neg z,decide_eq_false ()];rfl
  rintro zs H9 q2 nq2 s9 gu pru _
  exact k q2 _ H9 (λz=>B1.at (by rw[<- z];exact nq2)) (B1.same s9) (u1.same s9) #[zs,gu,pru] (by rw[af,aN]) (Kg λz hz=>by
   obtain j|_|rfl:=au.mp hz;by_cases e:j=0
   ·exact .inr (if_pos e)
   ·exact .inl (if_neg e))
 exists iZ (λh2=>?_) (λh2=>?_)
 ·obtain m|p|l|gt|mn|pn|ln|Gm|Gp|Gl:=P0.upto u1 B0 hb0;obtain W|F:=Nh X () () n4;exists #[m,_,mv,rfl,Gm,D.mw,n4,F,λq H2 nq s2 R2=>?_];exact k q _ H2 (λz=>B1.at (by rw[<- z];exact nq)) (B1.same s2) (u1.same s2) R2 Kf W
 exists iZ (λh3=>?_) (λh3=>?_)
 ·have n3:=of_decide_eq_true h3;exists #[b,8,rfl,B1,(),(),λv' H4 v0' v1' B4 u4=>?_];have u14:=u1.trans u4;exists iZ (λh4=>?_) (λh4=>?_)
  ·exists #[b,mv.9,1000,rfl,B4,(),(),(),λq w H5 nq R l d B5 u5=>?_];exact k q w H5 (λz=>B4.at (by rw[<- z];exact nq)) B5 (u14.trans u5) R l (zG (JA d (.inr #[rfl,()])))
  ·exists #[b,mv.9,9,rfl,B4,(),(),(),λq w H5 nq R l d B5 u5=>?_];exact k q w H5 (λz=>B4.at (by rw[<- z];exact nq)) B5 (u14.trans u5) R l (zG (JA d (.inl #[rfl,()])))
 ·exists #[b,mv.9,9,rfl,B1,(),(),(),λq w H5 nq R l d B5 u5=>?_];exact k q w H5 (λz=>B1.at (by rw[<- z];exact nq)) B5 (u1.trans u5) R l (zG (JA d (.inl #[rfl,()])))
theorem oH:sC ["_law_script","_law_bag_here","_law_n","_law_ins","_law_outs","_law_wide","_law_parts_here","_law_system","_law_full","_law_turn"] 1 NP:=by walk_at "d"
theorem UW (T:Txt K mg Z) (ac:bv P):o7 P w K mg base Kc 13 Z.TL Z.Ts ["_law_script"] (zS K):=by
 refine T.TR.k oH ?_;walk_at "i";obtain a0|ns|rfl|hS|hlen|k:=h
 refine #[_,(ak (fL 1 oH.nd (cT (Gv T ac) hr T.pR (dj bQ)))
  (ak (dw (bh fI (cT (bU T ac) hr T.bx (cH cL aj)) aj (bo _)) (av (aX (cT (El T ac) hr T.og (dj cL)))) cg)
  (ak (gM (cT (BE T ac) hr T.mY (dj cL)) (vq rfl (cp (fo 2 oH.nd) (cp (fo 3 oH.nd) (cp (fo 4 oH.nd) (cp (fo 5 oH.nd) gP))))))
  (ak (fL 2 oH.nd (bF (uJ rfl) (by rfl) T.min Za (cH fh (bw fj aj (eN oA (by rfl) T.int YR (dj (ig fI (cT (bU T ac) hr T.bx (cH cL aj)) aj (bo _))))))))
  (ak (fL 6 oH.nd (cT (BH T ac) hr T.m6 (gQ cL (PY fh jC uM xO))))
  (ak (fL 7 oH.nd (cT (Ek T ac) hr T.oa (dj rd)))
  (ak (fL 8 oH.nd (ig fI (bF bc (by rfl) T.len aW (dj (cT (yN T ac) hr T.jX (cH (cT (BG T ac) hr T.m5 (dj rd)) fh)))) fh (bo _)))
  (ak (eL Yv rfl (cm rfl T.range (dj aj)) (fo 9 oH.nd)
   (av (dw (mE (kM (cT (BF T ac) hr T.mZ (PY Bw rd (cT (Ay T ac) hr T.k6 (cH cL rd)) Iw)))) (av (aX sQ)) cg)))
  (av (aX (Eb (ig (xU (BK hr)) (dB Bw rfl) (aO bH rd aj) (bo _)) (D9 (ig (xU (BK hr)) (dB Bw rfl) (aO bH rd aj) (bo _)))))))))))))),?_]
 walk_at "s"
 try rw[iC]
 exists #[a0,ns,rfl,hS,hlen,λb H0 hb0 B0 s0=>?_];exists #[b,16,rfl,B0,(),(),λv9 H9 v90 v91 B9 u9=>?_];exists iZ (λhl=>?_) (λhl=>?_)
 ·exists #[b,rfl,B9,λH'=>k _]
 exists #[b,rfl,B9,λt1 n i o w H1 g1 n5 i4 o4 hw hn B1 u1=>?_];exists #[b,8,rfl,B1,(),(),λv Hv v0 v1 Bv uv=>?_];walk_at "w"
 obtain ⟨m,em,m4,mn⟩:∃m:Nat,(if (3+if decide (v=0)=true then (1:Int) else 0) < (n:Int) then 3+(if decide (v=0)=true then (1:Int) else 0) else (n:Int))=(m:Int)/\m<=4/\m<=n:=by
  by_cases hv:v=0
  ·rw[decide_eq_true hv,if_pos rfl];by_cases h:(3+1:Int) < n
   ·exact #[4,by rw[if_pos h];rfl,(),()]
   ·exact #[n,by rw[if_neg h],(),()]
  ·rw[decide_eq_false hv,if_neg aV];by_cases h:(3+0:Int) < n
   ·exact #[3,by rw[if_pos h];rfl,(),()]
   ·exact #[n,by rw[if_neg h],(),()]
 rw[em]
 obtain ⟨c,c20,wc,hc2,cn⟩:∃c,c<=20/\max w 6<=2^c/\((m<=4/\w<=9)\/(m<=2/\c=10))/\c*((m+i+o)*m)<=800:=by
  have a1:(m+i+o)*m<=12*4:=aP () m4;rcases hw with rfl | rfl | ⟨rfl,h2⟩
  ·exact #[4,(),(),.inl #[m4,()],()]
  ·exact #[4,(),(),.inl #[m4,()],()]
  ·have a2:(m+i+o)*m<=10*2:=aP () ();exact #[10,(),(),.inr #[(),rfl],()]
 exists #[b,m,i,o,w,c,rfl,Bv,(),i4,o4,(),(),wc,c20,cn,λr mv pt lk H2 P2 lm lp ll D PG B2 u2=>?_];obtain M1|M2|Vx|X:=QV PG lm m4 i4 hc2;obtain Y|Y2|SF:=QU PG D lm i4 o4 hc2;clear PG hc2 cn wc c20 em;subst lm;have d8:=D.n8;have di:=D.i4;obtain ka|kc|KF|_:=Y.pr;obtain lw|la|LF:=Y.lw;exists #[r,Hv,mv,pt,lk,rfl,P2,D,SF.sf,λx H3 nx s3 Sx=>?_];exists #[r,ka,kc,Hv,Hv,mv,pt,lk,rfl,P2.same s3,D,KF,λq h=>h,λq h=>u2.none B2 (s3.none h),λg H4 ng s4 G4=>?_];have lkr:(iX mv pt mv.9).9<=32:=by rw[zu];exact aP d8 di
 exists #[g,mv.9,lw,la,_,_,rfl,G4,(),(),jB (mv:=mv) rfl D.pw mv.9,LF,λrr R ps H5 nr s5 G5 RR _=>?_];obtain rv|grv|qrv|_:=id G5;have lrv:=qrv.9;have lR:=RR.1;exists #[_,_,rfl,.inl (br.of grv),?_];rw[<- lrv,lR];walk_at "w";rw[show decide (((ps.9:Nat):Int)=((mv.9:Nat):Int))=decide (ps.9=mv.9) from decide_eq_decide.mpr ()];obtain ⟨fl,hfl⟩:∃fl,fl=decide (ps.9=mv.9):=#[_,rfl];rw[<- hfl];have P5:=P2.same ((s3.trans s4).trans s5);have S5:=Sx.same (s4.trans s5);have s25:=(s3.trans s4).trans s5;have B5:=B2.same s25;clear Y2 LF KF G4 G5 Sx P2;exists #[(),(),?_];refine dZ (n:=2) (λj σ' H'=>kH H' b/\dD b H5 H'/\∃y,σ'=[some (.ref a0),some (.ref b),some (.int mv.9),some (.int i),some (.int o),some (.int w),some (.ref r),some (.ref x),some (.bl fl),y]) #[B5,dD.refl _,_,rfl] ?_ ?_
 ·rintro j σ' H6 hj ⟨B6,u6,y,rfl⟩;exists #[b,r,Hv,M1,M2,Vx,mv,pt,lk,rfl,B6,Bv.at,P5.upto u6 B5 Bv.at,D,m4,X,λq wish H7 qb B7 u7 R7 l7 W7=>?_];have u67:=u6.trans u7;exists #[x,r,q,fl,Hv,H2,M1,M2,Vx,mv,pt,lk,R,ps,wish,rfl,#[S5.upto u67 B5 B2.at,D,SF,Y],P5.upto u67 B5 Bv.at,m4,X,R7,l7,W7,RR,hfl,λH8 s8=>?_];exists #[B7.same s8,u67.same s8,_,rfl]
 rintro σ' H8 ⟨B8,u8,y,rfl⟩;obtain dx|am|ap|al|gx|_|_|_|Gm|Gp|_:=S5.upto u8 B5 B2.at;obtain m0|p0|l0|gp0|_|_|_|Gm0|Gp0|_:=P5.upto u8 B5 Bv.at;exists #[x,Z.a_System,dx,_,_,rfl,gx,T.cl_System,T.na_move,tj,?_];exists #[_,_,AO,_,_,(),Gm.kind,Gm0.kind,?_];rw[decide_eq_true rfl];exists #[x,Z.a_System,dx,_,_,rfl,gx,T.cl_System,T.na_put,uB,?_];exists #[_,_,AO,_,_,(),Gp.kind,Gp0.kind,?_];rw[decide_eq_true rfl];exact k _
end
theorem WI {P:List Value->Prop} (h:P []):∀us:List Value,us.9=0->P us
 | [],_=>h
theorem Jp {P:List Value->Prop} {n:Nat} (h:∀x us,us.9=n->P (x :: us)):∀us:List Value,us.9=n+1->P us
 | x :: us,e=>h x us (Nat.succ.inj e)
theorem ln1 {P:List Value->Prop} (h:∀x0,P [x0]):∀us:List Value,us.9=1->P us:=Jp λx0=>WI (h x0)
theorem ln2 {P:List Value->Prop} (h:∀x0 x1,P [x0,x1]):∀us:List Value,us.9=2->P us:=Jp λx0=>Jp λx1=>WI (h x0 x1)
theorem ln3 {P:List Value->Prop} (h:∀x0 x1 x2,P [x0,x1,x2]):∀us:List Value,us.9=3->P us:=Jp λx0=>Jp λx1=>Jp λx2=>WI (h x0 x1 x2)
theorem ln4 {P:List Value->Prop} (h:∀x0 x1 x2 x3,P [x0,x1,x2,x3]):∀us:List Value,us.9=4->P us:=Jp λx0=>Jp λx1=>Jp λx2=>Jp λx3=>WI (h x0 x1 x2 x3)
theorem ln5 {P:List Value->Prop} (h:∀x0 x1 x2 x3 x4,P [x0,x1,x2,x3,x4]):∀us:List Value,us.9=5->P us:=Jp λx0=>Jp λx1=>Jp λx2=>Jp λx3=>Jp λx4=>WI (h x0 x1 x2 x3 x4)
local macro_rules | `(tactic| walk_at "b") => `(tactic| (intro _ _ _ _ _ _; first | (refine ln1 ?_; intros; rfl) | (refine ln2 ?_; intros; rfl) | (refine ln3 ?_; intros; rfl) | (refine ln4 ?_; intros; rfl) | (refine ln5 ?_; intros; rfl)))
theorem all_mk {l:W.OpenLaw} {K:W.Frag} 
 
  (X:K.In h) (G:h.Ns YA mg) (hfa:mg "law"=some (.ref fa)) (htree:l.prog.given.tree=none)
 (aC:Zn K YA "System"=some (some (.ref C)))
  (h0:Dh K "_law_bag" vo f0 e0)
  (h1:Dh K "_law_take" tL f1 e1)
  (h2:Dh K "_law_low" vm f2 e2)
  (h3:Dh K "want_list" tz f3 e3)
  (h4:Dh K "is_whole" vf f4 e4)
  (h5:Dh K "common_divisor" mC f5 e5)
  (h6:Dh K "is_number" tI f6 e6)
  (h7:Dh K "is_row" Ac f7 e7)
  (h8:Dh K "copied_rows" qq f8 e8)
  (a9:YH K (.ref C) "__init__"=some (some (.ref f9))) (i9:W.isFn K (.ref f9)=true) (l9:K.lookup f9=some #[oc9,od9,.func (W.fnOf "__init__" "System.__init__" (m8 fq) (iL fq) (dz fq) .none kV9 dc9 pm9 an9 cd9 ct9),sl9]) (c9:W.codeIn K cd9 "System.__init__"=true) (k9:W.keepIn K (.ref f9)=true)
  (h10:Dh K "tops_over" tD f10 e10)
  (h11:Dh K "common_multiple" kK f11 e11)
  (h12:Dh K "common_bottom" nP f12 e12)
  (h13:Dh K "first_with" rN f13 e13)
  (h14:Dh K "cleared" xH f14 e14)
  (h15:Dh K "brought_up" rO f15 e15)
  (h16:Dh K "swept" DU f16 e16)
  (h17:Dh K "lowest" Ab f17 e17)
  (h18:Dh K "reduced" xD f18 e18)
  (h19:Dh K "row_dot" xC f19 e19)
  (h20:Dh K "grid_on" xG f20 e20)
  (h21:Dh K "moved_rows" rL f21 e21)
  (h22:Dh K "reach_grown" qe f22 e22)
  (h23:Dh K "reach_rows" rH f23 e23)
 (xa_NotSteered:Zn K YA "NotSteered"=some (some (.ref x_NotSteered)))
  (a24:YH K (.ref x_NotSteered) "__init__"=some (some (.ref f24))) (i24:W.isFn K (.ref f24)=true) (l24:K.lookup f24=some #[oc24,od24,.func (W.fnOf "__init__" "NotSteered.__init__" (m8 dI) (iL dI) (dz dI) .none kV24 dc24 pm24 an24 cd24 ct24),sl24]) (c24:W.codeIn K cd24 "NotSteered.__init__"=true) (k24:W.keepIn K (.ref f24)=true)
  (h25:Dh K "unit_row" vd f25 e25)
  (h26:Dh K "leading_place" nO f26 e26)
  (h27:Dh K "leading" xF f27 e27)
  (h28:Dh K "minus" DW f28 e28)
  (h29:Dh K "null_at" xE f29 e29)
  (h30:Dh K "free_places" qj f30 e30)
  (h31:Dh K "nulls" DV f31 e31)
  (h32:Dh K "refuse_unsteered" j8 f32 e32)
  (h33:Dh K "nought_row" rJ f33 e33)
  (h34:Dh K "grid_turned" qi f34 e34)
  (h35:Dh K "new_places" rK f35 e35)
  (h36:Dh K "leading_out" qh f36 e36)
  (a37:YH K (.ref C) "moved"=some (some (.ref f37))) (i37:W.isFn K (.ref f37)=true) (l37:K.lookup f37=some #[oc37,od37,.func (W.fnOf "moved" "System.moved" (m8 ip) (iL ip) (dz ip) .none kV37 dc37 pm37 an37 cd37 ct37),sl37]) (c37:W.codeIn K cd37 "System.moved"=true) (k37:W.keepIn K (.ref f37)=true)
  (h38:Dh K "chain" DX f38 e38)
  (h39:Dh K "row_minus" tH f39 e39)
  (h40:Dh K "grid_times" rM f40 e40)
  (h41:Dh K "taken_over" rG f41 e41)
  (h42:Dh K "times" DS f42 e42)
  (h43:Dh K "row_times" tE f43 e43)
  (h44:Dh K "amiss" DY f44 e44)
  (h45:Dh K "plus" IX f45 e45)
  (h46:Dh K "row_plus" ve f46 e46)
  (h47:Dh K "closed" Ad f47 e47)
  (h48:Dh K "steered" xB f48 e48)
  (h49:Dh K "_law_told" tK f49 e49)
  (h50:Dh K "_law_less" tX f50 e50)
  (h51:Dh K "_law_minus" rT f51 e51)
  (h52:Dh K "_law_long" tW f52 e52)
  (h53:Dh K "_law_sizes" nV f53 e53)
  (h54:Dh K "_law_number" qB f54 e54)
  (h55:Dh K "_law_row" vh f55 e55)
  (h56:Dh K "_law_move" tU f56 e56)
  (h57:Dh K "_law_sum" vg f57 e57)
  (h58:Dh K "_law_plus" tQ f58 e58)
  (h59:Dh K "_law_prod" tP f59 e59)
  (h60:Dh K "_law_by" xJ f60 e60)
  (h61:Dh K "_law_mixed" rS f61 e61)
  (h62:Dh K "_law_parts" rR f62 e62)
  (h63:Dh K "_law_copied" qD f63 e63)
  (h64:Dh K "_law_made" tV f64 e64)
  (h65:Dh K "_law_quot" tO f65 e65)
  (h66:Dh K "_law_reduced" oM f66 e66)
  (h67:Dh K "_law_dot" vn f67 e67)
  (h68:Dh K "_law_on" xI f68 e68)
  (h69:Dh K "_law_reach" rQ f69 e69)
  (h70:Dh K "_law_is_number" mD f70 e70)
  (h71:Dh K "_law_is_row" qC f71 e71)
  (h72:Dh K "_law_is_grid" oO f72 e72)
  (h73:Dh K "_law_product" oN f73 e73)
  (h74:Dh K "_law_wish" tJ f74 e74)
  (h75:Dh K "_law_closed" qE f75 e75)
  (h76:Dh K "_law_right" rP f76 e76)
  (h77:Dh K "_law_wished" qv f77 e77)
  (h78:Dh K "law" NP f78 e78)
 (ca0:Zn K YA "NOUGHT"=some (some (.ref m0))) (cl0:K.lookup m0=some #[.type "tuple",mo0,.seq [.int 0 mt0_0,.int 1 mt0_1].toArray mn0,ms0])
 (ca1:Zn K YA "ONE"=some (some (.ref m1))) (cl1:K.lookup m1=some #[.type "tuple",mo1,.seq [.int 1 mt1_0,.int 1 mt1_1].toArray mn1,ms1])
 (ci0:Zn K YA "MOST_STATES"=some (some (.int 8 it0)))
 (ci1:Zn K YA "MOST_PUTS"=some (some (.int 4 it1)))
 (ci2:Zn K YA "MOST_LOOKS"=some (some (.int 4 it2)))
  (pg:W.plainGet K C Str.empty=true) (hd:W.hasDictIn K C=true) (po:W.plainOver K C=true) (sa:YH K (.ref C) "__setattr__"=some (some (.builtin "object.__setattr__"))) (mk:W.makesIn K C=true) (kc:W.keepIn K (.ref C)=true)
  (n_move:YH K (.ref C) "move"=some none)
  (n_states:YH K (.ref C) "states"=some none)
  (n_put:YH K (.ref C) "put"=some none)
  (n_ins:YH K (.ref C) "ins"=some none)
  (n_look:YH K (.ref C) "look"=some none)
  (n_outs:YH K (.ref C) "outs"=some none)
 (xa_SumError:Zn K YA "SumError"=some (some (.ref x_SumError)))
 
  (lx_NotSteered:K.lookup x_NotSteered=some #[.type "type",dd_NotSteered,.cls #[nm_NotSteered,bs_NotSteered,[.ref x_NotSteered,.ref x_SumError,.type "ValueError",.type "Exception",.type "BaseException",.type "object"],ns_NotSteered,qn_NotSteered,hd_NotSteered,sn_NotSteered,su_NotSteered,ab_NotSteered,co_NotSteered,false],[ka_NotSteered,kb_NotSteered,kc_NotSteered,kd_NotSteered,some (.builtin "ValueError.__new__"),ke_NotSteered].toArray])
  (sa_NotSteered:YH K (.ref x_NotSteered) "__setattr__"=some (some (.builtin "object.__setattr__"))) (kp_NotSteered:W.keepIn K (.ref x_NotSteered)=true) (nt_NotSteered:YH K (.ref x_NotSteered) "price"=some none)
  (xe_SumError:W.excIn K x_SumError xm "ValueError.__new__"=true)
  (xm_NotSteered_NotSteered:W.exmOne K (.ref x_NotSteered) (.ref x_NotSteered)=some true)
  (ga_NotSteered:YH K (.ref x_NotSteered) "__getattribute__"=some (some (.builtin "BaseException.__getattribute__")))
  (gt_NotSteered:YH K (.ref x_NotSteered) "__getattr__"=some none)
  (mb_NotSteered:W.mroIn K x_NotSteered (.type "BaseException")=some true)
  (mo_NotSteered:W.mroIn K x_NotSteered (.type "object")=some true)
  (hd_NotSteered:W.hasDictIn K x_NotSteered=true)
  (ca_NotSteered:YH K (.ref x_NotSteered) "__class__"=some (some (.builtin "object.__class__")))
  (sg_:W.specialIn K (.builtin "object.__class__") "__get__"=some (some (.builtin "getset_descriptor.__get__")))
  (tk_:W.takesIn K (.builtin "object.__class__")=some true)
  (z_abs:Zn K YA "abs"=some none)
  (z_len:Zn K YA "len"=some none)
  (z_isinstance:Zn K YA "isinstance"=some none)
  (z_list:Zn K YA "list"=some none)
  (z_int:Zn K YA "int"=some none)
  (z_bool:Zn K YA "bool"=some none)
  (z_tuple:Zn K YA "tuple"=some none)
  (z_all:Zn K YA "all"=some none)
  (z_enumerate:Zn K YA "enumerate"=some none)
  (z_range:Zn K YA "range"=some none)
  (z_zip:Zn K YA "zip"=some none)
  (z_sum:Zn K YA "sum"=some none)
  (z_min:Zn K YA "min"=some none)
  (z_reversed:Zn K YA "reversed"=some none)
  : ∃fd:Yn,(∀(s:Yo) (v:Value),BindsTo s fd #[[v],[]] [("_law_script",v)])/\∀base:Heap,K.In base->base.Ns YA mg->o7 l.prog w K mg base Kc 13 fa fd ["_law_script"] (zS K):=by
 have e:=hfa.symm.trans (W.mg_of X G h78.a);cases e;obtain _|_|_|_|_|_|_|_|_|rfl|_|_:=h78.F.ex;have F9:=Ey (st:=fq) l9 c9 k9;have F24:=Ey (st:=dI) l24 c24 k24;have F37:=Ey (st:=ip) l37 c37 k37
 have T:Txt K mg #[f0,_,f1,_,f2,_,f3,_,f4,_,f5,_,f6,_,f7,_,f8,_,f9,_,f10,_,f11,_,f12,_,f13,_,f14,_,f15,_,f16,_,f17,_,f18,_,f19,_,f20,_,f21,_,f22,_,f23,_,f24,_,f25,_,f26,_,f27,_,f28,_,f29,_,f30,_,f31,_,f32,_,f33,_,f34,_,f35,_,f36,_,f37,_,f38,_,f39,_,f40,_,f41,_,f42,_,f43,_,f44,_,f45,_,f46,_,f47,_,f48,_,f49,_,f50,_,f51,_,f52,_,f53,_,f54,_,f55,_,f56,_,f57,_,f58,_,f59,_,f60,_,f61,_,f62,_,f63,_,f64,_,f65,_,f66,_,f67,_,f68,_,f69,_,f70,_,f71,_,f72,_,f73,_,f74,_,f75,_,f76,_,f77,_,fa,_,m0,m1,it0,it1,it2,C,x_SumError,x_NotSteered]:={
  pR:=h0.D X G
  bx:=h1.D X G
  dR:=h2.D X G
  jE:=h3.D X G
  nF:=h4.D X G
  ft:=h5.D X G
  nX:=h6.D X G
  uE:=h7.D X G
  iu:=h8.D X G
  jh:=F9.binds (ps:=["self","move","put","look"]) λ_ _ _ _ _ _=>by refine ln4 ?_;intros;rfl
  pV:=F9
  gR:=h10.D X G
  iJ:=h11.D X G
  dQ:=h12.D X G
  mW:=h13.D X G
  sv:=h14.D X G
  mX:=h15.D X G
  ug:=h16.D X G
  jF:=h17.D X G
  mI:=h18.D X G
  jz:=h19.D X G
  jA:=h20.D X G
  jS:=h21.D X G
  kW:=h22.D X G
  mU:=h23.D X G
  lX:=F24.binds (ps:=["self","price"]) λ_ _ _ _ _ _=>by refine ln2 ?_;intros;rfl
  lY:=F24
  nE:=h25.D X G
  jG:=h26.D X G
  oU:=h27.D X G
  uh:=h28.D X G
  su:=h29.D X G
  kZ:=h30.D X G
  wo:=h31.D X G
  d7:=h32.D X G
  iW:=h33.D X G
  dY:=h34.D X G
  mV:=h35.D X G
  kY:=h36.D X G
  sS:=#[a37,i37,k37]
  uu:=F37.binds (ps:=["self","state","puts"]) λ_ _ _ _ _ _=>by refine ln3 ?_;intros;rfl
  uy:=F37
  wu:=h38.D X G
  kU:=h39.D X G
  h9:=h40.D X G
  mT:=h41.D X G
  wj:=h42.D X G
  kT:=h43.D X G
  wB:=h44.D X G
  zm:=h45.D X G
  pQ:=h46.D X G
  uF:=h47.D X G
  mH:=h48.D X G
  jH:=h49.D X G
  oh:=h50.D X G
  jT:=h51.D X G
  og:=h52.D X G
  mY:=h53.D X G
  lH:=h54.D X G
  iF:=h55.D X G
  nZ:=h56.D X G
  gU:=h57.D X G
  lE:=h58.D X G
  iK:=h59.D X G
  kh:=h60.D X G
  m7:=h61.D X G
  m6:=h62.D X G
  gE:=h63.D X G
  oa:=h64.D X G
  nY:=h65.D X G
  jX:=h66.D X G
  nG:=h67.D X G
  sE:=h68.D X G
  m5:=h69.D X G
  jf:=h70.D X G
  lI:=h71.D X G
  jY:=h72.D X G
  iN:=h73.D X G
  lh:=h74.D X G
  lJ:=h75.D X G
  mZ:=h76.D X G
  k6:=h77.D X G
  TR:=h78.F
  abs:=YW X G z_abs
  len:=YW X G z_len
  isinstance:=YW X G z_isinstance
  list:=YW X G z_list
  int:=YW X G z_int
  bool:=YW X G z_bool
  tuple:=YW X G z_tuple
  all:=YW X G z_all
  enumerate:=YW X G z_enumerate
  range:=YW X G z_range
  zip:=YW X G z_zip
  sum:=YW X G z_sum
  min:=YW X G z_min
  reversed:=YW X G z_reversed
  mg_NOUGHT:=W.mg_of X G ca0
  sq_NOUGHT:=λH=>.inr #[_,_,_,cl0,rfl,rfl,jR rfl,.cons #[_,rfl] (.cons #[_,rfl] (.nil))]
  mg_ONE:=W.mg_of X G ca1
  sq_ONE:=λH=>.inr #[_,_,_,cl1,rfl,rfl,jR rfl,.cons #[_,rfl] (.cons #[_,rfl] (.nil))]
  mg_MOST_STATES:=W.mg_of X G ci0
  mg_MOST_PUTS:=W.mg_of X G ci1
  mg_MOST_LOOKS:=W.mg_of X G ci2
  mg_System:=W.mg_of X G aC
  cl_System:=#[pg,hd,po,sa]
  na_move:=n_move
  na_states:=n_states
  na_put:=n_put
  na_ins:=n_ins
  na_look:=n_look
  na_outs:=n_outs
  mk_System:=#[mk,a9,i9,kc]
  mg_SumError:=W.mg_of X G xa_SumError
  mg_NotSteered:=W.mg_of X G xa_NotSteered
  ex_SumError:=xe_SumError
  xm_NotSteered_NotSteered:=xm_NotSteered_NotSteered
  xi_NotSteered:=#[#[_,_,_,_,_,_,_,lx_NotSteered,rfl,rfl],xe_SumError,sa_NotSteered,#[ga_NotSteered,gt_NotSteered,mb_NotSteered,mo_NotSteered,hd_NotSteered,ca_NotSteered,sg_,tk_]]
  in_NotSteered:=a24
  fn_NotSteered:=beq_iff_eq.mp i24
  kp_NotSteered:=kp_NotSteered
  nt_NotSteered:=nt_NotSteered
  xc_NotSteered:=#[ga_NotSteered,gt_NotSteered,mb_NotSteered,mo_NotSteered,hd_NotSteered,ca_NotSteered,sg_,tk_] }
 exact #[_,λs v=>.of_eq rfl,λbase _ _=>UW T htree]
theorem walk {l:W.OpenLaw} {K:Params->W.Frag} (hn:l.most=some 63) (hdf:d.params.defaults=[])
  (hi:PyProof.Rows.importsNone q=true)
  (hY:∀(w:Y9) (h:Heap),YP w h->(K w.params).In h)
  (F:∀(w:Y9) (mg:Str->Option Value) (fa:Addr) (h:Heap),(K w.params).In h->h.Ns YA mg->mg d.name=some (.ref fa) →
   ∃fd:Yn,(∀(s:Yo) (u:Value),BindsTo s fd #[[u],[]] [("_law_script",u)])/\∀base:Heap,(K w.params).In base->base.Ns YA mg->o7 l.prog w (K w.params) mg base Kc 13 fa fd ["_law_script"] (zS (K w.params))) :
  W.WalkO q loose XP YP l.row.toRowW d [] (λf vs=>PySem.call f vs) :=
 L2.Qc (n:=63) (k:=13) (x:="_law_script") (CX:=λ_=>Kc) (sp:=λw=>zS (K w.params)) hn () hdf #[rfl,(),()] hi hY F (λ_ _ a ns hl _ hS=>#[a,ns,rfl,hS,hl,λ_=>rfl]) λ_ _ _ _ _ z=>z
end Lw
namespace PySem.W.Fast
local macro_rules | `(universe $x*) => do
 let c ← x.mapM fun y => `(def $(Lean.mkIdent (.mkSimple s!"tw{(y.getId.toString.drop 1).foldl (fun a c => a*62+(if c.isDigit then c.toNat-48 else if c.isLower then c.toNat-87 else c.toNat-29)) 0}")):ident:=1)
 return Lean.mkNullNode c
universe adWP6poB9RG5 aiwptCuN2uri aldmaCm0xVfJ adNMcbLwQxWO a96LRLdd8a6Y ad4sFdB5u0Qa ahzh8RlYEvjn a9IdsCifignp a5lxwSfgjxFO alRPseP0HXsY a2CtFVcI09oA aftQBvklXuEE af00xB30HYdN a2J5XYtRjYo2 a8KPMQVp8p6G ajNai3d3bV1d alVI9lcejq4h agkqU6PnCt6m ab1LpHNAz7XR ajRoLloMm7HK alvFOsEnsoFE ajXDZeRukjKY a3JpNPV20eQv ag7cYKkojEwk a1oIcp69uKmP acxk7dP9Xbog agubW3C6q48B aifP7moxQCR8 ak0xWz7un7za agcx5iNVagv7 abbkW0XZ2Q5o a9XRxDA2m9KG a16dcZ4V3aQH acsgDUvGH5jG a20m0MvuOrYa adJzx3jKe73m afgZ2W0B47pp aiGDn2EWtdaO aim1X97RtmF1 abwaW5Unxxjf aj6SE8Z97Yy0 aepbrElo2sNH aflBD9HJkA6j akuw7NSehqm4 a8jSjhpEcw3x aaDxilMg9Pvg a8xF0qb2M62W a5uPgspgwmAA a5RdPFCPhkdH algs5tgU5PM9 abB0mazBVIkp a7TwwwiojkFO adrnFNtRMCK9 a9dbQTwzqiss akO7fYdbBPJn a4irrYlYCVaP a1GECk0Cr6aV a7CPKdAuFxL a4rC0US90lAa aUoiQt1B6Et afJH8fFBeBsL ac1e0WZCadth acFZipYBrIHd abr2eAojg5Fr aizzYiOsHM2Q aa0NZj7ukzv ab9IuowgwCJd aXbOJT8xgvH a4rIvXg6xzoa ah2AHrdykAo a2WHnu4aF7Qz a6tcwXi80HUM a6MBqIox3VKL a9rIPjyEC8De aL1VQcOhOv akepcoEmf2Kl a96SK7dIDCTD a4Lb9jKJf5za acGFvx73LUN0 akfEUDuAuV5c a5MBM230LHgq aasXmSUyMSBy ak6T84N1kpf4 alN8UEFrTvJI a84YmcWGUl4x a93zUyAhYnyb a1zD3xlSEf4z a8ujj8Ox7zdr a4VAWRnOuNfk acblQrRVrAKd ajwhth4Un1na aik64PjAa8F6 a48XV8A0zV7E al6lM5Y0ADL4 a6ieEvwxym4a a2A7ox1wZinl a7S9yWkQon3H ad3SAyCeeTI3 a8kNFB4XhG0H aaPBSrAzGtqd af8gGIwWRSwI adgncfq7YWjI a3Tm4rdDQ2ub a7RbIrgqB3KH a6rCRhRpHgxa a56LqNfHyZSl a2H5tKnerKYL aM0zYV6F16L acrmxDlBcrix aeK63CuVVOej ag9jgSlvXTdJ abpymLl3Vkhb abo0aBSSYIHL af8aIMM59sc2 a4VUpmsJ59Ns abm61STr7aOa akqROwd2SDfQ a4ZQ57HdCqfK ahiuSlzsrhqs ahIux1yiFQPs ahbFomqzvOLM aj5zZKcbVEsB a5HngeeMxXWx akjWYU3avoNH ajkoPCKjuXAI abMFk3hwFTyW a2fpgWXIH88k agqc9UwPsGFN a89yOcUN5T0p a63pnJovoy1L aldOiGrEYLdk a5ffDiYp2M1r a4L3UNkiatkt ahnEsTMHUnxW a5zQKwdpMLrM a2LBeLnAa8C2 aiVuugqQkOJO a2mSsjF2kLn5 aao4iCdV7Nra akA9rHxq9Ab6 a2CKWP2lwTPB a4hUYHlHVCxP a8gSk2soAuJe alfmrunoptwm aUHvAJVNkQ5 afmfI3B4CgXF ab1G3PnMYsc0 a5ppmC0QpIFE a14zVCIzjWIN a6Xt0n6UlOBU a3Be3vWXdWED aaL4mJX1RzIj a43AWPW7rxJc aabY3cpLOZ8K a98rPVXpsDO4 aUI6tA6L7iy a8ZICRYTDP2r aiVjJ6FaPOv4 aaTPTQsxDJyB ac1HpkClJ9Az agUsqG4tWsyc ai6aIWUpzOLo ail3gysjnfGS aewRh8AGibsQ a4zpFGkNyWhI a68yQiLPzhYS adyvoRG4HWJj abkyfxt44ukq a1aDIwNZwQIv akdao47XsimI a6FNnAsh6mp afpsoxqzHaht aehtwdq6MAWM a4Y36PEwLiZP ajPjIBNc5Up1 ahWvrTvuIleH alSfzEvcWJkO a60hEzaccD4D a8Uf6pZg5DHD a8H4wCMYuCY ajMzTdwP5ubV adHM0YybLJ6P a9dQY58Cipvb ac44yYFemH4B a77TvqhS6c6L a4TfWrQ2lUG7 a8UrhzpO9iY9 a8Oab5XgvVQ8 ahrl2IA0yoB3 a4GT39qkTceP acbcTy3jJOU6 aeU6TmcTFVP a3Es3GCqZlS8 aiX7JVDQCn9b ahAYEGntkeP6 a6RWM3tpkPIs ahLsWIJHnbN4 a9j1bWoDv6aD a8bvnrGRJWTn acirETOLE7CY afeF7UjZ3rAx adCYROmC6LuN acUrEjeNWJyw a7eLccYfzJ11 aaDdssooDBZB a7AueAeqDCD5 a1i5QJELobB8 aePYxwqavSWk ajIfRll6HuOL aile0IHtJg2O abvsXYrVUBmi aibm3xAWaf2R aa8PKwrxFobX a1ZE1SaSGPQn a49LuOLAWGlM a3QCUEDC7uKk a5GYklE5hOht a6uppNI04w4N a26cPHp59jiU a8Gu40ldWDPw abi8dsxwDQ3a abTSTsOzb069 ajf9gfbYunPi alNFXZpVozk4 ahx6hLQUKLk0 a1gw1u99kOco a2i4mizNyz0R adbwGn6TgkwM a6O2QXwgmRhn aeOy5RfqM5Yb aYRXgCt7I7h a6xzIunBMIO4 aesb8uBTf9mA aeRIrhwx828M ag9amvU1ejfY abK458gRIBm7 a9vC2j8C6C0Q a8sipUHZqMK aidZcifmCE0X a50eobuGAAoN ahahU1o2UyZY a3OuGirjgcGN a8L8E2tBceby akvq9hTJbbLW agKWONpzu4tV ak8ePBHISBUy a5qhnyhE0WMw a7bDqlndMAtq ag8RLGSCzafF a17P7PSJ09Ps a91KvEOY4mwd a9xjAnc2KxsT a7Gl4saTkfpA afYu1bKePit2 a2lVOgHvNPT4 a4gCRyZvVQtr aiiZTO3V6JRd agyHsEyKbAEZ a5Hcq3N6MfzE a384mWex0CgV ai3VZ4eabOsB akX9bu1rorPW ai4qF96BGN90 aaiZ7i9UpGAT abdgIhF32CBR aarRhaGvU4K7 akFpB23W2T5S a8uNey5cTWtZ ajpDjd8z4PoB af7ow9Q5QKxw a9KtUkMbTAWo a2ptH6JU3RFc aj5TDjCbDdK7 aVgRPq8USL1 aaq4vsi4ft8l adPezwBjttvX a17Fi2751OwL ajnQj5Uh43KE a3Gn2TzbxaeS a6WTu1VEWsaw a2ygKzlsSqlU a5pNqImYeZDD a7n7LApQ6zRK a3zHzcVRKdNZ ajRYEU9DaaWj a5D25pDIo1at afkUv5Ev2i6M abDoshAmZ8mx acCETxKOIPwj aVIjoUtiQ0I axvZomRLzMd adTMNbUDKDk2 a3yvBKPpxr9D akZ27ZFs6Rb0 aeodcdT54qhO adSVxGyyd63T a24UPVeybaQ8 a9Ehs5yt9pbU aaPDXBM3yBIv a5zvWNtw5U5w ajKp2wSD82Ij a6tVwsFtHpFE a2yQD4uIodMw a5c1FtTyWJLx ae6uRHpLWf5L ajMtJIdLKCHd a6pnhUdokSKp a3HqARCDsBMJ aeBU2QKqNSDs a452ucvPl8ux amUUoIt8iZI a18zXexDGnPt aksJY87H4rbg ajc8ur3zXfYq acKfi5bwdTeH a85YrUp6kG6Z ajTvhla05Axk a4VaziaPP1zq a2UARbfZ027w a6PSFxivltef a4TM9N4tVjcI a8U65EmvJ6d8 aiCkv7h5kU36 a1dOTsy0wQPb abaCkwSAoJCy ail0gWhrx5X5 a94g7zyPioWS abSrAZARBg22 ae5KtSaOqQH7 a198s4lIdq2m a6Puur9VLtPc a1hF6oE83KBx alqPP4MmfZKX a5jWGq8f3l1w a3adhTtrY4Es alCpoZLI8EzI a4uls4SvGxvT a4np9OPpfzFs akq8PL4TYnZx aiKqpwr9bKCx a2cnIwWrx7UV ad7ov4kwqsS9 abfn1kOHAitj agmPzc9HvMmI aiklmqruazEP a750HFJuTZFe akdx2kVNQRkB al5MmXyvHokQ afiCJHMkAz9c acFvOLhjNpmV alNT4fwqQMQJ a7vmtV3Frw4M aBLcOhZx0J a3YPu7NtMNZl a39vJk9QIvYd aaneb9ReCyVX agx8f6Pv45pK ak8Ry2kBWBU4 ag3Glvt1u6bH a2MFKY6qcFqB akAXlvbkbKvt a397OcAlN3tY a4otYQVjenov a2GDJ9zlfMNm a3q9YvElyVVu a8cA9NvEO4en ai76CBT93Rgn afCzt2f7j6Q8 abcifSxunqZM a54ebNJxdWDH a2jLc4WKxiYA abLq1X6xAb0v ac02IeIkANYz a9bZJjRQXYnS a6YtHVaoYhYh ajWwIMya3qZ2 a6jYrAX70lPH aaAekv8hDXDH alI7wcChRFxS advmyMabHANw aevl6y9wv7s4 a209CttQANS aaRvtZY697c akyeueYCv40U adF4LnfgwTeb aaI9tCfEfECJ acj2fB4EQ6qr akSBelFpORkL a4XrEul1PtX2 aajT8bqpVBkZ afQ5l0jukngN a9Ia1h0cLsCp agXpxuaWuuA0 ac01SfIRHzD3 agryJVOwPA0r ahXeir52cJJK a31obqr7S8kc ajquUV19FqUZ aa92GAJL2T6h aiO8sGmGd0AQ a4odLDqWGaje aeB64QmYFa4o al87XcdOCr4N alfGaQrOL6Nv a9dU9iOJBV2t ai4Z3Ejf8GGM a4XsD0hkENKj agi9o74Z89Ov ac9TvkCH1QAT akIfGsxE0cPP abY64GPWyvsu a1QQz3TiTci0 acLA20OEINu5 aeDMRic5oMXV ajbw3HZh5W9D al1RunxIAvLf abmQUStMNw6o a6XLUfzfwp8Y a4P8ZHpj53aY a8mdk2jmWEXp a44lrSIoXNcZ a68dxxzRsNJj a66yd9ilHhcm agWurGVpaG3K a7WgllH8QMv0 aiKP1epxy1Hp a4advrLNiMWp aYkiqVMVJju ahhM0lqSAIxR a11ipp0DgYC9 ahIlHIE9TpKL a9sfMP8inIB6 alsZz6TIj1hq a8Bxmf3RONES aecjcEEomhoo aePl2T7PszeJ a1biQ5bCzIqc agtB9dQZ1gDJ abiWXL6EZMps aisQfk55SB4q aeihGqhJVthM abNQiCS22sey acdqqI9EAE0K afHzO975W9ax a19xsQe9VJbq alymPmr2OIDL abkyWW4n5B5F abFnwsaIChzT a7NRlwmPdmqk a5X04rqeUZ4f adKBaaPIQM3S a2dwJnA5wjTb a9okpR9n9BGB abwX5ESQ1rT4 a6HUo2BZ6rTM a5YvP8QMpgK1 a53l953lnA0j aloEISQDxZ6i abUUSMTOh5MF acWK6mCKViKV
theorem te11707200693586329165:True:=trivial
end PySem.W.Fast
open PySem PySem.W PyProof.Rows
set_option maxRecDepth 100000 in
set_option maxHeartbeats 0 in
theorem PySem.Challenge.cw_helmsum_k84_steered_holds : PySem.Challenge.rw_helmsum_k84_steered.Holds := by
 w_on;o_law;k_head;(case hw=>w_witness2)
 k_fill
 refine Lw.walk (l:=PySem.Challenge.rw_helmsum_k84_steered) rfl rfl ?hi (λw h Y=>PySem.W.kIn_of Y) ?F
 case hi=>decide +kernel
 case F =>
  intro w mg fa h KX G hmg;refine' Lw.all_mk KX G hmg rfl ?aC ?_ ?_ ?_ ?_ ?_ ?_ ?_ ?_ ?_ ?a9 ?i9 ?l9 ?c9 ?k9 ?_ ?_ ?_ ?_ ?_ ?_ ?_ ?_ ?_ ?_ ?_ ?_ ?_ ?_ ?xa_NotSteered ?a24 ?i24 ?l24 ?c24 ?k24 ?_ ?_ ?_ ?_ ?_ ?_ ?_ ?_ ?_ ?_ ?_ ?_ ?a37 ?i37 ?l37 ?c37 ?k37 ?_ ?_ ?_ ?_ ?_ ?_ ?_ ?_ ?_ ?_ ?_ ?_ ?_ ?_ ?_ ?_ ?_ ?_ ?_ ?_ ?_ ?_ ?_ ?_ ?_ ?_ ?_ ?_ ?_ ?_ ?_ ?_ ?_ ?_ ?_ ?_ ?_ ?_ ?_ ?_ ?_ ?ca0 ?cl0 ?ca1 ?cl1 ?ci0 ?ci1 ?ci2 ?pg ?hd ?po ?sa ?mk ?kc ?n_move ?n_states ?n_put ?n_ins ?n_look ?n_outs ?xa_SumError ?lx_NotSteered ?sa_NotSteered ?kp_NotSteered ?nt_NotSteered ?xe_SumError ?xm_NotSteered_NotSteered ?ga_NotSteered ?gt_NotSteered ?mb_NotSteered ?mo_NotSteered ?hd_NotSteered ?ca_NotSteered ?sg_ ?tk_ ?z_abs ?z_len ?z_isinstance ?z_list ?z_int ?z_bool ?z_tuple ?z_all ?z_enumerate ?z_range ?z_zip ?z_sum ?z_min ?z_reversed
  all_goals try refine' Xp ?_ ?_ ?_ ?_
  all_goals try k_is
  (case xe_SumError=>k_exc)
  (case xm_NotSteered_NotSteered=>kts_exm)