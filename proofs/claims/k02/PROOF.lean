import PyProof.Rows.All
import Wide.All
import OpenK.AllK
import Wide.FinOn
import Lean
import PyProof.EqAt
import PyProof.EqKinds
import PyProof.TupleCall
import PyProof.NeKinds
import KE.KIntText
import PySem.Challenge.RW_helmsum_k02_whole_texts_otherwise
set_option Elab.async false
set_option linter.all false
set_option maxRecDepth 100000
abbrev ND9:=@List.Nodup PySem.Str
abbrev ah:=@List.length_cons
abbrev ai:=@List.length_append
abbrev ao:=@List.mem_cons_of_mem
abbrev ar:=@Nat.le_trans
abbrev au:=@List.mem_of_getElem?
abbrev av:=@Nat.lt_of_lt_of_le
abbrev aw:=@List.size_toArray
abbrev ax:=@Nat.le_refl
abbrev ay:=@List.length_map
abbrev az:=@List.mem_cons
abbrev aE:=@List.mem_cons_self
abbrev aF:=@List.getElem?_eq_getElem
abbrev aG:=@Nat.pow_le_pow_right
abbrev aH:=@PySem.boot_len
abbrev aK:=@List.getElem?_eq_some_iff
abbrev aO:=@List.mem_append
abbrev aP:=@Bool.false_ne_true
abbrev aQ:=@Option.some.inj
abbrev aT:=@List.mem_append_right
abbrev a7:=@Nat.lt_of_le_of_lt
abbrev ba:=@List.take_of_length_le
abbrev be:=@List.mem_map
abbrev bf:=@Nat.zero_le
abbrev bg:=@List.not_mem_nil
abbrev bq:=@Nat.ne_of_lt
abbrev br:=@List.append_assoc
abbrev bu:=@List.length_drop
abbrev bw:=@List.map_append
abbrev bA:=@Nat.lt_irrefl
abbrev bE:=@Rat.intCast_mul
abbrev bG:=@PySem.F.plainAttrs_str
abbrev bH:=@List.getElem?_map
abbrev bI:=@List.cons.inj
abbrev bK:=@PySem.W.kia_one
abbrev bL:=@Int.eq_ofNat_of_zero_le
abbrev bQ:=@List.length_singleton
abbrev bR:=@Nat.le_of_lt
abbrev bY:=@Nat.mul_le_mul_right
abbrev bZ:=@Int.natAbs_natCast
abbrev cz:=@Nat.succ_le_succ
abbrev cA:=@List.take_length
abbrev cB:=@List.all_eq_true
abbrev cJ:=@List.map_cons
abbrev cM:=@Nat.add_comm
abbrev cO:=@Rat.intCast_natCast
abbrev cR:=@List.nodup_cons
abbrev cU:=@List.drop_eq_getElem_cons
abbrev cX:=@Int.gcd_dvd_left
abbrev cY:=@Bool.and_eq_true
abbrev dA:=@List.length_take
abbrev dC:=@List.getElem?_append_right
abbrev dG:=@List.length_replicate
abbrev dH:=@Bool.beq_eq_decide_eq
abbrev dP:=@List.getElem?_append_left
abbrev dR:=@Nat.min_eq_left
abbrev dS:=@List.append_nil
abbrev d6:=@Nat.succ_mul
abbrev d7:=@List.map_map
abbrev eR:=@PySem.F.plainAttrs_list
abbrev eS:=@Nat.mul_le_mul
abbrev fg:=@List.mem_singleton
abbrev fh:=@Int.emod_lt_of_pos
abbrev fv:=@List.length_nil
abbrev fz:=@Bool.eq_iff_iff
abbrev fV:=@List.nodup_append
abbrev fW:=@Int.gcd_dvd_right
abbrev fZ:=@List.mem_of_mem_drop
abbrev gh:=@List.drop_drop
abbrev gQ:=@Nat.lt_succ_self
abbrev gR:=@List.mem_flatten
abbrev gS:=@List.lookup_cons
abbrev gT:=@Int.mul_comm
abbrev hZ:=@List.mem_or_eq_of_mem_set
abbrev ie:=@PySem.mem_of_lookup
abbrev ig:=@PySem.W.hideAll_get
abbrev ij:=@List.map_congr_left
abbrev iw:=@PySem.F.type_list_append
abbrev iz:=@PySem.F.slot_list_append
abbrev iB:=@Int.mul_assoc
abbrev iG:=@Int.emod_nonneg
abbrev jc:=@Int.dvd_mul_of_dvd_left
abbrev jv:=@List.flatten_cons
abbrev jw:=@Int.natAbs_mul
abbrev jx:=@Int.gcd_comm
abbrev jZ:=@List.take_append_drop
abbrev j2:=@List.getElem?_eq_none
abbrev j4:=@List.getElem_mem
abbrev kB:=@Nat.le_succ
abbrev kC:=@List.replicate_succ'
abbrev kD:=@List.mem_append_left
abbrev kF:=@List.nil_append
abbrev lP:=@List.flatten_append
abbrev lQ:=@List.filterMap_cons
abbrev lZ:=@Nat.pow_succ
abbrev md:=@Nat.lt_or_ge
abbrev me:=@List.all_map
abbrev mO:=@PySem.W.of_hideAll
abbrev mP:=@List.take_zero
abbrev mQ:=@List.mem_range
abbrev mR:=@List.getD_eq_getElem?_getD
abbrev mS:=@Int.fdiv_eq_ediv_of_nonneg
abbrev oJ:=@Int.toNat_natCast
abbrev oM:=@Option.isSome_iff_exists
abbrev oN:=@Nat.mul_assoc
abbrev qe:=@Rat.intCast_eq_zero_iff
abbrev qf:=@PySem.W.Looks.at
abbrev qg:=@Nat.min_eq_right
abbrev qh:=@Nat.add_sub_cancel_left
abbrev qi:=@List.length_eq_zero_iff
abbrev qj:=@List.getElem?_replicate
abbrev qG:=@PySem.W.cellsFrom_some
abbrev qH:=@PySem.F.type_str_split
abbrev qI:=@PySem.F.slot_str_split
abbrev qJ:=@List.flatten_singleton
abbrev qK:=@List.drop_of_length_le
abbrev sH:=@Int.natAbs_dvd_natAbs
abbrev tX:=@Nat.one_mul
abbrev tY:=@List.mem_of_mem_take
abbrev uT:=@List.map_eq_nil_iff
abbrev uU:=@List.length_pos_iff
abbrev vZ:=@Rat.div_mul_cancel
abbrev v3:=@PySem.W.callWith_K
abbrev v5:=@List.mem_filterMap
abbrev v7:=@Bool.false_eq_true
abbrev yc:=@PySem.list_append
abbrev yd:=@Nat.ne_of_gt
abbrev ye:=@Nat.mul_comm
abbrev yf:=@Int.zero_add
abbrev yg:=@Bool.eq_false_iff
abbrev yR:=@PySem.IsL.update
abbrev yS:=@Option.getD_some
abbrev yT:=@List.cons_ne_nil
abbrev yU:=@List.cons_append
abbrev Az:=@Nat.pow_add
abbrev AA:=@Int.dvd_gcd
abbrev AE:=@Rat.natCast_mul
abbrev AF:=@Rat.intCast_inj
abbrev AG:=@List.of_mem_zip
abbrev AH:=@List.length_set
abbrev AI:=@List.cons.injEq
abbrev AJ:=@Int.natCast_mul
abbrev AK:=@Int.gcd_pos_of_ne_zero_right
abbrev Ca:=@PySem.F.type_str_startswith
abbrev Cb:=@PySem.F.slot_str_startswith
abbrev CP:=@PySem.F.type_str_partition
abbrev CQ:=@PySem.F.slot_str_partition
abbrev CS:=@PySem.F.excBase_ValueError
abbrev CT:=@List.nodup_nil
abbrev CU:=@List.drop_zero
abbrev CV:=@Int.eq_of_mul_eq_mul_right
abbrev CW:=@Bool.and_false
abbrev Ei:=@PySem.StrLaws.split_free
abbrev Ej:=@PySem.StrLaws.join_split
abbrev Ek:=@List.map_drop
abbrev El:=@Bool.eq_false_or_eq_true
abbrev Fs:=@PySem.StrLaws.subAt_one
abbrev Ft:=@Nat.le_mul_of_pos_right
abbrev Fu:=@Int.natCast_dvd_natCast
abbrev LR9:=List (List Rat)
abbrev FG9:=PySem.W.Frag
namespace L2
open PySem PySem.Spec PyProof.Rows
abbrev Key:=Sum Int Str
def Cu:Key->Value->Bool
 | .inl k,v=>Value.isInt k v
 | .inr x,v=>Value.isStrOf x v
def FK (w:World):Key->Int
 | .inl k=>hashInt k
 | .inr x=>hashStr w x
theorem dj:∀{k:Key} {v:Value},Cu k v=true->(∃i t,k=Sum.inl i/\v=Value.int i t)\/(∃x t,k=Sum.inr x/\v=Value.str x t)
 | .inl i,v,h=>by
  obtain ⟨t,e⟩:=Value.isInt_shape (k:=i) (v:=v) h;exact .inl ⟨i,t,rfl,e⟩
 | .inr x,v,h=>by
  obtain ⟨t,e⟩:=Value.isStrOf_shape (x:=x) (v:=v) h;exact .inr ⟨x,t,rfl,e⟩
theorem DY (a b:Int):decide ((Sum.inl a:Key)=Sum.inl b)=(a == b):=by
 by_cases e:a=b
 ·subst e;simp
 ·have h:¬(Sum.inl a:Key)=Sum.inl b:=λq=>e (Sum.inl.inj q)
  rw[decide_eq_false h];exact (beq_eq_false_iff_ne.mpr e).symm
theorem DV (a b:Str):decide ((Sum.inr a:Key)=Sum.inr b)=decide (a=b):=by
 by_cases e:a=b
 ·subst e;simp
 ·have h:¬(Sum.inr a:Key)=Sum.inr b:=λq=>e (Sum.inr.inj q)
  rw[decide_eq_false h,decide_eq_false e]
theorem DX (a:Int) (b:Str):decide ((Sum.inl a:Key)=Sum.inr b)=false:=decide_eq_false (λq=>nomatch q)
theorem DW (a:Str) (b:Int):decide ((Sum.inr a:Key)=Sum.inl b)=false:=decide_eq_false (λq=>nomatch q)
def xE (prog:Program) (w:World):PySem.KeyKind prog w Key where
 is:=Cu
 hash:=FK w
 inj:=λv a b ha hb=>by
  rcases dj ha with ⟨i,t,rfl,rfl⟩ | ⟨x,t,rfl,rfl⟩
  ·rcases dj hb with ⟨j,u,rfl,e⟩ | ⟨y,u,rfl,e⟩
   ·injection e with e1 _;rw[e1]
   ·exact nomatch e
  ·rcases dj hb with ⟨j,u,rfl,e⟩ | ⟨y,u,rfl,e⟩
   ·exact nomatch e
   ·injection e with e1 _;rw[e1]
 byValue:=λk v h=>by
  rcases dj h with ⟨i,t,rfl,rfl⟩ | ⟨x,t,rfl,rfl⟩ <;> rfl
 pyHash:=λhv h=>by
  rcases dj hv with ⟨i,t,rfl,rfl⟩ | ⟨x,t,rfl,rfl⟩
  ·exact wpAny_pyHash_int h
  ·exact wpAny_pyHash_str h
 eqBool:=λhu hv h=>by
  rcases dj hu with ⟨i,t,rfl,rfl⟩ | ⟨x,t,rfl,rfl⟩
  ·rcases dj hv with ⟨j,u,rfl,rfl⟩ | ⟨y,u,rfl,rfl⟩
   ·rw[DY] at h;exact wpAny_eqBool_int h
   ·rw[DX] at h;exact SeqAt.EqAt.int_str i t y u _ _ _ _ h
  ·rcases dj hv with ⟨j,u,rfl,rfl⟩ | ⟨y,u,rfl,rfl⟩
   ·rw[DW] at h;exact SeqAt.EqAt.str_int x t j u _ _ _ _ h
   ·rw[DV] at h;exact wpAny_eqBool_str h
 «strs»:=λk x t v h=>by
  rcases dj h with ⟨i,u,rfl,e⟩ | ⟨y,u,rfl,e⟩
  ·exact nomatch e
  ·injection e with e1 _
   subst e1;cases v <;> rfl
inductive V where
  | non | bl (b : Bool) | int (i : Int) | str (x : Str) | byt (b : Array UInt8) | flt (b : UInt64) | ref (a : Addr) | ty (n : String)
  deriving DecidableEq

def RelV:V->Value->Prop
 | .non,u=>u=Value.none
 | .bl b,u=>u=Value.bool b
 | .int i,u=>∃t,u=Value.int i t
 | .str x,u=>∃t,u=Value.str x t
 | .byt b,u=>∃t,u=Value.bytes b t
 | .flt b,u=>∃t,u=Value.float b t
 | .ref a,u=>u=Value.ref a
 | .ty n,u=>u=Value.type n
abbrev bO:List V->List Value->Prop:=Paired RelV
theorem bO.length {xs:List V} {us:List Value} (r:bO xs us):xs.length=us.length:=Paired.length r
theorem bO.get:∀{xs:List V} {us:List Value} {i:Nat} {x:V},bO xs us->xs[i]?=some x->∃u,us[i]?=some u/\RelV x u
 | _,_,_,_,.nil,e=>by simp at e
 | _,_,0,_,.cons r _,e=>by simp at e;subst e;exact ⟨_,rfl,r⟩
 | _,_,i+1,x,.cons _ t,e=>by
  obtain ⟨u,h1,h2⟩:=bO.get (i:=i) (x:=x) t (by simpa using e);exact ⟨u,by simpa using h1,h2⟩
theorem bO.set {x:V} {u:Value} (r:RelV x u):∀{xs:List V} {us:List Value} (i:Nat),bO xs us->bO (xs.set i x) (us.set i u)
 | _,_,_,.nil=>.nil
 | _,_,0,.cons _ t=>.cons r t
 | _,_,i+1,.cons q t=>.cons q (bO.set r i t)
theorem bO.append:∀{xs ys:List V} {us ws:List Value},bO xs us->bO ys ws->bO (xs++ys) (us++ws)
 | _,_,_,_,.nil,s=>s
 | _,_,_,_,.cons r t,s=>.cons r (bO.append t s)
theorem bO.take:∀{xs:List V} {us:List Value} (n:Nat),bO xs us->bO (xs.take n) (us.take n)
 | _,_,0,_=>.nil
 | _,_,_+1,.nil=>.nil
 | _,_,n+1,.cons r t=>.cons r (bO.take n t)
theorem bO.drop:∀{xs:List V} {us:List Value} (n:Nat),bO xs us->bO (xs.drop n) (us.drop n)
 | _,_,0,r=>r
 | _,_,_+1,.nil=>.nil
 | _,_,n+1,.cons _ t=>bO.drop n t
def xa:Option V->Option Value->Prop
 | some v,some u=>RelV v u
 | none,none=>True
 | _,_=>False
def KV {κ:Type}:List (κ×V)->List (κ×Value)->Prop:=Paired λ(p:κ×V) (q:κ×Value)=>p.1=q.1/\RelV p.2 q.2
def kV:Key->V
 | .inl i=>.int i
 | .inr x=>.str x
inductive HO where
 | lst (xs:List V)
 | tup (xs:List V)
 | dK (kvs:List (Key×V)) | dT (kvs:List (List Key×V))
 | set (S:Int->Bool) (n:Nat)
 | ins (C dx:Addr) (fs:List (Str×V))
 | own (x:Addr)
 | xd (fs:List (Str×V))
 | met (f x:Addr)
 | rng (lo hi:Int)
 | frz (o:Obj) (u:HO)
 | tbl (ps:Array Value)
 | ext (φ:Heap->Prop)
abbrev Hp:=Addr->Option HO
def upd (H:Hp) (a:Addr) (o:HO):Hp:=λb=>if b=a then some o else H b
theorem aA {H:Hp} {a:Addr} {o:HO}:upd H a o a=some o:=by unfold upd;rw[if_pos rfl]
theorem aU {H:Hp} {a b:Addr} {o:HO} (h:b≠a):upd H a o b=H b:=by unfold upd;rw[if_neg h]
theorem cZ {H:Hp} {a b:Addr} {o:HO} (h:H a=some o) (h':H b=none):a≠b:=by
 intro e;subst e;rw[h] at h';cases h'
section
variable (P:Program) (w:World)
def dB (H:Hp) (h:Heap) (a:Addr):HO->Prop
 | .lst xs=>xs.length<=sizeLine/\∃(its:List Value) (n:Nat),bO xs its/\h.get? a=some { cls:=.type "list",data:=.seq its.toArray n }
 | .tup xs=>xs.length<=sizeLine/\∃its:List Value,bO xs its/\IsTup h a its.toArray
 | .dK kvs=>kvs.length<=sizeLine/\(a == sysModules)=false/\∃vs,KV kvs vs/\h.DictOf (xE P w) a vs
 | .dT kvs=>kvs.length<=sizeLine/\(a == sysModules)=false/\∃xs:List (List Key×Addr×Value),
   Paired (λ(p:List Key×V) (q:List Key×Addr×Value)=>p.1=q.1/\H q.2.1=some (.tup (p.1.map kV))/\RelV p.2 q.2.2) kvs xs /\
   ∃o es ep,h.get? a=some o/\o.ExactDict/\o.data=.dict es ep/\es.toList=xs.map (entryOfKey (tupleKind (xE P w)))/\(xs.map (·.1)).Nodup
 | .set S n=>h.SetOf (intKind P w) a S n
 | .ins C dx fs=>H dx=some (.own a)/\fs.length<=1000/\dx≠a/\h.get? a=some (PySem.W.instObj C dx) /\
   ∃mA,h.Ns1 dx mA/\(∀f,xa (fs.lookup f) (mA f))/\PySem.Within mA (fs.map (·.1))
 | .own _=>∃o,h.get? a=some o
 | .xd fs=>∃mA,h.Ns1 a mA/\∀f,xa (fs.lookup f) (mA f)
 | .rng lo hi=>∃t u v,h.get? a=some { cls:=.type "range",data:=.fields #[.int lo t,.int hi u,.int 1 v] }
 | .frz o u=>h.get? a=some o/\dB H h a u
 | .tbl ps=>h.get? a=some { cls:=.none,data:=.fields ps }
 | .met f x=>h.get? a=some (PySem.W.methodObj (.ref f) (.ref x))
 | .ext φ=>φ h/\(∃o,h.get? a=some o)/\∀h1 h2:Heap,φ h1->(∀o,h1.get? a=some o->h2.get? a=some o)->φ h2
def oH (H:Hp) (h:Heap):Prop:=∀a o,H a=some o->dB P w H h a o
end
section
variable {P:Program} {w:World} {H H':Hp} {h h':Heap} {a:Addr} {o:HO}
theorem dB.lt (x:dB P w H h a o):a < h.objs.size:=by
 cases o with
 | lst xs=>obtain ⟨_,_,_,_,e⟩:=x;exact Heap.lt_size e
 | tup xs=>obtain ⟨_,_,_,p⟩:=x;exact p.lt
 | dK kvs=>obtain ⟨_,_,_,_,o,_,_,e,_⟩:=x;exact Heap.lt_size e
 | dT kvs=>obtain ⟨_,_,_,_,o,_,_,e,_⟩:=x;exact Heap.lt_size e
 | set S n=>obtain ⟨o,_,_,_,e,_⟩:=x;exact Heap.lt_size e
 | ins C dx fs=>obtain ⟨_,_,_,e,_⟩:=x;exact Heap.lt_size e
 | own y=>obtain ⟨_,e⟩:=x;exact Heap.lt_size e
 | xd fs=>obtain ⟨_,⟨_,_,_,e,_⟩,_⟩:=x;exact Heap.lt_size e
 | rng lo hi=>obtain ⟨_,_,_,e⟩:=x;exact Heap.lt_size e
 | frz ob u=>obtain ⟨e,_⟩:=x;exact Heap.lt_size e
 | tbl ps=>exact Heap.lt_size (show h.get? a=some _ from x)
 | met f y=>exact Heap.lt_size (show h.get? a=some _ from x)
 | ext φ=>obtain ⟨_,⟨_,e⟩,_⟩:=x;exact Heap.lt_size e
theorem Paired.mapP {α β:Type} {F G:α->β->Prop}:∀{l₁:List α} {l₂:List β},Paired F l₁ l₂->(∀a b,F a b->G a b)->Paired G l₁ l₂
 | _,_,.nil,_=>.nil
 | _,_,.cons r t,f=>.cons (f _ _ r) (Paired.mapP t f)
theorem Paired.imp' {α β:Type} {F G:α->β->Prop} (f:∀a b,F a b->G a b) {l₁:List α} {l₂:List β} (r:Paired F l₁ l₂):Paired G l₁ l₂:=Paired.mapP r f
theorem dB.stay (x:dB P w H h a o) (k:∀b u,(b=a\/H b=some (.own a))->h.get? b=some u->h'.get? b=some u)
  (ho:∀b,H b=some (.own a)->H' b=some (.own a)) (ht:∀b xs,H b=some (.tup xs)->H' b=some (.tup xs)):dB P w H' h' a o:=by
 induction o with
 | lst xs=>obtain ⟨z,its,n,r,e⟩:=x;exact ⟨z,its,n,r,k _ _ (.inl rfl) e⟩
 | tup xs=>obtain ⟨z,its,r,ob,e,c⟩:=x;exact ⟨z,its,r,ob,k _ _ (.inl rfl) e,c⟩
 | dK kvs=>obtain ⟨z,y,vs,r,ob,es,ep,e,c⟩:=x;exact ⟨z,y,vs,r,ob,es,ep,k _ _ (.inl rfl) e,c⟩
 | dT kvs =>
  obtain ⟨z,y,xs,r,ob,es,ep,e,c⟩:=x;exact ⟨z,y,xs,Paired.mapP r λp q z=>⟨z.1,ht _ _ z.2.1,z.2.2⟩,ob,es,ep,k _ _ (.inl rfl) e,c⟩
 | set S n=>obtain ⟨ob,es,ep,t,e,c⟩:=x;exact ⟨ob,es,ep,t,k _ _ (.inl rfl) e,c⟩
 | ins C dx fs =>
  obtain ⟨d,z,ne,e,mA,⟨od,es,ep,e2,c⟩,r⟩:=x;exact ⟨ho _ d,z,ne,k _ _ (.inl rfl) e,mA,⟨od,es,ep,k _ _ (.inr d) e2,c⟩,r⟩
 | own y=>obtain ⟨ob,e⟩:=x;exact ⟨ob,k _ _ (.inl rfl) e⟩
 | xd fs=>obtain ⟨mA,⟨od,es,ep,e,c⟩,r⟩:=x;exact ⟨mA,⟨od,es,ep,k _ _ (.inl rfl) e,c⟩,r⟩
 | rng lo hi=>obtain ⟨t,u,v,e⟩:=x;exact ⟨t,u,v,k _ _ (.inl rfl) e⟩
 | frz ob u ih=>obtain ⟨e,q⟩:=x;exact ⟨k _ _ (.inl rfl) e,ih q⟩
 | tbl ps =>
  have e:h.get? a=some { cls:=.none,data:=.fields ps }:=x;show h'.get? a=some { cls:=.none,data:=.fields ps }
  exact k a _ (.inl rfl) e
 | met f y =>
  have e:h.get? a=some (PySem.W.methodObj (.ref f) (.ref y)):=x;show h'.get? a=some (PySem.W.methodObj (.ref f) (.ref y))
  exact k a _ (.inl rfl) e
 | ext φ=>obtain ⟨p,⟨o,e⟩,st⟩:=x;exact ⟨st _ _ p λo q=>k _ _ (.inl rfl) q,⟨o,k _ _ (.inl rfl) e⟩,st⟩
theorem oH.lt (x:oH P w H h) (e:H a=some o):a < h.objs.size:=(x a o e).lt
theorem oH.fresh (x:oH P w H h) (e:h.objs.size<=a):H a=none:=by
 cases q:H a with
 | none=>rfl
 | some u=>exact absurd (av (x.lt q) e) (bA _)
theorem oH.kept (x:oH P w H h) (k:∀b u,h.get? b=some u->h'.get? b=some u):oH P w H h':=λa o e =>
 (x a o e).stay (λb u _ q=>k b u q) (λ_ q=>q) λ_ _ q=>q
theorem oH.laid (x:oH P w H h) (k:∀b u,h.get? b=some u->h'.get? b=some u) (hp:h.objs.size<=a) (new:dB P w (upd H a o) h' a o):oH P w (upd H a o) h':=λb u e=>by
 have hn:=x.fresh hp;by_cases hb:b=a
 ·subst hb;rw[aA] at e;cases e;exact new
 ·rw[aU hb] at e;exact (x b u e).stay (λc v _ q=>k c v q) (λc q=>by rw[aU (cZ q hn)];exact q) λc xs q=>by rw[aU (cZ q hn)];exact q
end
def Rd (H:Hp) (a:Addr) (u:HO):Prop:=H a=some u\/∃o,H a=some (.frz o u)
theorem Rd.ok {P:Program} {w:World} {H:Hp} {h:Heap} {a:Addr} {u:HO} (r:Rd H a u) (x:oH P w H h):dB P w H h a u:=by
 rcases r with r | ⟨o,r⟩
 ·exact x a u r
 ·obtain ⟨_,q⟩:=x a _ r;exact q
def Fz:Option HO->Prop
 | some (.lst _)=>True
 | some (.dK _)=>True
 | some (.dT _)=>True
 | some (.set _ _)=>True
 | some (.ins _ _ _)=>True
 | some (.ext _)=>True
 | _=>False
section
variable {P:Program} {w:World} {H:Hp} {h h':Heap} {x e:Addr} {o':HO}
theorem oH.write (ok:oH P w H h) (mu:Fz (H x)) (he:e=x\/H e=some (.own x)) (k:∀b u,b≠e->h.get? b=some u->h'.get? b=some u) (heo:∃u,h'.get? e=some u)
  (new:dB P w (upd H x o') h' x o'):oH P w (upd H x o') h':=λb u q=>by
 have nown:∀c y,H c=some (.own y)->c≠x:=λc y r z=>by subst z;rw[r] at mu;exact mu
 have ntup:∀c xs,H c=some (.tup xs)->c≠x:=λc xs r z=>by subst z;rw[r] at mu;exact mu
 by_cases hb:b=x
 ·subst hb;rw[aA] at q;cases q;exact new
 ·rw[aU hb] at q;by_cases hbe:b=e
  ·have q':H b=some (.own x):=by
    rcases he with z | z
    ·exact absurd (hbe.trans z) hb
    ·rw[hbe];exact z
   rw[q] at q';cases q';obtain ⟨v,hv⟩:=heo;exact ⟨v,by rw[hbe];exact hv⟩
  ·refine (ok b u q).stay (λc v hc r=>k c v ?_ r) (λc r=>by rw[aU (nown c b r)];exact r) λc xs r=>by rw[aU (ntup c xs r)];exact r
   rcases hc with rfl | hc
   ·exact hbe
   ·rintro rfl;rcases he with z | z
    ·exact nown c b hc z
    ·rw[hc] at z;cases z;exact hb rfl
end
structure Un (fs ex:List Addr) (H H':Hp) (h h':Heap):Prop where
 keep:∀b o,h.get? b=some o->H b=none->b∉fs->b∉ex->h'.get? b=some o
 slot:∀b o,h.get? b=some o->H b=none->b∈fs->b∉ex->∃sl,h'.get? b=some { o with slots:=sl }
 free:∀b o,h.get? b=some o->H b=none->b∉ex->H' b=none
 there:∀b o,h.get? b=some o->b∉ex->∃o',h'.get? b=some o'
 tups:∀b xs,H b=some (.tup xs)->H' b=some (.tup xs)
 frzs:∀b o u,H b=some (.frz o u)->H' b=some (.frz o u)
 tbls:∀b ps,H b=some (.tbl ps)->∃more,H' b=some (.tbl (ps++more))
section
variable {fs fs' ex ex':List Addr} {H H1 H2:Hp} {h h1 h2 h':Heap} {a x e:Addr} {o:HO}
theorem Un.any (u:Un fs ex H H1 h h1) {b:Addr} {ob:Obj} (q:h.get? b=some ob) (n:H b=none) (hx:b∉ex):∃sl,h1.get? b=some { ob with slots:=sl }:=by
 by_cases hb:b∈fs
 ·exact u.slot b ob q n hb hx
 ·exact ⟨ob.slots,u.keep b ob q n hb hx⟩
theorem Un.kept (k:∀b u,h.get? b=some u->h'.get? b=some u):Un fs ex H H h h' :=
 ⟨λb ob q _ _ _=>k b ob q,λb ob q _ _ _=>⟨ob.slots,k b ob q⟩,λ_ _ _ n _=>n,λb ob q _=>⟨ob,k b ob q⟩,λ_ _ q=>q,λ_ _ _ q=>q,λ_ ps q=>⟨#[],by rw[q];simp⟩⟩
theorem Un.refl:Un fs ex H H h h:=Un.kept λ_ _ q=>q
theorem Un.laid (k:∀b u,h.get? b=some u->h'.get? b=some u) (hp:h.objs.size<=a) (hn:H a=none):Un fs ex H (upd H a o) h h' where
 keep:=λb u q _ _ _=>k b u q
 slot:=λb u q _ _ _=>⟨u.slots,k b u q⟩
 free:=λb u q n _=>by rw[aU (bq (av (Heap.lt_size q) hp))];exact n
 there:=λb u q _=>⟨u,k b u q⟩
 tups:=λb xs q=>by rw[aU (cZ q hn)];exact q
 frzs:=λb u xs q=>by rw[aU (cZ q hn)];exact q
 tbls:=λb ps q=>⟨#[],by rw[aU (cZ q hn),q];simp⟩
theorem Un.write (mu:Fz (H x)) (he:e=x\/H e=some (.own x)) (k:∀b u,b≠e->h.get? b=some u->h'.get? b=some u) (heo:∃u,h'.get? e=some u):Un fs ex H (upd H x o) h h':=by
 have hx:∀b,H b=none->b≠x:=λb n z=>by subst z;rw[n] at mu;exact mu
 have hb:∀b,H b=none->b≠e:=λb n z=>by
  subst z;rcases he with r | r
  ·exact hx b n r
  ·rw[n] at r;cases r
 have hm:∀b u,H b=some u->¬Fz (some u)->b≠x:=λb u q nm z=>by subst z;rw[q] at mu;exact nm mu
 refine ⟨λb u q n _ _=>k b u (hb b n) q,λb u q n _ _=>⟨u.slots,k b u (hb b n) q⟩,λb u q n _=>by rw[aU (hx b n)];exact n,λb u q _=>?_,
  λb xs q=>by rw[aU (hm b _ q λz=>z)];exact q,λb u xs q=>by rw[aU (hm b _ q λz=>z)];exact q,λb ps q=>⟨#[],by rw[aU (hm b _ q λz=>z),q];simp⟩⟩
 by_cases hbe:b=e
 ·subst hbe;exact heo
 ·exact ⟨u,k b u hbe q⟩
end
def Fv (h:Heap) (H:Hp):List Addr:=(List.range h.objs.size).filter λa=>(H a).isSome
def uF (h:Heap) (H:Hp):Heap:=PySem.W.hideAll h (Fv h H)
theorem yF (h:Heap) (H:Hp):(uF h H).objs.size=h.objs.size:=PySem.W.hideAll_size _ _
theorem Ae {h:Heap} {H:Hp} {b:Addr} {o:Obj} (e:h.get? b=some o) (n:H b=none):(uF h H).get? b=some o :=
 ig _ e λhm=>by
  have q:(H b).isSome=true:=(List.mem_filter.mp hm).2;rw[n] at q;simp at q
theorem BE {h:Heap} {H:Hp} {b:Addr} {o:Obj} (e:(uF h H).get? b=some o):h.get? b=some o/\H b=none:=by
 have e':h.get? b=some o:=mO (Fv h H) e;refine ⟨e',?_⟩;cases q:H b with
 | none=>rfl
 | some x =>
  have hm:b∈Fv h H:=List.mem_filter.mpr ⟨mQ.mpr (Heap.lt_size e'),by simp [q]⟩;have z:(uF h H).get? b=none:=PySem.W.hideAll_none (Fv h H) hm;rw[z] at e;cases e
structure Mod (K:FG9) (mg:Str->Option Value) (base:Heap):Prop where
 kin:K.In base
 glob:base.Ns mainGlobals mg
 blt:∃mb,base.Ns builtinsNs mb/\∀x:Str,x≠"__name__"->mb x=bootBuiltins x
 nolimit:base.NoLimit
 nodig:base.NoDigits
structure Cx where
 prog:Program
 w:World
 K:FG9
 mg:Str->Option Value
 base:Heap
 A:Around
 N:List Str
 s₀:Shared
 H₀:Hp
 env:Env
 outer:List Env
 stack:List Env
 ex:List Addr
 fn:Str->Bool
 calm:Bool
 pn:List (Addr×Obj)
 xe:Value->Shared->Prop
def jd (l:List Env):List Addr:=l.filterMap (·.frame)
abbrev Cx.fs (X:Cx):List Addr:=jd X.outer
def FP (sc:Scope) (x:Str):Prop:=sc.names.lookup x=some .local\/sc.names.lookup x=some .cell\/sc.names.lookup x=some .free
def Loc (sc:Scope) (x:Str):Prop:=sc.names.lookup x=some .local\/sc.names.lookup x=some .cell
def Look (env:Env) (h:Heap) (m:Str->Option Value) (x:Str) (u:Value):Prop :=
 (env.kindOf x=some .local/\m x=some u)\/((env.kindOf x=some .cell\/env.kindOf x=some .free)/\∃c,env.cells.lookup x=some c/\h.IsCell c (some u))
structure Cx.Ok (X:Cx):Prop where
 mod:Mod X.K X.mg X.base
 kind:X.env.scope.kind=.function
 glob:X.env.globals=mainGlobals
 blt:X.env.builtins=builtinsNs
 above:X.s₀.heap.objs.size<=X.env.locals
 inj:∀x y c,X.env.cells.lookup x=some c->X.env.cells.lookup y=some c->x=y
 has:∀x,(X.env.kindOf x=some .cell\/X.env.kindOf x=some .free)->∃c,X.env.cells.lookup x=some c
 cab:∀x c,X.fn x=true->X.env.cells.lookup x=some c->X.s₀.heap.objs.size<=c
 hd:X.calm=true->X.A.handled=none
 frames:X.A.frames=some X.stack
 stk:X.stack=X.outer\/(X.stack=X.env :: X.outer/\X.env.frame=some X.env.locals)
 exf:∀b∈X.ex,b≠X.env.locals/\∀x c,X.env.cells.lookup x=some c->c≠b
 bs:∀b o,X.base.get? b=some o->X.s₀.heap.get? b=some o/\X.H₀ b=none
 bsz:X.base.objs.size<=X.s₀.heap.objs.size
 noex:∀b o,X.base.get? b=some o->b∉X.ex
 exfs:∀b∈X.ex,b∉X.fs
 funs:X.s₀.heap.FunFrames X.base X.outer
 frf:∀b∈X.fs,X.H₀ b=none
structure Inv (X:Cx) (pins:List (Addr×Obj)) (σ:List (Option V)) (H:Hp) (s:Shared):Prop where
 ok:X.Ok
 os:s.os=X.s₀.os
 bare:AllBare s.gens
 base:Un X.fs X.ex X.H₀ H X.s₀.heap s.heap
 loc:∃m,s.heap.Ns X.env.locals m/\∀(i:Nat) (x:Str) (v:V),X.N[i]?=some x->σ[i]?=some (some v)->FP X.env.scope x->∃u,RelV v u/\Look X.env s.heap m x u
 cell:∀x c,X.env.cells.lookup x=some c->∃v,s.heap.IsCell c v
 free:H X.env.locals=none
 freeC:∀x c,X.env.cells.lookup x=some c->H c=none
 pin:∀p∈X.pn++pins,s.heap.get? p.1=some p.2/\H p.1=none/\p.1≠X.env.locals/\p.1∉X.fs/\∀v,p.2.data≠.cell v
 hok:oH X.prog X.w H s.heap
 len:σ.length=X.N.length
section
variable {X:Cx} {pins:List (Addr×Obj)} {σ:List (Option V)} {H H':Hp} {s:Shared} {h':Heap}
theorem Cx.Ok.nofr (ok:X.Ok) {b:Addr} {o:Obj} (e:X.base.get? b=some o):b∉X.fs:=λhb=>by
 have:=(ok.funs.mem hb).1;rw[e] at this;cases this
theorem Inv.bs (I:Inv X pins σ H s):∀b o,X.base.get? b=some o->s.heap.get? b=some o/\H b=none:=λb o e =>
 ⟨I.base.keep b o (I.ok.bs b o e).1 (I.ok.bs b o e).2 (I.ok.nofr e) (I.ok.noex b o e),I.base.free b o (I.ok.bs b o e).1 (I.ok.bs b o e).2 (I.ok.noex b o e)⟩
theorem Inv.bk (I:Inv X pins σ H s):∀b o,X.base.get? b=some o->s.heap.get? b=some o:=λb o e=>(I.bs b o e).1
theorem Inv.mod (I:Inv X pins σ H s):Mod X.K X.mg X.base:=I.ok.mod
theorem Inv.kIn (I:Inv X pins σ H s):X.K.In s.heap:=I.ok.mod.kin.keeps I.bk
theorem Inv.lt (I:Inv X pins σ H s):X.env.locals < s.heap.objs.size:=let ⟨_,hn,_⟩:=I.loc;hn.lt
theorem Inv.sz (I:Inv X pins σ H s):X.s₀.heap.objs.size<=s.heap.objs.size:=ar I.ok.above (bR I.lt)
theorem Inv.nofs (I:Inv X pins σ H s) {a:Addr} (h:s.heap.objs.size<=a):a∉X.fs:=λhb=>by
 obtain ⟨_,o,ho,_⟩:=I.ok.funs.mem hb;exact absurd (av (Heap.lt_size ho) (ar I.sz h)) (bA _)
theorem Inv.cne (I:Inv X pins σ H s):∀x c,X.env.cells.lookup x=some c->c≠X.env.locals:=λx c e z=>by
 obtain ⟨v,o,ho,hd⟩:=I.cell x c e;obtain ⟨m,⟨o',es,ep,ho',hd',_⟩,_⟩:=I.loc;rw[z,ho'] at ho;cases ho;rw[hd'] at hd;cases hd
theorem Inv.funs (I:Inv X pins σ H s):s.heap.FunFrames X.base X.outer:=by
 have all:∀(l:List Env),(∀b∈jd l,b∈X.fs)->X.s₀.heap.FunFrames X.base l->s.heap.FunFrames X.base l:=by
  intro l
  induction l with
  | nil=>intro _ _;trivial
  | cons env r ih =>
   intro hs hl;obtain ⟨hk,⟨L,o,hf,hn,ho,hd⟩,hr⟩:=hl;have hL:L∈X.fs:=hs L (by unfold jd;rw[lQ,hf];exact aE);obtain ⟨sl,e⟩:=I.base.slot L o ho (I.ok.frf L hL) hL λz=>I.ok.exfs L z hL
   exact ⟨hk,⟨L,_,hf,hn,e,hd⟩,ih (λb hb=>hs b (by unfold jd;rw[lQ,hf];exact ao _ hb)) hr⟩
 exact all X.outer (λ_ hb=>hb) I.ok.funs
theorem Inv.stack (I:Inv X pins σ H s):s.heap.FunFrames X.base X.stack:=by
 rcases I.ok.stk with e | ⟨e,hf⟩
 ·rw[e];exact I.funs
 ·rw[e];obtain ⟨m,hn,_⟩:=I.loc;refine .cons (by rw[I.ok.kind];decide) hf hn ?_ I.funs;exact Heap.get?_none_of_le (ar I.ok.bsz I.ok.above)
theorem Inv.stkSub (I:Inv X pins σ H s):∀b∈jd X.stack,b∈X.env.locals :: X.fs:=λb hb=>by
 rcases I.ok.stk with e | ⟨e,hf⟩
 ·rw[e] at hb;exact ao _ hb
 ·rw[e] at hb;unfold jd at hb;rw[lQ,hf] at hb;exact hb
theorem Inv.stkFree (I:Inv X pins σ H s):∀b∈jd X.stack,H b=none:=λb hb=>by
 rcases az.mp (I.stkSub b hb) with e | hb
 ·rw[e];exact I.free
 ·obtain ⟨_,o,ho,_⟩:=I.ok.funs.mem hb;exact I.base.free b o ho (I.ok.frf b hb) λz=>I.ok.exfs b z hb
theorem Inv.step {g':Array GenState} {t':Nat} {d':Drawn} {ch:List Addr} (I:Inv X pins σ H s)
  (hch:∀b∈ch,(b∈X.ex\/X.s₀.heap.objs.size<=b)/\b≠X.env.locals/\(∀x c,X.env.cells.lookup x=some c->c≠b)/\∀p∈X.pn++pins,p.1≠b)
  (keep:∀b o,b≠X.env.locals->b∉X.fs->b∉ch->s.heap.get? b=some o->H b=none->h'.get? b=some o)
  (slot:∀b o,b≠X.env.locals->b∈X.fs->b∉ch->s.heap.get? b=some o->H b=none->∃sl,h'.get? b=some { o with slots:=sl }) (free:∀b o,b∉ch->s.heap.get? b=some o->H b=none->H' b=none)
  (there:∀b o,b∉ch->s.heap.get? b=some o->∃o',h'.get? b=some o')
  (tups:∀b xs,H b=some (.tup xs)->H' b=some (.tup xs)) (frzs:∀b o u,H b=some (.frz o u)->H' b=some (.frz o u)) (tbls:∀b ps,H b=some (.tbl ps)->∃more,H' b=some (.tbl (ps++more)))
  (ns:∀m,s.heap.Ns X.env.locals m->h'.Ns X.env.locals m) (hok:oH X.prog X.w H' h') (hg:AllBare g') :
  Inv X pins σ H' { s with heap:=h',gens:=g',drawn:=d',toks:=t' }:=by
 have neL:∀b o,X.s₀.heap.get? b=some o->b≠X.env.locals:=λb o e=>bq (av (Heap.lt_size e) I.ok.above)
 have neC:∀b o,X.s₀.heap.get? b=some o->b∉X.ex->b∉ch:=λb o e hx hb=>by
  rcases (hch b hb).1 with z | z
  ·exact hx z
  ·exact absurd (av (Heap.lt_size e) z) (bA _)
 have cellK:∀x c,X.env.cells.lookup x=some c->∀v,s.heap.IsCell c v->h'.IsCell c v:=λx c e v ⟨o,ho,hd⟩=>by
  have nch:c∉ch:=λz=>(hch c z).2.2.1 x c e rfl
  by_cases hc:c∈X.fs
  ·obtain ⟨sl,q⟩:=slot c o (I.cne x c e) hc nch ho (I.freeC x c e);exact ⟨_,q,hd⟩
  ·exact ⟨o,keep c o (I.cne x c e) hc nch ho (I.freeC x c e),hd⟩
 refine ⟨I.ok,I.os,hg,⟨λb o e n hb hx=>?_,λb o e n hb hx=>?_,λb o e n hx=>?_,λb o e hx=>?_,λb xs e=>tups b xs (I.base.tups b xs e),λb o xs e=>frzs b o xs (I.base.frzs b o xs e),λb ps e=>?_⟩,?_,λx c e=>?_,?_,λx c e=>?_,λp hp=>?_,hok,I.len⟩
 ·exact keep b o (neL b o e) hb (neC b o e hx) (I.base.keep b o e n hb hx) (I.base.free b o e n hx)
 ·obtain ⟨sl,e1⟩:=I.base.slot b o e n hb hx;obtain ⟨sl',e2⟩:=slot b _ (neL b o e) hb (neC b o e hx) e1 (I.base.free b o e n hx);exact ⟨sl',e2⟩
 ·obtain ⟨o',e1⟩:=I.base.there b o e hx;exact free b o' (neC b o e hx) e1 (I.base.free b o e n hx)
 ·obtain ⟨o',e1⟩:=I.base.there b o e hx;exact there b o' (neC b o e hx) e1
 ·obtain ⟨m1,e1⟩:=I.base.tbls b ps e;obtain ⟨m2,e2⟩:=tbls b _ e1;exact ⟨m1++m2,by rw[e2,Array.append_assoc]⟩
 ·obtain ⟨m,hn,hl⟩:=I.loc;refine ⟨m,ns m hn,λi x v e1 e2 e3=>?_⟩;obtain ⟨u,r,l⟩:=hl i x v e1 e2 e3;refine ⟨u,r,?_⟩;rcases l with l | ⟨k,c,e,z⟩
  ·exact .inl l
  ·exact .inr ⟨k,c,e,cellK x c e _ z⟩
 ·obtain ⟨v,z⟩:=I.cell x c e;exact ⟨v,cellK x c e v z⟩
 ·obtain ⟨m,⟨o,_,_,ho,_⟩,_⟩:=I.loc;exact free _ o (λz=>(hch _ z).2.1 rfl) ho I.free
 ·obtain ⟨v,o,ho,hd⟩:=I.cell x c e;exact free c o (λz=>(hch c z).2.2.1 x c e rfl) ho (I.freeC x c e)
 ·obtain ⟨e,n,ne,nf,d⟩:=I.pin p hp;have nch:p.1∉ch:=λz=>(hch p.1 z).2.2.2 p hp rfl
  exact ⟨keep p.1 p.2 ne nf nch e n,free p.1 p.2 nch e n,ne,nf,d⟩
theorem Inv.un {t':Nat} (I:Inv X pins σ H s) (u:Un X.fs [] H H' s.heap h') (hok:oH X.prog X.w H' h'):Inv X pins σ H' { s with heap:=h',toks:=t' }:=by
 obtain ⟨m,⟨o,es,ep,ho,r⟩,_⟩:=id I.loc;obtain ⟨sl,hL⟩:=u.any ho I.free (by simp)
 exact I.step (g':=s.gens) (d':=s.drawn) (ch:=[]) (λ_ z=>nomatch z) (λb o _ hb _ e n=>u.keep b o e n hb (by simp)) (λb o _ hb _ e n=>u.slot b o e n hb (by simp)) (λb o _ e n=>u.free b o e n (by simp)) (λb o _ e=>u.there b o e (by simp)) u.tups u.frzs u.tbls (λm' hm=>by
  obtain ⟨o',es',ep',ho',r'⟩:=hm;rw[ho] at ho';cases ho';exact ⟨_,es',ep',hL,r'⟩) hok I.bare
theorem Inv.call {g':Array GenState} {t':Nat} {d':Drawn} {ch:List Addr} (I:Inv X pins σ H s) (u:Un (jd X.stack) ch H H' s.heap h') (hok:oH X.prog X.w H' h') (hg:AllBare g')
  (hch:∀b∈ch,(b∈X.ex\/X.s₀.heap.objs.size<=b)/\b≠X.env.locals/\(∀x c,X.env.cells.lookup x=some c->c≠b)/\∀p∈X.pn++pins,p.1≠b) :
  Inv X pins σ H' { s with heap:=h',gens:=g',drawn:=d',toks:=t' }:=by
 obtain ⟨m,⟨o,es,ep,ho,r⟩,_⟩:=id I.loc;obtain ⟨sl,hL⟩:=u.any ho I.free λz=>(hch _ z).2.1 rfl
 exact I.step (ch:=ch) hch (λb o hL hb hc e n=>u.keep b o e n (λz=>(az.mp (I.stkSub b z)).elim hL hb) hc) (λb o _ _ hc e n=>u.any e n hc) (λb o hc e n=>u.free b o e n hc) (λb o hc e=>u.there b o e hc) u.tups u.frzs u.tbls (λm' hm=>by
  obtain ⟨o',es',ep',ho',r'⟩:=hm;rw[ho] at ho';cases ho';exact ⟨_,es',ep',hL,r'⟩) hok hg
theorem Inv.turned {t':Nat} {it:Addr} (I:Inv X pins σ H s) (k:∀b o,b≠it->s.heap.get? b=some o->h'.get? b=some o) (hn:H it=none) (hL:it≠X.env.locals)
  (h1:it∈X.ex\/X.s₀.heap.objs.size<=it) (h2:∀x c,X.env.cells.lookup x=some c->c≠it) (h3:∀p∈X.pn++pins,p.1≠it):Inv X pins σ H { s with heap:=h',toks:=t' }:=by
 have nit:∀b u,H b=some u->b≠it:=λb u e z=>by rw[z,hn] at e;cases e
 refine I.step (g':=s.gens) (d':=s.drawn) (ch:=[it]) (λb hb=>?_) (λb o _ _ hc e _=>k b o (λz=>hc (by simp [z])) e) (λb o _ _ hc e _=>⟨o.slots,k b o (λz=>hc (by simp [z])) e⟩) (λ_ _ _ _ n=>n)
  (λb o hc e=>⟨o,k b o (λz=>hc (by simp [z])) e⟩) (λ_ _ e=>e) (λ_ _ _ e=>e) (λb ps e=>⟨#[],by rw[e];simp⟩) (λm hm=>?_) (λb u e=>?_) I.bare
 ·have e:b=it:=by simpa using hb
  subst e;exact ⟨h1,hL,h2,h3⟩
 ·obtain ⟨o,es,ep,ho,r⟩:=hm;exact ⟨o,es,ep,k _ o (Ne.symm hL) ho,r⟩
 ·refine (I.hok b u e).stay (λc v hc q=>k c v ?_ q) (λ_ q=>q) λ_ _ q=>q
  rcases hc with z | z
  ·rw[z];exact nit b u e
  ·exact nit c _ z
theorem Inv.tok (I:Inv X pins σ H s) (t:Nat):Inv X pins σ H { s with toks:=t }:=I.un (h':=s.heap) (t':=t) Un.refl I.hok
theorem Inv.kept {t':Nat} (I:Inv X pins σ H s) (k:∀b u,s.heap.get? b=some u->h'.get? b=some u):Inv X pins σ H { s with heap:=h',toks:=t' }:=I.un (Un.kept k) (I.hok.kept k)
theorem Inv.laid {a:Addr} {o:HO} {t':Nat} (I:Inv X pins σ H s) (k:∀b u,s.heap.get? b=some u->h'.get? b=some u) (hp:s.heap.objs.size<=a) (new:dB X.prog X.w (upd H a o) h' a o) :
  Inv X pins σ (upd H a o) { s with heap:=h',toks:=t' }:=I.un (Un.laid k hp (I.hok.fresh hp)) (I.hok.laid k hp new)
theorem Inv.write {x e:Addr} {o:HO} {t':Nat} (I:Inv X pins σ H s) (mu:Fz (H x)) (he:e=x\/H e=some (.own x)) (k:∀b u,b≠e->s.heap.get? b=some u->h'.get? b=some u) (heo:∃u,h'.get? e=some u)
  (new:dB X.prog X.w (upd H x o) h' x o):Inv X pins σ (upd H x o) { s with heap:=h',toks:=t' }:=I.un (Un.write mu he k heo) (I.hok.write mu he k heo new)
theorem Inv.pins_of {pins':List (Addr×Obj)} (I:Inv X pins σ H s) (h:∀p∈pins',s.heap.get? p.1=some p.2/\H p.1=none/\p.1≠X.env.locals/\p.1∉X.fs/\∀v,p.2.data≠.cell v):Inv X pins' σ H s :=
 ⟨I.ok,I.os,I.bare,I.base,I.loc,I.cell,I.free,I.freeC,λp hp=>(aO.mp hp).elim (λz=>I.pin p (kD _ z)) (h p),I.hok,I.len⟩
theorem vG {N:List Str} (hN:N.Nodup) {i j:Nat} {x:Str} (a:N[i]?=some x) (b:N[j]?=some x):i=j:=by
 obtain ⟨h1,e1⟩:=aK.mp a;obtain ⟨h2,e2⟩:=aK.mp b;exact (List.getElem_inj hN).mp (e1.trans e2.symm)
theorem sW {M:Model} {A:Around} {E:Value->Shared->Prop} {i:Nat} {x:Str} {v:V} {u:Value} {Q:Unit->Shared->Prop} (I:Inv X pins σ H s) (hN:X.N.Nodup) (hi:X.N[i]?=some x) (hx:Loc X.env.scope x) (r:RelV v u)
  (h:∀s',Inv X pins (σ.set i (some v)) H s'->(∃a,Heap.SameBut a s.heap s'.heap/\(a=X.env.locals\/X.env.cells.lookup x=some a))->Q () s') (hf:X.fn x=true\/X.env.scope.names.lookup x=some .local:=by first | exact .inl rfl | exact .inr rfl | assumption):wpAny M A (storeName X.env x u) Q E s:=by
 obtain ⟨m,hn,hl⟩:=id I.loc;have hcls:(X.env.scope.kind == .class || (X.env.scope.kind == .module && X.env.locals != X.env.globals))=false:=by rw[I.ok.kind];rfl
 have hiσ:i < σ.length:=by rw[I.len];exact (aK.mp hi).1
 have cne:=I.cne
 have tracked:∀{a:Addr} {h':Heap},(∃o,s.heap.get? a=some o/\H a=none)->Heap.SameBut a s.heap h'->oH X.prog X.w H h':=λ{a h'} ha hs b ob e=>by
  obtain ⟨_,_,hfree⟩:=ha;refine (I.hok b ob e).stay (λc w' hc q=>(hs.2 c ?_).trans q) (λ_ q=>q) λ_ _ q=>q
  rintro rfl;rcases hc with rfl | hc
  ·rw[hfree] at e;cases e
  ·rw[hfree] at hc;cases hc
 rcases hx with hk | hk
 ·refine wpAny_storeName_local hk hn (λh' hn' hs=>?_) hcls;obtain ⟨oL,_,_,hoL,_⟩:=id hn;refine h _ ⟨I.ok,I.os,I.bare,⟨λb o e n hb hx=>?_,λb o e n hb hx=>?_,I.base.free,λb o e hx=>?_,I.base.tups,I.base.frzs,I.base.tbls⟩,⟨_,hn',λj y v' e1 e2 e3=>?_⟩,λy c e=>?_,I.free,I.freeC,λp hp=>?_,tracked ⟨oL,hoL,I.free⟩ hs,by simpa using I.len⟩ ⟨_,hs,.inl rfl⟩
  ·exact (hs.2 b (bq (av (Heap.lt_size e) I.ok.above))).trans (I.base.keep b o e n hb hx)
  ·obtain ⟨sl,e1⟩:=I.base.slot b o e n hb hx;exact ⟨sl,(hs.2 b (bq (av (Heap.lt_size e) I.ok.above))).trans e1⟩
  ·obtain ⟨o',e1⟩:=I.base.there b o e hx;exact ⟨o',(hs.2 b (bq (av (Heap.lt_size e) I.ok.above))).trans e1⟩
  ·by_cases hj:j=i
   ·subst hj;rw[hi] at e1;cases e1;rw[List.getElem?_set_self hiσ] at e2;cases e2;exact ⟨u,r,.inl ⟨hk,by simp⟩⟩
   ·rw[List.getElem?_set_ne (Ne.symm hj)] at e2;obtain ⟨u',r',q⟩:=hl j y v' e1 e2 e3;refine ⟨u',r',?_⟩;rcases q with ⟨k,e⟩ | ⟨k,c,e,z⟩
    ·refine .inl ⟨k,?_⟩;have:y≠x:=λe=>hj (vG hN e1 (e ▸ hi))
     simp [this,e]
    ·exact .inr ⟨k,c,e,z.sameBut hs (cne y c e)⟩
  ·obtain ⟨w',z⟩:=I.cell y c e;exact ⟨w',z.sameBut hs (cne y c e)⟩
  ·obtain ⟨e,n,ne,nf,d⟩:=I.pin p hp;exact ⟨(hs.2 p.1 ne).trans e,n,ne,nf,d⟩
 ·have hfn:X.fn x=true:=by
   rcases hf with z | z
   ·exact z
   ·rw[z] at hk;cases hk
  obtain ⟨c,hc⟩:=I.ok.has x (.inl hk);obtain ⟨w',z⟩:=I.cell x c hc;refine wpAny_storeName_cell I.ok.kind hk hc z (λh' hc' hs=>?_);obtain ⟨oc,hoc,hocd⟩:=id z;refine h { s with heap:=h' } ⟨I.ok,I.os,I.bare,⟨λb o e n hb hx=>?_,λb o e n hb hx=>?_,I.base.free,λb o e hx=>?_,I.base.tups,I.base.frzs,I.base.tbls⟩,⟨m,hn.sameBut hs (Ne.symm (cne x c hc)),λj y v' e1 e2 e3=>?_⟩,λy c' e=>?_,I.free,I.freeC,λp hp=>?_,tracked ⟨oc,hoc,I.freeC x c hc⟩ hs,by simpa using I.len⟩ ⟨c,hs,.inr hc⟩
  ·exact (hs.2 b (bq (av (Heap.lt_size e) (I.ok.cab x c hfn hc)))).trans (I.base.keep b o e n hb hx)
  ·obtain ⟨sl,e1⟩:=I.base.slot b o e n hb hx;exact ⟨sl,(hs.2 b (bq (av (Heap.lt_size e) (I.ok.cab x c hfn hc)))).trans e1⟩
  ·obtain ⟨o',e1⟩:=I.base.there b o e hx;exact ⟨o',(hs.2 b (bq (av (Heap.lt_size e) (I.ok.cab x c hfn hc)))).trans e1⟩
  ·by_cases hj:j=i
   ·subst hj;rw[hi] at e1;cases e1;rw[List.getElem?_set_self hiσ] at e2;cases e2;exact ⟨u,r,.inr ⟨.inl hk,c,hc,hc'⟩⟩
   ·rw[List.getElem?_set_ne (Ne.symm hj)] at e2;obtain ⟨u',r',q⟩:=hl j y v' e1 e2 e3;refine ⟨u',r',?_⟩;rcases q with q | ⟨k,c',e,z'⟩
    ·exact .inl q
    ·refine .inr ⟨k,c',e,z'.sameBut hs ?_⟩;rintro rfl;exact hj (vG hN e1 (I.ok.inj _ _ _ e hc ▸ hi))
  ·by_cases hcc:c'=c
   ·subst hcc;exact ⟨_,hc'⟩
   ·obtain ⟨w2,z2⟩:=I.cell y c' e;exact ⟨w2,z2.sameBut hs hcc⟩
  ·obtain ⟨e,n,ne,nf,d⟩:=I.pin p hp;refine ⟨(hs.2 p.1 ?_).trans e,n,ne,nf,d⟩;intro q;rw[q,hoc] at e;have q':oc=p.2:=aQ e;exact d w' (by rw[<- q'];exact hocd)
theorem kG {M:Model} {A:Around} {E:Value->Shared->Prop} {i:Nat} {x:Str} {v:V} {u:Value} {Q:Unit->Shared->Prop} (I:Inv X pins σ H s) (hN:X.N.Nodup) (hi:X.N[i]?=some x) (hx:Loc X.env.scope x) (r:RelV v u)
  (h:∀s',Inv X pins (σ.set i (some v)) H s'->Q () s') (hf:X.fn x=true\/X.env.scope.names.lookup x=some .local:=by first | exact .inl rfl | exact .inr rfl | assumption):wpAny M A (storeName X.env x u) Q E s :=
 sW I hN hi hx r (λs' I' _=>h s' I') hf
theorem Inv.call' {s':Shared} {ch:List Addr} (I:Inv X pins σ H s) (ho:s'.os=s.os) (u:Un (jd X.stack) ch H H' s.heap s'.heap) (hok:oH X.prog X.w H' s'.heap) (hg:AllBare s'.gens)
  (hch:∀b∈ch,(b∈X.ex\/X.s₀.heap.objs.size<=b)/\b≠X.env.locals/\(∀x c,X.env.cells.lookup x=some c->c≠b)/\∀p∈X.pn++pins,p.1≠b):Inv X pins σ H' s':=by
 obtain ⟨h',g',d',t',o'⟩:=s';have e:o'=s.os:=ho;subst e;exact I.call (g':=g') (t':=t') (d':=d') u hok hg hch
end
abbrev XK:=Value->Option Addr->Hp->Prop
abbrev St:=List (Option V)
abbrev VK:=V->Hp->Prop
abbrev TE:=St->Hp->VK->Prop
abbrev TT:=St->Hp->(Bool->Hp->Prop)->Prop
abbrev TA:=St->Hp->(List V->Hp->Prop)->Prop
structure Ends where
 nx:St->Hp->Prop
 rt:VK
 bk:St->Hp->Prop:=λ_ _=>False
 ct:St->Hp->Prop:=λ_ _=>False
abbrev TS:=Ends->St->Hp->Prop
def EP (X:Cx) (pins:List (Addr×Obj)) (σ:St) (Q:VK) (u:Value) (s':Shared):Prop:=∃v H',Inv X pins σ H' s'/\RelV v u/\Q v H'
def TP (X:Cx) (pins:List (Addr×Obj)) (σ:St) (Q:Bool->Hp->Prop) (b:Bool) (s':Shared):Prop:=∃H',Inv X pins σ H' s'/\Q b H'
def AP (X:Cx) (pins:List (Addr×Obj)) (σ:St) (Q:List V->Hp->Prop) (us:List Value) (s':Shared):Prop:=∃vs H',Inv X pins σ H' s'/\bO vs us/\Q vs H'
def SP (X:Cx) (pins:List (Addr×Obj)) (D:Ends) (f:Flow) (s':Shared):Prop :=
 match f with
 | .next=>∃σ' H',Inv X pins σ' H' s'/\D.nx σ' H'
 | .brk=>∃σ' H',Inv X pins σ' H' s'/\D.bk σ' H'
 | .cont=>∃σ' H',Inv X pins σ' H' s'/\D.ct σ' H'
 | .ret u=>∃v σ' H',Inv X pins σ' H' s'/\RelV v u/\D.rt v H'
def PE (X:Cx) (e:Expr) (t:TE):Prop :=
 ∀(pins:List (Addr×Obj)) (s:Shared) (σ:St) (H:Hp) (Q:VK),Inv X pins σ H s->t σ H Q->wpAny (model X.prog X.w) X.A (eval e X.env) (EP X pins σ Q) X.xe s
def PT (X:Cx) (e:Expr) (t:TT):Prop :=
 ∀(pins:List (Addr×Obj)) (s:Shared) (σ:St) (H:Hp) (Q:Bool->Hp->Prop),Inv X pins σ H s->t σ H Q->wpAny (model X.prog X.w) X.A (isTrue e X.env (eval e X.env)) (TP X pins σ Q) X.xe s
def PW (X:Cx) (e:Expr) (t:TT):Prop :=
 ∀(whole:Sem Value) (pins:List (Addr×Obj)) (s:Shared) (σ:St) (H:Hp) (Q:Bool->Hp->Prop),Inv X pins σ H s->t σ H Q->wpAny (model X.prog X.w) X.A (isTrue e X.env whole) (TP X pins σ Q) X.xe s
theorem PW.pt {X:Cx} {e:Expr} {t:TT} (h:PW X e t):PT X e t:=h _
def PA (X:Cx) (es:List Expr) (t:TA):Prop :=
 ∀(pos:Pos) (pins:List (Addr×Obj)) (s:Shared) (σ:St) (H:Hp) (Q:List V->Hp->Prop),Inv X pins σ H s->t σ H Q->wpAny (model X.prog X.w) X.A (spliced (backTo pos (starEach es X.env))) (AP X pins σ Q) X.xe s
def PS (X:Cx) (st:Stmt) (t:TS):Prop :=
 ∀(pins:List (Addr×Obj)) (s:Shared) (σ:St) (H:Hp) (D:Ends),Inv X pins σ H s->t D σ H->wpAny (model X.prog X.w) X.A (exec st X.env) (SP X pins D) X.xe s
def uR (X:Cx) (st:List Stmt) (t:TS):Prop :=
 ∀(pins:List (Addr×Obj)) (s:Shared) (σ:St) (H:Hp) (D:Ends),Inv X pins σ H s->t D σ H->wpAny (model X.prog X.w) X.A (execs st X.env) (SP X pins D) X.xe s
theorem dz {α:Type} {t:Sem α} {Q Q':α->Shared->Prop} {M:Model} {A:Around} {E:Value->Shared->Prop} {s:Shared} (h:wpAny M A t Q E s) (hQ:∀a s,Q a s->Q' a s):wpAny M A t Q' E s:=wpAny_mono h hQ λ_ _ x=>x
section
variable {X:Cx}
def C0 (i:Nat):TE:=λσ H Q=>∃v,σ[i]?=some (some v)/\Q v H
def tC (v:V):TE:=λ_ H Q=>Q v H
theorem DK {i:Nat} {x:Str} {pos:Pos} (hN:X.N[i]?=some x) (hv:FP X.env.scope x) (hd:(x == ("__debug__":Str))=false:=by decide) (hcd:(x == ("__classdict__":Str))=false:=by decide):PE X (.Name x pos) (C0 i):=by
 intro pins s σ H Q I h;obtain ⟨v,e,h⟩:=h;obtain ⟨m,hn,hl⟩:=I.loc;obtain ⟨u,r,l⟩:=hl i x v hN e hv;have fin:EP X pins σ Q u s:=⟨v,H,I,r,h⟩;rcases l with ⟨hk,hm⟩ | ⟨hk,c,hc,hcell⟩
 ·exact wpAny_Name (wpAny_loadName_local I.ok.kind hk hn hm fin) hd
 ·rcases hk with hk | hk
  ·exact wpAny_Name (wpAny_loadName_cell I.ok.kind hk hc hcell fin) hd
  ·exact wpAny_Name (wpAny_loadName_free I.ok.kind hk hc hcell fin hcd) hd
theorem af {i j pos}:PE X (.Constant (.int i) j pos) (tC (.int i)):=λ_ _ _ H _ I h=>wpAny_Constant_int ⟨.int i,H,I.tok _,⟨_,rfl⟩,h⟩
theorem fG {b j pos}:PE X (.Constant (.bool b) j pos) (tC (.bl b)):=λ_ _ _ H _ I h=>Constant_bool ⟨.bl b,H,I,rfl,h⟩
theorem gE {j pos}:PE X (.Constant .none j pos) (tC .non):=λ_ _ _ H _ I h=>Constant_none ⟨.non,H,I,rfl,h⟩
theorem bB {x j pos}:PE X (.Constant (.str x) j pos) (tC (.str x)):=λ_ _ _ H _ I h=>Calls.Constant_str ⟨.str x,H,I.tok _,⟨_,rfl⟩,h⟩
def Gl (X:Cx) (x:Str):Prop:=X.env.kindOf x=some .globalImplicit
theorem n6 {E:Value->Shared->Prop} {pins:List (Addr×Obj)} {s:Shared} {σ:St} {H:Hp} {x:Str} {u:Value} {pos:Pos} {Q:Value->Shared->Prop} (I:Inv X pins σ H s) (hg:Gl X x) (hm:X.mg x=some u) (h:Q u s)
  (hd:(x == ("__debug__":Str))=false:=by decide):wpAny (model X.prog X.w) X.A (eval (.Name x pos) X.env) Q E s :=
 Calls.Name_function_global I.ok.kind hg (Calls.loadGlobal_global (by rw[I.ok.glob];exact I.mod.glob.keeps I.bk) hm h) hd
theorem jJ {E:Value->Shared->Prop} {pins:List (Addr×Obj)} {s:Shared} {σ:St} {H:Hp} {x:Str} {u:Value} {pos:Pos} {Q:Value->Shared->Prop} (I:Inv X pins σ H s) (hg:Gl X x) (hm:X.mg x=none) (hv:bootBuiltins x=some u) (h:Q u s)
  (hn:x≠"__name__":=by decide) (hd:(x == ("__debug__":Str))=false:=by decide):wpAny (model X.prog X.w) X.A (eval (.Name x pos) X.env) Q E s:=by
 obtain ⟨mb,h1,h2⟩:=I.mod.blt;exact Calls.Name_function_global I.ok.kind hg (Calls.loadGlobal_builtin (by rw[I.ok.glob];exact I.mod.glob.keeps I.bk) hm (by rw[I.ok.blt];exact h1.keeps I.bk) ((h2 x hn).trans hv) h) hd
theorem bX {x:Str} {v:V} {u:Value} {pos:Pos} (hg:Gl X x) (hm:X.mg x=some u) (r:RelV v u) (hd:(x == ("__debug__":Str))=false:=by decide):PE X (.Name x pos) (tC v) :=
 λ_ _ _ H _ I h=>n6 I hg hm ⟨v,H,I,r,h⟩ hd
theorem uq {x:Str} {v:V} {u:Value} {pos:Pos} (hg:Gl X x) (hm:X.mg x=none) (hv:bootBuiltins x=some u) (r:RelV v u) (hn:x≠"__name__":=by decide) (hd:(x == ("__debug__":Str))=false:=by decide):PE X (.Name x pos) (tC v) :=
 λ_ _ _ H _ I h=>jJ I hg hm hv ⟨v,H,I,r,h⟩ hn hd
variable {a b:Expr} {ta tb:TE} {pos:Pos}
def tB (t:TE):TT:=λσ H Q=>t σ H λx H1=>∃c,x=.bl c/\Q c H1
theorem bS {e:Expr} {t:TE} (h:PE X e t) (he:∀whole,isTrue e X.env whole=(do let v <- whole;standAt e.pos;holding [v] (truthy v)):=by intro _;rfl):PT X e (tB t):=by
 intro pins s σ H Q I hw;refine isTrue_plain (dz (h pins s σ H _ I hw) λv s1 ⟨x,H1,I1,r1,q1⟩=>?_) (he _);obtain ⟨d,rfl,q⟩:=q1;cases r1;exact wpAny_truthy_bool ⟨H1,I1,q⟩
variable {tA tB':TT} {rest:List Expr}
def EC (t u:TT):TT:=λσ H Q=>t σ H λc H1=>if c=true then u σ H1 Q else Q false H1
def tOr (t u:TT):TT:=λσ H Q=>t σ H λc H1=>if c=true then Q true H1 else u σ H1 Q
def Ex (t:TT):TT:=λσ H Q=>t σ H λc H1=>Q (!c) H1
theorem eI (ha:PT X a tA):PW X (.BoolOp .And [a] pos) tA:=by
 intro wh pins s σ H Q I h;refine isTrue_and (dz (ha pins s σ H Q I h) λc s1 e=>?_);cases c with
 | true=>exact isTrue_and_nil e
 | false=>exact e
theorem cT (ha:PT X a tA):PW X (.BoolOp .Or [a] pos) tA:=by
 intro wh pins s σ H Q I h;refine isTrue_or (dz (ha pins s σ H Q I h) λc s1 e=>?_);cases c with
 | false=>exact isTrue_or_nil e
 | true=>exact e
theorem eh (ha:PT X a tA) (hb:PW X (.BoolOp .And (b :: rest) pos) tB'):PW X (.BoolOp .And (a :: b :: rest) pos) (EC tA tB'):=by
 intro wh pins s σ H Q I h;refine isTrue_and (dz (ha pins s σ H _ I h) λc s1 ⟨H1,I1,q1⟩=>?_);cases c with
 | true=>exact hb wh pins s1 σ H1 Q I1 q1
 | false=>exact ⟨H1,I1,q1⟩
theorem df (ha:PT X a tA) (hb:PW X (.BoolOp .Or (b :: rest) pos) tB'):PW X (.BoolOp .Or (a :: b :: rest) pos) (tOr tA tB'):=by
 intro wh pins s σ H Q I h;refine isTrue_or (dz (ha pins s σ H _ I h) λc s1 ⟨H1,I1,q1⟩=>?_);cases c with
 | true=>exact ⟨H1,I1,q1⟩
 | false=>exact hb wh pins s1 σ H1 Q I1 q1
theorem cG (ha:PT X a tA):PT X (.UnaryOp .Not a pos) (Ex tA):=by
 intro pins s σ H Q I h;exact isTrue_not (ha pins s σ H (λc H1=>Q (!c) H1) I h)
def Cm (ta tb:TE):TE:=λσ H Q=>ta σ H λx H1=>∃c,x=.bl c/\if c=true then tb σ H1 Q else Q (.bl false) H1
def Eu (ta tb:TE):TE:=λσ H Q=>ta σ H λx H1=>∃c,x=.bl c/\if c=true then Q (.bl true) H1 else tb σ H1 Q
def Cf (ta:TE):TE:=λσ H Q=>ta σ H λx H1=>∃c,x=.bl c/\Q (.bl (!c)) H1
theorem rd {op} {t:TE} (h:PE X a t):PE X (.BoolOp op [a] pos) t:=λpins s σ H Q I hw=>BoolOp_one (h pins s σ H Q I hw)
theorem ur (ha:PE X a ta) (hb:PE X (.BoolOp .And (b :: rest) pos) tb):PE X (.BoolOp .And (a :: b :: rest) pos) (Cm ta tb):=by
 intro pins s σ H Q I h;refine BoolOp_and (dz (ha pins s σ H _ I h) λv s1 ⟨x,H1,I1,r1,q1⟩=>?_);obtain ⟨c,rfl,q1⟩:=q1;cases r1;refine wpAny_truthy_bool ?_;cases c with
 | true=>exact hb pins s1 σ H1 Q I1 q1
 | false=>exact ⟨.bl false,H1,I1,rfl,q1⟩
theorem E1 (ha:PE X a ta) (hb:PE X (.BoolOp .Or (b :: rest) pos) tb):PE X (.BoolOp .Or (a :: b :: rest) pos) (Eu ta tb):=by
 intro pins s σ H Q I h;refine BoolOp_or (dz (ha pins s σ H _ I h) λv s1 ⟨x,H1,I1,r1,q1⟩=>?_);obtain ⟨c,rfl,q1⟩:=q1;cases r1;refine wpAny_truthy_bool ?_;cases c with
 | false=>exact hb pins s1 σ H1 Q I1 q1
 | true=>exact ⟨.bl true,H1,I1,rfl,q1⟩
theorem zY (ha:PE X a ta):PE X (.UnaryOp .Not a pos) (Cf ta):=by
 intro pins s σ H Q I h;refine UnaryOp_ (dz (ha pins s σ H _ I h) λv s1 ⟨x,H1,I1,r1,q1⟩=>?_);obtain ⟨c,rfl,q1⟩:=q1;cases r1;exact not_of (wpAny_truthy_bool ⟨.bl (!c),H1,I1,rfl,q1⟩)
end
def bD (K:FG9) (H:Hp) (a:Addr) (xs:List V):Prop :=
 Rd H a (.lst xs) \/
  ∃(o:Obj) (its:Array Value) (n:Nat),K.lookup a=some o/\o.cls=.type "list"/\o.dict=none/\o.data=.seq its n/\its.size<=sizeLine/\bO xs its.toList
def i8 (K:FG9) (H:Hp) (a:Addr) (xs:List V):Prop :=
 Rd H a (.tup xs) \/
  ∃(o:Obj) (its:Array Value) (n:Nat),K.lookup a=some o/\o.cls=.type "tuple"/\o.data=.seq its n/\its.size<=sizeLine/\bO xs its.toList
def FO:Value->Option V
 | .none=>some .non
 | .bool b=>some (.bl b)
 | .int i _=>some (.int i)
 | .str x _=>some (.str x)
 | .bytes b _=>some (.byt b)
 | .float b _=>some (.flt b)
 | .ref a=>some (.ref a)
 | .type n=>some (.ty n)
 | _=>none
theorem RelV.abs {x:V} {u:Value} (r:RelV x u):FO u=some x:=by
 cases x with
 | non=>cases r;rfl
 | bl _=>cases r;rfl
 | int _=>obtain ⟨t,rfl⟩:=r;rfl
 | str _=>obtain ⟨t,rfl⟩:=r;rfl
 | byt _=>obtain ⟨t,rfl⟩:=r;rfl
 | flt _=>obtain ⟨t,rfl⟩:=r;rfl
 | ref _=>cases r;rfl
 | ty _=>cases r;rfl
theorem RelV.inj {x y:V} {u:Value} (r:RelV x u) (q:RelV y u):x=y:=aQ (r.abs.symm.trans q.abs)
theorem bO.inj:∀{xs ys:List V} {us:List Value},bO xs us->bO ys us->xs=ys
 | _,_,_,.nil,.nil=>rfl
 | _,_,_,.cons r t,.cons r' t'=>by rw[r.inj r',bO.inj t t']
section
variable {X:Cx} {pins:List (Addr×Obj)} {σ:St} {H:Hp} {s:Shared} {a:Addr} {xs ys:List V}
theorem bD.of {K:FG9} (h:H a=some (.lst xs)):bD K H a xs:=.inl (.inl h)
theorem i8.of {K:FG9} (h:H a=some (.tup xs)):i8 K H a xs:=.inl (.inl h)
theorem Inv.list (I:Inv X pins σ H s) (h:bD X.K H a xs):∃its:List Value,bO xs its/\PlainL s.heap a its.toArray/\xs.length<=sizeLine:=by
 rcases h with h | ⟨o,its,n,hk,hc,hd,hs,hz,r⟩
 ·obtain ⟨z,its,n,r,e⟩:=h.ok I.hok;exact ⟨its,r,⟨_,n,e,rfl,rfl,rfl⟩,z⟩
 ·refine ⟨its.toList,r,⟨o,n,I.kIn a o hk,hc,hd,by simpa using hs⟩,?_⟩;have e:=r.length;simp only[Array.length_toList] at e
  lia
theorem Inv.tuple (I:Inv X pins σ H s) (h:i8 X.K H a xs):∃its:List Value,bO xs its/\IsTup s.heap a its.toArray/\xs.length<=sizeLine:=by
 rcases h with h | ⟨o,its,n,hk,hc,hs,hz,r⟩
 ·obtain ⟨z,its,r,p⟩:=h.ok I.hok;exact ⟨its,r,p,z⟩
 ·refine ⟨its.toList,r,⟨o,I.kIn a o hk,hc,n,by simpa using hs⟩,?_⟩;have e:=r.length;simp only[Array.length_toList] at e
  lia
theorem Inv.list_inj (I:Inv X pins σ H s) (h:bD X.K H a xs) (h':bD X.K H a ys):xs=ys:=by
 obtain ⟨its,r,⟨o,n,e,_,_,d⟩,_⟩:=I.list h;obtain ⟨its',r',⟨o',n',e',_,_,d'⟩,_⟩:=I.list h';rw[e] at e';cases e';rw[d] at d';injection d' with d1 _
 have:its=its':=by simpa using congrArg Array.toList d1
 subst this;exact r.inj r'
theorem Inv.tuple_inj (I:Inv X pins σ H s) (h:i8 X.K H a xs) (h':i8 X.K H a ys):xs=ys:=by
 obtain ⟨its,r,⟨o,e,_,n,d⟩,_⟩:=I.tuple h;obtain ⟨its',r',⟨o',e',_,n',d'⟩,_⟩:=I.tuple h';rw[e] at e';cases e';rw[d] at d';injection d' with d1 _
 have:its=its':=by simpa using congrArg Array.toList d1
 subst this;exact r.inj r'
end
abbrev Cx.wish (X:Cx) (E:Value->Shared->Prop):Cx:={ X with xe:=E }
abbrev Cx.nox (X:Cx):Cx:=X.wish λ_ _=>False
theorem Cx.Ok.wish {X:Cx} (ok:X.Ok) (E:Value->Shared->Prop):(X.wish E).Ok :=
 ⟨ok.mod,ok.kind,ok.glob,ok.blt,ok.above,ok.inj,ok.has,ok.cab,ok.hd,ok.frames,ok.stk,ok.exf,ok.bs,ok.bsz,ok.noex,ok.exfs,ok.funs,ok.frf⟩
theorem Cx.Ok.unwish {X:Cx} {E:Value->Shared->Prop} (ok:(X.wish E).Ok):X.Ok :=
 ⟨ok.mod,ok.kind,ok.glob,ok.blt,ok.above,ok.inj,ok.has,ok.cab,ok.hd,ok.frames,ok.stk,ok.exf,ok.bs,ok.bsz,ok.noex,ok.exfs,ok.funs,ok.frf⟩
section
variable {X:Cx} {pins:List (Addr×Obj)} {σ:St} {H:Hp} {s:Shared} {E:Value->Shared->Prop}
theorem Inv.wish (I:Inv X pins σ H s) (E:Value->Shared->Prop):Inv (X.wish E) pins σ H s:=⟨I.ok.wish E,I.os,I.bare,I.base,I.loc,I.cell,I.free,I.freeC,I.pin,I.hok,I.len⟩
theorem Inv.unwish (I:Inv (X.wish E) pins σ H s):Inv X pins σ H s:=⟨I.ok.unwish,I.os,I.bare,I.base,I.loc,I.cell,I.free,I.freeC,I.pin,I.hok,I.len⟩
theorem SP.unwish {D:Ends} {f:Flow} {s':Shared} (h:SP (X.wish E) pins D f s'):SP X pins D f s':=by
 cases f with
 | next=>obtain ⟨σ',H',I,q⟩:=h;exact ⟨σ',H',I.unwish,q⟩
 | brk=>obtain ⟨σ',H',I,q⟩:=h;exact ⟨σ',H',I.unwish,q⟩
 | cont=>obtain ⟨σ',H',I,q⟩:=h;exact ⟨σ',H',I.unwish,q⟩
 | ret u=>obtain ⟨v,σ',H',I,r,q⟩:=h;exact ⟨v,σ',H',I.unwish,r,q⟩
theorem uR.nox {st:List Stmt} {t:TS} (h:uR X.nox st t):uR X st t:=λpins s σ H D I hw =>
 wpAny_mono (h pins s σ H D (I.wish _) hw) (λ_ _ q=>q.unwish) λ_ _ z=>False.elim z
end
section
variable {X:Cx} {st:Stmt} {rest:List Stmt} {t u:TS} {e:Expr} {te:TE} {pos:Pos}
def Cg:TS:=λD σ H=>D.nx σ H
def Er (t u:TS):TS:=λD σ H=>t { D with nx:=u D } σ H
theorem aN:uR X [] Cg:=λ_ _ σ H _ I h=>wpAny_execs_nil ⟨σ,H,I,h⟩
theorem ag (h1:PS X st t) (h2:uR X rest u):uR X (st :: rest) (Er t u):=by
 intro pins s σ H D I h;refine wpAny_execs_cons (dz (h1 pins s σ H { D with nx:=u D } I h) λf s1 q=>?_);cases f with
 | next =>
  obtain ⟨σ',H',I',q⟩:=q;exact h2 pins s1 σ' H' D I' q
 | ret v=>exact q
 | brk=>exact q
 | cont=>exact q
theorem ak (h1:PS X st t):uR X [st] t:=by
 intro pins s σ H D I h;refine wpAny_execs_cons (dz (h1 pins s σ H D I h) λf s1 q=>?_);cases f with
 | next=>exact wpAny_execs_nil q
 | ret v=>exact q
 | brk=>exact q
 | cont=>exact q
theorem Inv.quiet {pins:List (Addr×Obj)} {σ:St} {H:Hp} {s:Shared} (I:Inv X pins σ H s):interactive X.env=false:=by simp [interactive,I.ok.kind]
def Cj (te:TE):TS:=λD σ H=>te σ H λ_ H1=>D.nx σ H1
theorem jh (he:PE X e te) (hs:swapsWith e none pos.line X.env=pure false:=by rfl):PS X (.Expr e pos) (Cj te):=by
 intro pins s σ H D I h;exact wpAny_Expr_any (dz (he pins s σ H _ I h) λv s1 ⟨x,H1,I1,r1,q1⟩=>⟨σ,H1,I1,q1⟩) I.quiet hs
def Es (te:TE):TS:=λD σ H=>te σ H D.rt
theorem aL (he:PE X e te):PS X (.Return (some e) pos) (Es te):=by
 intro pins s σ H D I h;exact wpAny_Return_some (dz (he pins s σ H _ I h) λv s1 ⟨x,H1,I1,r1,q1⟩=>⟨x,σ,H1,I1,r1,q1⟩)
def Ez (c:TT) (t u:TS):TS:=λD σ H=>c σ H λb H1=>if b=true then t D σ H1 else u D σ H1
theorem bh {c:Expr} {a b:List Stmt} {tc:TT} (hc:PT X c tc) (ha:uR X a t) (hb:uR X b u):PS X (.If c a b pos) (Ez tc t u):=by
 intro pins s σ H D I h;refine wpAny_If (dz (hc pins s σ H _ I h) λd s1 ⟨H1,I1,q1⟩=>?_);cases d with
 | true=>exact ha pins s1 σ H1 D I1 q1
 | false=>exact hb pins s1 σ H1 D I1 q1
end
abbrev TG:=V->St->Hp->(St->Hp->Prop)->Prop
abbrev BX:=List V->St->Hp->(St->Hp->Prop)->Prop
def PG (X:Cx) (target:Expr) (t:TG):Prop :=
 ∀(pins:List (Addr×Obj)) (s:Shared) (σ:St) (H:Hp) (v:V) (u:Value) (Q:St->Hp->Prop),Inv X pins σ H s->RelV v u->t v σ H Q →
  wpAny (model X.prog X.w) X.A (assign target X.env u) (λ_ s'=>∃σ' H',Inv X pins σ' H' s'/\Q σ' H') X.xe s
def Fy (X:Cx) (ts:List Expr) (t:BX):Prop :=
 ∀(pins:List (Addr×Obj)) (s:Shared) (σ:St) (H:Hp) (vs:List V) (us:List Value) (Q:St->Hp->Prop),Inv X pins σ H s->bO vs us->t vs σ H Q →
  wpAny (model X.prog X.w) X.A (assignInOrder ((assignEach ts X.env).map (·.2)) us) (λ_ s'=>∃σ' H',Inv X pins σ' H' s'/\Q σ' H') X.xe s
abbrev wZ:=V->V->V->Hp->(Hp->Prop)->Prop
def D6 (X:Cx) (t:wZ):Prop :=
 ∀(pins:List (Addr×Obj)) (s:Shared) (σ:St) (H:Hp) (o i v:V) (ov iv u:Value) (Q:Hp->Prop),Inv X pins σ H s->RelV o ov->RelV i iv->RelV v u->t o i v H Q →
  wpAny (model X.prog X.w) X.A (setItem ov iv u) (λ_ s'=>∃H',Inv X pins σ H' s'/\Q H') X.xe s
abbrev Fl:=V->V->Hp->VK->Prop
def PIp (X:Cx) (op:Operator) (t:Fl):Prop :=
 ∀(pins:List (Addr×Obj)) (s:Shared) (σ:St) (H:Hp) (x y:V) (v u:Value) (Q:VK),Inv X pins σ H s->RelV x v->RelV y u->t x y H Q →
  wpAny (model X.prog X.w) X.A (inplaceOp op v u) (EP X pins σ Q) X.xe s
section
variable {X:Cx} {pos:Pos}
def xM (i:Nat):TG:=λv σ H Q=>Q (σ.set i (some v)) H
theorem a6 {i:Nat} {x:Str} (hN:X.N.Nodup) (hi:X.N[i]?=some x:=by exact rfl) (hx:Loc X.env.scope x:=by exact Or.inl rfl) (hf:X.fn x=true\/X.env.scope.names.lookup x=some .local:=by first | exact .inl rfl | exact .inr rfl | assumption):PG X (.Name x pos) (xM i):=by
 intro pins s σ H v u Q I r h;exact wpAny_assign_Name (kG I hN hi hx r (λs' I'=>⟨_,H,I',h⟩) hf)
def Fh:BX:=λvs σ H Q=>vs=[]/\Q σ H
def CC (t:TG) (u:BX):BX:=λvs σ H Q=>∃v r,vs=v :: r/\t v σ H λσ' H'=>u r σ' H' Q
theorem lT:Fy X [] Fh:=by
 intro pins s σ H vs us Q I r h;obtain ⟨e,h⟩:=h;subst e;cases r;exact assignInOrder_nil ⟨σ,H,I,h⟩
theorem dh {e:Expr} {es:List Expr} {t:TG} {u:BX} (h1:PG X e t) (h2:Fy X es u)
  (hs:(assignEach (e :: es) X.env).map (·.2)=assign e X.env :: (assignEach es X.env).map (·.2):=by rfl):Fy X (e :: es) (CC t u):=by
 intro pins s σ H vs us Q I r h;obtain ⟨v,vr,e1,h⟩:=h;subst e1;cases r with
 | cons r rr =>
  rw[hs];refine assignInOrder_cons (dz (h1 pins s σ H _ _ _ I r h) λ_ s1 ⟨σ1,H1,I1,q1⟩=>?_);exact h2 pins s1 σ1 H1 _ _ Q I1 rr q1
def Ff (K:FG9) (n:Nat) (t:BX):TG:=λv σ H Q=>∃a xs,v=.ref a/\i8 K H a xs/\xs.length=n/\t xs σ H Q
theorem oY {es:List Expr} {k:Nat} {t:BX} {n:Nat} (hc:X.calm=true) (h:Fy X es t)
  (hn:(assignEach es X.env).length=n:=by rfl) (hst:(assignEach es X.env).findIdx? (·.1)=none:=by rfl):PG X (.Tuple es k pos) (Ff X.K n t):=by
 intro pins s σ H v u Q I r hw;obtain ⟨a,xs,e1,hq,hl,hw⟩:=hw;subst e1;cases r;obtain ⟨its,rv,ht,hz⟩:=I.tuple hq;refine assign_Tuple_tuple (I.ok.hd hc) ht (by simp [hn,<- hl,rv.length]) hst λh' hx=>?_
 have I1:Inv X pins σ H { s with heap:=h' }:=I.kept (t':=s.toks) λb o e=>hx b o (bq (Heap.lt_size e)) e
 exact h pins _ σ H xs _ Q I1 (by simpa using rv) hw
def Fg (to ti:TE) (t:wZ):TG:=λv σ H Q=>to σ H λo H1=>ti σ H1 λi H2=>t o i v H2 λH3=>Q σ H3
theorem ip {o i : Expr} {to ti : TE} {t : wZ} (ho : PE X o to) (hi : PE X i ti) (hs : D6 X t)
    (ha : ∀ v, assign (.Subscript o i pos) X.env v = (do
      let ov <- holding [v] (eval o X.env)
      let iv <- holding [v, ov] (eval i X.env)
      standAt pos
      holding [v, ov, iv] (setItem ov iv v)
      release [v, ov, iv] []) := by intro _; rfl) : PG X (.Subscript o i pos) (Fg to ti t) := by
  intro pins s σ H v u Q I r h;rw [ha];refine wpAny_bind (wpAny_holding (dz (ho pins s σ H _ I h) λov s1 ⟨x, H1, I1, r1, q1⟩ => ?_));refine wpAny_bind (wpAny_holding (dz (hi pins s1 σ H1 _ I1 q1) λiv s2 ⟨y, H2, I2, r2, q2⟩ => ?_));refine wpAny_bind (wpAny_standAt (wpAny_bind (wpAny_holding (dz (hs pins s2 σ H2 x y v ov iv u _ I2 r1 r2 r q2) λ_ s3 ⟨H3, I3, q3⟩ => ?_))));exact wpAny_release ⟨σ, H3, I3, q3⟩
def AQ (te:TE) (g:TG):TS:=λD σ H=>te σ H λx H1=>g x σ H1 D.nx
theorem fm {tg e:Expr} {te:TE} {g:TG} (he:PE X e te) (hg:PG X tg g) (hs:swapsWithSole [tg] e pos.line X.env=pure false:=by rfl) (hw:swappedStores [tg] e X.env=pure none:=by rfl)
  (h1:(assignEach [tg] X.env).map (·.2)=[assign tg X.env]:=by rfl):PS X (.Assign [tg] e pos) (AQ te g):=by
 intro pins s σ H D I h;refine wpAny_Assign_stores (dz (he pins s σ H _ I h) λv s1 ⟨x,H1,I1,r1,q1⟩=>?_) hs hw;rw[h1];exact dz (hg pins s1 σ H1 x v _ I1 r1 q1) λ_ s2 q=>q
theorem aY {i:Nat} {x:Str} {e:Expr} {te:TE} {pos':Pos} (hN:X.N.Nodup) (hi:X.N[i]?=some x) (hx:Loc X.env.scope x) (he:PE X e te) (hs:swapsWith e (some (.Name x pos')) pos.line X.env=pure false:=by rfl) (hf:X.fn x=true\/X.env.scope.names.lookup x=some .local:=by first | exact .inl rfl | exact .inr rfl | assumption) :
  PS X (.Assign [.Name x pos'] e pos) (AQ te (xM i)):=by
 intro pins s σ H D I h;refine wpAny_Assign_Name (dz (he pins s σ H _ I h) λv s1 ⟨y,H1,I1,r1,q1⟩=>?_) hs;exact kG I1 hN hi hx r1 (λs2 I2=>⟨_,H1,I2,q1⟩) hf
def Et (i j:Nat) (ta:TA):TS:=λD σ H=>ta σ H λvs H1=>∃v w,vs=[v,w]/\D.nx ((σ.set i (some v)).set j (some w)) H1
theorem DH {i j:Nat} {x y:Str} {a b:Expr} {ta:TA} {px py pt:Pos} {kt k2 pt2} (hc:X.calm=true) (hN:X.N.Nodup) (hi:X.N[i]?=some x) (hj:X.N[j]?=some y) (hij:i≠j)
  (hx:X.env.scope.names.lookup x=some .local) (hy:X.env.scope.names.lookup y=some .local) (ha:PA X [a,b] ta)
  (hw:swappedStores [.Tuple [.Name x px,.Name y py] kt pt] (.Tuple [a,b] k2 pt2) X.env=pure (some [x,y]))
  (hs:swapsWithSole [.Tuple [.Name x px,.Name y py] kt pt] (.Tuple [a,b] k2 pt2) pos.line X.env=pure false:=by rfl) :
  PS X (.Assign [.Tuple [.Name x px,.Name y py] kt pt] (.Tuple [a,b] k2 pt2) pos) (Et i j ta):=by
 intro pins s σ H D I h;rw[exec_Assign_arm];refine wpAny_bind (wpAny_standAt ?_);rw[hs];refine wpAny_bind (wpAny_pure ?_);rw[if_neg (by decide)];refine wpAny_bind (Tuple_ (dz (ha _ pins s σ H _ I h) λus s1 ⟨vs,H1,I1,r1,q1⟩=>?_));obtain ⟨v,w,e1,q1⟩:=q1;subst e1
 obtain ⟨u1,u2,rfl,rv,rw'⟩:∃u1 u2,us=[u1,u2]/\RelV v u1/\RelV w u2:=by
  cases r1 with
  | cons p q =>
   cases q with
   | cons p' q' =>
    cases q';exact ⟨_,_,rfl,p,p'⟩
 refine wpAny_newObj_type ?_ (by show 2<=sizeLine;decide);have I2:Inv X pins σ H1 { s1 with heap:=s1.heap.push { cls:=.type "tuple",data:=.seq [u1,u2].toArray } }:=I1.kept (t':=s1.toks) λb o e=>Heap.get?_push_of_some _ e
 rw[hw];refine wpAny_bind (wpAny_pure ?_);show wpAny (model X.prog X.w) X.A (do rule "assign.swapped-stores";let items <- unpackItems (.ref s1.heap.objs.size) 2 none;assignInOrder [λv=>bindName X.env y v,λv=>bindName X.env x v] items.reverse;pure Flow.next) _ _ _
 refine wpAny_bind (wpAny_rule (wpAny_bind (unpackItems_tuple (items:=#[u1,u2]) (I.ok.hd hc) (IsTup.new s1.heap _) λh' hx'=>?_)));have I3:=I2.kept (h':=h') (t':=s1.toks) λb o e=>hx' b o (bq (Heap.lt_size e)) e
 show wpAny _ _ (assignInOrder [λv=>bindName X.env y v,λv=>bindName X.env x v] [u2,u1] >>= λ_=>pure Flow.next) _ _ _
 refine wpAny_bind (assignInOrder_cons (wpAny_bindName (kG I3 hN hj (.inl hy) rw' (λs2 I4=>?_) (.inr hy))));refine assignInOrder_cons (wpAny_bindName (kG I4 hN hi (.inl hx) rv (λs3 I5=>assignInOrder_nil (wpAny_pure ?_)) (.inr hx)));rw[List.set_comm _ _ (Ne.symm hij)] at I5;exact ⟨_,H1,I5,q1⟩
def Ck (to ti te:TE) (tget:V->V->Hp->VK->Prop) (tip:Fl) (tset:wZ):TS:=λD σ H=>to σ H λo H1=>ti σ H1 λi H2=>tget o i H2 λx H3=>te σ H3 λy H4=>tip x y H4 λz H5=>tset o i z H5 λH6=>D.nx σ H6
def Fm (X:Cx) (t:V->V->Hp->VK->Prop):Prop :=
 ∀(pins:List (Addr×Obj)) (s:Shared) (σ:St) (H:Hp) (o i:V) (ov iv:Value) (Q:VK),Inv X pins σ H s->RelV o ov->RelV i iv->t o i H Q →
  wpAny (model X.prog X.w) X.A (getItem ov iv) (EP X pins σ Q) X.xe s
theorem Br {o i e:Expr} {to ti te:TE} {tget:V->V->Hp->VK->Prop} {tip:Fl} {tset:wZ} {op:Operator} {tpos:Pos} (ho:PE X o to) (hi:PE X i ti) (hg:Fm X tget) (he:PE X e te) (hp:PIp X op tip) (hs:D6 X tset)
  (ha:∀ov iv new,augStore i ov iv new=(do holding [new,ov,iv] (setItem ov iv new);release [new,ov,iv] [];pure .next):=by intros;rfl):PS X (.AugAssign (.Subscript o i tpos) op e pos) (Ck to ti te tget tip tset):=by
 intro pins s σ H D I h;refine wpAny_AugAssign_SubscriptAny (dz (ho pins s σ H _ I h) λov s1 ⟨x1,H1,I1,r1,q1⟩=>?_) ha;refine dz (hi pins s1 σ H1 _ I1 q1) λiv s2 ⟨x2,H2,I2,r2,q2⟩=>?_
 refine dz (hg pins s2 σ H2 x1 x2 ov iv _ I2 r1 r2 q2) λold s3 ⟨x3,H3,I3,r3,q3⟩=>?_
 refine dz (he pins s3 σ H3 _ I3 q3) λv s4 ⟨x4,H4,I4,r4,q4⟩=>?_
 refine dz (hp pins s4 σ H4 x3 x4 old v _ I4 r3 r4 q4) λnew s5 ⟨x5,H5,I5,r5,q5⟩=>?_
 exact dz (hs pins s5 σ H5 x1 x2 x5 ov iv new _ I5 r1 r2 r5 q5) λ_ s6 ⟨H6,I6,q6⟩=>⟨σ,H6,I6,q6⟩
def ipI (f:Int->Int->Int):Fl:=λx y H Q=>∃i j,x=.int i/\y=.int j/\Q (.int (f i j)) H
theorem DZ:PIp X .Add (ipI λi j=>i+j):=by
 intro pins s σ H x y v u Q I r1 r2 h;obtain ⟨i,j,e1,e2,q⟩:=h;subst e1;subst e2;obtain ⟨t,rfl⟩:=r1;obtain ⟨t',rfl⟩:=r2;exact iadd_int ⟨.int _,H,I.tok _,⟨_,rfl⟩,q⟩
end
section
variable {X:Cx} {pos:Pos}
def y8 (c:TT) (tb:TS):TS:=λD σ H=>∃W:Nat->St->Hp->Prop,(∃m,W m σ H)/\∀m σ H,W m σ H →
 c σ H λb H1=>if b=true then ∃N:St->Hp->Prop,(∀σ' H',N σ' H'->∃m',m' < m/\W m' σ' H')/\tb { D with nx:=N,ct:=N,bk:=D.nx } σ H1 else D.nx σ H1
theorem vq {c:Expr} {body:List Stmt} {tc:TT} {tb:TS} (hp:PassesOwn (model X.prog X.w) X.A X.env X.xe) (hc:PT X c tc) (hb:uR X body tb):PS X (.While c body [] pos) (y8 tc tb):=by
 intro pins s σ H D I h;obtain ⟨W,⟨m0,w0⟩,turn⟩:=h;refine wpAny_While (codeAny_whileLoop (λn s'=>∃σ' H',Inv X pins σ' H' s'/\W n σ' H') ?_ m0 ⟨σ,H,I,w0⟩);rintro n s1 ⟨σ1,H1,I1,w1⟩;refine wpAny_passesOwn hp (dz (hc pins s1 σ1 H1 _ I1 (turn n σ1 H1 w1)) λb s2 ⟨H2,I2,q2⟩=>?_);cases b with
 | true =>
  obtain ⟨N,hN,q2⟩:=q2;rw[if_pos rfl];refine wpAny_passesOwn hp (dz (hb pins s2 σ1 H2 _ I2 q2) λf s3 q3=>?_);cases f with
  | next =>
   obtain ⟨σ3,H3,I3,n3⟩:=q3;obtain ⟨m',hm,w3⟩:=hN σ3 H3 n3;exact ⟨m',hm,σ3,H3,I3,w3⟩
  | cont =>
   obtain ⟨σ3,H3,I3,n3⟩:=q3;obtain ⟨m',hm,w3⟩:=hN σ3 H3 n3;exact ⟨m',hm,σ3,H3,I3,w3⟩
  | brk=>exact q3
  | ret v=>exact q3
 | false =>
  rw[if_neg aP];exact wpAny_execs_nil ⟨σ1,H2,I2,q2⟩
end
structure It where
 go:Nat->Hp->Prop
 yld:Nat->Hp->V->Hp->Prop
 stop:Nat->Hp->Prop
def jN (X:Cx) (pins:List (Addr×Obj)) (H:Hp) (b:Addr):Prop :=
 H b=none/\b≠X.env.locals/\b∉X.fs/\(b∈X.ex\/X.s₀.heap.objs.size<=b)/\(∀x c,X.env.cells.lookup x=some c->c≠b)/\∀p∈X.pn++pins,p.1≠b
theorem Inv.fpOk {X:Cx} {pins:List (Addr×Obj)} {σ:St} {H H':Hp} {s:Shared} {b:Addr} (I:Inv X pins σ H s) (hb:s.heap.objs.size<=b) (hn:H' b=none):jN X pins H' b:=by
 refine ⟨hn,yd (av I.lt hb),I.nofs hb,.inr (ar I.sz hb),λx c e z=>?_,λp hp z=>?_⟩
 ·obtain ⟨v,q⟩:=I.cell x c e;exact absurd (av q.lt (by rw[z];exact hb)) (bA _)
 ·exact absurd (av (Heap.lt_size (I.pin p hp).1) (by rw[z];exact hb)) (bA _)
structure Turn (P:Program) (w:World) (K:FG9) (tg:Expr) (J:It) (fp:List Addr) (it:Addr) (tn:Nat->Heap->Prop):Prop where
 mem:it∈fp
 obj:∀i h,tn i h->∀b∈fp,∃o,h.get? b=some o/\∀v,o.data≠.cell v
 keep:∀i h h',tn i h->(∀b∈fp,∀o,h.get? b=some o->h'.get? b=some o)->tn i h'
 item:∀(X:Cx),X.prog=P->X.w=w->X.K=K->X.calm=true->∀(i:Nat) (pins:List (Addr×Obj)) (s:Shared) (σ:St) (H:Hp) (E:Value->Shared->Prop),Inv X pins σ H s->(∀b∈fp,jN X pins H b)->tn i s.heap->J.go i H →
  wpAny (model P w) X.A (pyNext (.ref it)) (λr s1=>∃u,r=some u /\
   wpAny (model P w) X.A (letOwnedTupleGo tg (.ref it) u) (λ_ s2=>∃x H',Inv X pins σ H' s2/\RelV x u/\J.yld i H x H'/\tn (i+1) s2.heap/\∀b∈fp,H' b=none) E s1) E s
 done:∀(X:Cx),X.prog=P->X.w=w->X.K=K->X.calm=true->∀(i:Nat) (pins:List (Addr×Obj)) (s:Shared) (σ:St) (H:Hp) (E:Value->Shared->Prop),Inv X pins σ H s->(∀b∈fp,jN X pins H b)->tn i s.heap->J.stop i H →
  wpAny (model P w) X.A (pyNext (.ref it)) (λr s1=>r=none/\Inv X pins σ H s1) E s
 self:∀(A:Around) (i:Nat) (s:Shared) (Q:Value->Shared->Prop) (E:Value->Shared->Prop),tn i s.heap->Q (.ref it) s->wpAny (model P w) A (pyIter (.ref it)) Q E s
abbrev TI:=St->Hp->(It->Hp->Prop)->Prop
def PIE (X:Cx) (pins:List (Addr×Obj)) (σ:St) (tg:Expr) (R:It->Hp->Prop) (itv:Value) (s2:Shared):Prop :=
 ∃(it:Addr) (fp:List Addr) (tn:Nat->Heap->Prop) (J:It) (H':Hp),itv=.ref it/\Inv X pins σ H' s2/\Turn X.prog X.w X.K tg J fp it tn/\tn 0 s2.heap/\(∀b∈fp,jN X pins H' b)/\R J H'
def PI (X:Cx) (tg iter:Expr) (wi:TI):Prop :=
 ∀(pins:List (Addr×Obj)) (s:Shared) (σ:St) (H:Hp) (R:It->Hp->Prop),Inv X pins σ H s->wi σ H R →
  wpAny (model X.prog X.w) X.A (eval iter X.env) (λv s1=>wpAny (model X.prog X.w) X.A (pyIter v) (PIE X pins σ tg R) X.xe s1) X.xe s
theorem xJ {M:Model} {A:Around} {E:Value->Shared->Prop} {s:Shared} {tg:Expr} {it:Addr} {u:Value} {o:Obj} {n:String} {vs:Array Value} {Q:Unit->Shared->Prop} (ho:s.heap.get? it=some o) (hc:o.cls=.type n) (hd:o.data=.fields vs)
  (hn:["enumerate","zip","dict_itemiterator","dict_reverseitemiterator","odict_iterator","itertools.zip_longest","itertools.pairwise"].contains n=false) (hQ:Q () s):wpAny M A (letOwnedTupleGo tg (.ref it) u) Q E s:=by
 unfold letOwnedTupleGo
 cases tg <;> first
  | exact wpAny_pure hQ
  | (cases u <;> first | exact wpAny_pure hQ | (refine wpAny_bind (wpAny_load ho ?_);rw[hc,hd];show wpAny M A (if (["enumerate","zip","dict_itemiterator","dict_reverseitemiterator","odict_iterator","itertools.zip_longest","itertools.pairwise"].contains n && vs[0]? == some (rawInt _))=true then _ else _) Q E s;rw[if_neg (by intro h;rw[hn,Bool.false_and] at h;cases h)];exact wpAny_pure hQ))
def CM (K:FG9) (a:Addr):It :=
 ⟨λi H=>∃xs x,bD K H a xs/\xs[i]?=some x,λi H x H'=>H'=H/\∀xs,bD K H a xs->xs[i]?=some x,λi H=>∃xs,bD K H a xs/\xs.length<=i⟩
def Ed (K:FG9) (a:Addr):It :=
 ⟨λi H=>∃xs x,i8 K H a xs/\xs[i]?=some x,λi H x H'=>H'=H/\∀xs,i8 K H a xs->xs[i]?=some x,λi H=>∃xs,i8 K H a xs/\xs.length<=i⟩
def yb (lo:Int) (n:Nat):It:=⟨λi _=>i < n,λi H x H'=>H'=H/\x=.int (lo+i),λi _=>n<=i⟩
theorem yi {P:Program} {w:World} {K:FG9} {tg:Expr} (a it:Addr):Turn P w K tg (CM K a) [it] it (λi h=>h.IsListIter it a i) where
 mem:=by simp
 obj:=λi h st b hb=>by
  have e:b=it:=by simpa using hb
  subst e;obtain ⟨o,e,c,d⟩:=st;exact ⟨o,e,λv z=>by rw[d] at z;cases z⟩
 keep:=λi h h' st k=>st.at λo e=>k it (by simp) o e
 item:=by
  intro X hP hw hK hc i pins s σ H E I hf st hg;subst hP hw hK;obtain ⟨xs,x,hq,hx⟩:=hg;obtain ⟨its,rv,p,hz⟩:=I.list hq;obtain ⟨u,hu,ru⟩:=rv.get hx;obtain ⟨f0,f1,f2,f3,f4,f5⟩:=hf it (by simp);refine wpAny_pyNext_list_item st p.isList (x:=u) (by simpa using hu) λh' st' sb=>?_
  have I1:Inv X pins σ H { s with heap:=h' }:=I.turned (t':=s.toks) (λb o hb e=>(sb.2 b hb).trans e) f0 f1 f3 f4 f5;obtain ⟨o,e,c,d⟩:=id st';exact ⟨u,rfl,xJ (s:={ s with heap:=h' }) e c d (by decide) ⟨x,H,I1,ru,⟨rfl,λys hy=>by rw[I.list_inj hy hq];exact hx⟩,st',λb hb=>(hf b hb).1⟩⟩
 done:=by
  intro X hP hw hK hc i pins s σ H E I hf st hg;subst hP hw hK;obtain ⟨xs,hq,hx⟩:=hg;obtain ⟨its,rv,p,hz⟩:=I.list hq;obtain ⟨f0,f1,f2,f3,f4,f5⟩:=hf it (by simp);have hl:=rv.length;exact wpAny_pyNext_list_end (I.ok.hd hc) st p.isList (by simp;lia) λh' eb=>⟨rfl,I.turned (t':=s.toks) (λb o hb e=>eb b o hb e) f0 f1 f3 f4 f5⟩
 self:=λ_ _ _ _ _ st h=>wpAny_pyIter_listiter st h
theorem v8 {P:Program} {w:World} {K:FG9} {tg:Expr} (a it:Addr):Turn P w K tg (Ed K a) [it] it (λi h=>h.IsTupleIter it a i) where
 mem:=by simp
 obj:=λi h st b hb=>by
  have e:b=it:=by simpa using hb
  subst e;obtain ⟨o,e,c,d⟩:=st;exact ⟨o,e,λv z=>by rw[d] at z;cases z⟩
 keep:=λi h h' st k=>st.at λo e=>k it (by simp) o e
 item:=by
  intro X hP hw hK hc i pins s σ H E I hf st hg;subst hP hw hK;obtain ⟨xs,x,hq,hx⟩:=hg;obtain ⟨its,rv,p,hz⟩:=I.tuple hq;obtain ⟨u,hu,ru⟩:=rv.get hx;obtain ⟨f0,f1,f2,f3,f4,f5⟩:=hf it (by simp);refine wpAny_pyNext_tuple_item st (show s.heap.IsTuple a its.toArray from p) (x:=u) (by simpa using hu) λh' st' sb=>?_
  have I1:Inv X pins σ H { s with heap:=h' }:=I.turned (t':=s.toks) (λb o hb e=>(sb.2 b hb).trans e) f0 f1 f3 f4 f5;obtain ⟨o,e,c,d⟩:=id st';exact ⟨u,rfl,xJ (s:={ s with heap:=h' }) e c d (by decide) ⟨x,H,I1,ru,⟨rfl,λys hy=>by rw[I.tuple_inj hy hq];exact hx⟩,st',λb hb=>(hf b hb).1⟩⟩
 done:=by
  intro X hP hw hK hc i pins s σ H E I hf st hg;subst hP hw hK;obtain ⟨xs,hq,hx⟩:=hg;obtain ⟨its,rv,p,hz⟩:=I.tuple hq;obtain ⟨f0,f1,f2,f3,f4,f5⟩:=hf it (by simp);have hl:=rv.length;exact wpAny_pyNext_tuple_end (I.ok.hd hc) st (show s.heap.IsTuple a its.toArray from p) (by simp;lia) λh' eb=>⟨rfl,I.turned (t':=s.toks) (λb o hb e=>eb b o hb e) f0 f1 f3 f4 f5⟩
 self:=λ_ _ _ _ _ st h=>wpAny_pyIter_tupleiter st h
theorem v9 {P:Program} {w:World} {K:FG9} {tg:Expr} (it:Addr) (lo:Int) (n:Nat):Turn P w K tg (yb lo n) [it] it (λi h=>IsRangeIter h it (lo+(i:Nat)*1) ((n:Int) - (i:Nat)) 1) where
 mem:=by simp
 obj:=λi h st b hb=>by
  have e:b=it:=by simpa using hb
  subst e
  exact ⟨_,st,λv z=>by
   have z':Data.fields _=Data.cell v:=z;cases z'⟩
 keep:=λi h h' st k=>k it (by simp) _ st
 item:=by
  intro X hP hw hK hc i pins s σ H E I hf st hg;subst hP hw hK;obtain ⟨f0,f1,f2,f3,f4,f5⟩:=hf it (by simp);have W:=Walks.range (prog:=X.prog) (w:=X.w) (I.ok.hd hc) it lo 1 n;refine W.item i s _ _ hg st λv h' tk hv st' kk=>?_
  obtain ⟨t,rfl⟩:=hv;have I1:Inv X pins σ H { s with heap:=h',toks:=tk }:=I.turned (λb o hb e=>kk b o (by simpa using hb) e) f0 f1 f3 f4 f5;refine ⟨_,rfl,xJ (s:={ s with heap:=h',toks:=tk }) (n:="range_iterator") st' rfl rfl (by decide) ⟨.int (lo+i),H,I1,⟨t,?_⟩,⟨rfl,rfl⟩,st',λb hb=>(hf b hb).1⟩⟩;rw[Int.mul_one]
 done:=by
  intro X hP hw hK hc i pins s σ H E I hf st hg;subst hP hw hK;obtain ⟨f0,f1,f2,f3,f4,f5⟩:=hf it (by simp);exact wpAny_pyNext_range_end (I.ok.hd hc) st (by have:n<=i:=hg;lia) λh' eb=>⟨rfl,I.turned (t':=s.toks) (λb o hb e=>eb b o hb e) f0 f1 f3 f4 f5⟩
 self:=λ_ _ _ _ _ st h=>wpAny_pyIter_rangeiter st h
section
variable {X:Cx} {tg:Expr}
def Cy (K:FG9) (tl:TE):TI:=λσ H R=>tl σ H λx H1=>∃a,x=.ref a/\(∃xs,bD K H1 a xs)/\R (CM K a) H1
def Fb (K:FG9) (tl:TE):TI:=λσ H R=>tl σ H λx H1=>∃a,x=.ref a/\(∃xs,i8 K H1 a xs)/\R (Ed K a) H1
theorem cL {l:Expr} {tl:TE} (hl:PE X l tl):PI X tg l (Cy X.K tl):=by
 intro pins s σ H R I h;refine dz (hl pins s σ H _ I h) λv s1 ⟨x,H1,I1,r1,q1⟩=>?_
 obtain ⟨a,e,⟨xs,hq⟩,q⟩:=q1;subst e;cases r1;obtain ⟨its,rv,p,hz⟩:=I1.list hq;refine wpAny_pyIter_list p.isList ?_;refine ⟨s1.heap.objs.size,[s1.heap.objs.size],_,_,H1,rfl,I1.kept (t':=s1.toks) λb o e=>Heap.get?_push_of_some _ e,yi a _,⟨_,Heap.get?_push_size _ rfl,rfl,rfl⟩,λb hb=>?_,q⟩;have e:b=s1.heap.objs.size:=by simpa using hb
 subst e;exact I1.fpOk (ax _) (I1.hok.fresh (ax _))
theorem DJ {l:Expr} {tl:TE} (hl:PE X l tl):PI X tg l (Fb X.K tl):=by
 intro pins s σ H R I h;refine dz (hl pins s σ H _ I h) λv s1 ⟨x,H1,I1,r1,q1⟩=>?_
 obtain ⟨a,e,⟨xs,hq⟩,q⟩:=q1;subst e;cases r1;obtain ⟨its,rv,p,hz⟩:=I1.tuple hq;refine wpAny_pyIter_tuple (show s1.heap.IsTuple a its.toArray from p) ?_;refine ⟨s1.heap.objs.size,[s1.heap.objs.size],_,_,H1,rfl,I1.kept (t':=s1.toks) λb o e=>Heap.get?_push_of_some _ e,v8 a _,⟨_,Heap.get?_push_size _ rfl,rfl,rfl⟩,λb hb=>?_,q⟩;have e:b=s1.heap.objs.size:=by simpa using hb
 subst e;exact I1.fpOk (ax _) (I1.hok.fresh (ax _))
theorem zU {pins:List (Addr×Obj)} {σ:St} {H:Hp} {s:Shared} {R:It->Hp->Prop} {E:Value->Shared->Prop} {lo hi:Int} {t u v:Tok} {tk:Nat} (I:Inv X pins σ H s) (h1:-(2^62)<=lo) (h2:lo < 2^62) (h3:-(2^62)<=hi) (h4:hi < 2^62)
  (q:R (yb lo (hi - lo).toNat) H):wpAny (model X.prog X.w) X.A (pyIter (.ref s.heap.objs.size)) (PIE X pins σ tg R) E { s with heap:=s.heap.push { cls:=.type "range",data:=.fields #[.int lo t,.int hi u,.int 1 v] },toks:=tk }:=by
 refine wpAny_pyIter_range (IsRange.new ..) (small_one h1 h2 h3 h4) ?_;have I1:Inv X pins σ H { s with heap:=s.heap.push { cls:=.type "range",data:=.fields #[.int lo t,.int hi u,.int 1 v] },toks:=tk }:=I.kept λb o e=>Heap.get?_push_of_some _ e
 refine ⟨(s.heap.push { cls:=.type "range",data:=.fields #[.int lo t,.int hi u,.int 1 v] }).objs.size,[(s.heap.push { cls:=.type "range",data:=.fields #[.int lo t,.int hi u,.int 1 v] }).objs.size],_,_,H,rfl,
  I1.kept (t':=tk) λb o e=>Heap.get?_push_of_some _ e,v9 _ lo (hi - lo).toNat,?_,λb hb=>?_,q⟩
 ·have e1:lo+((0:Nat):Int)*1=lo:=by simp
  have e2:(((hi - lo).toNat:Nat):Int) - ((0:Nat):Int)=Builtin.Range.rangeSize lo hi 1:=by rw[rangeSize_one];split <;> lia
  show IsRangeIter _ _ (lo+((0:Nat):Int)*1) ((((hi - lo).toNat:Nat):Int) - ((0:Nat):Int)) 1
  rw[e1,e2];exact Heap.get?_push_size _ rfl
 ·have e:b=(s.heap.push { cls:=.type "range",data:=.fields #[.int lo t,.int hi u,.int 1 v] }).objs.size:=by simpa using hb
  subst e;exact I1.fpOk (ax _) (I1.hok.fresh (ax _))
def Cw (ta:TA):TI:=λσ H R=>ta σ H λvs H1=>∃j:Int,vs=[.int j]/\-(2^62)<=j/\j < 2^62/\R (yb 0 j.toNat) H1
theorem cx {a:Expr} {ta:TA} {p pos:Pos} (hg:Gl X "range") (hm:X.mg "range"=none) (ha:PA X [a] ta) (hs:starEach [a] X.env=[(false,eval a X.env)]:=by rfl):PI X tg (.Call (.Name "range" p) [a] [] pos) (Cw ta):=by
 intro pins s σ H R I h;refine Call_ (jJ I hg hm boot_range (PyProof.Rows.callWith_type1 (dz (ha pos pins s σ H _ I h) λus s1 ⟨vs,H1,I1,r1,q1⟩=>?_) hs rfl));obtain ⟨j,e,q1,q2,q⟩:=q1;subst e;cases r1 with
 | cons r rr =>
  cases rr;obtain ⟨t,rfl⟩:=r;exact call_range_1 (zU I1 (by lia) (by lia) q1 q2 (by simpa using q))
def EA (wi:TI) (g:TG) (tb:TS):TS:=λD σ H=>wi σ H λJ H1=>∃W:Nat->Nat->St->Hp->Prop,(∃m,W 0 m σ H1)/\∀i m σ H,W i m σ H →
 (J.stop i H/\D.nx σ H)\/(J.go i H/\∃N:St->Hp->Prop,(∀σ' H',N σ' H'->∃m',m' < m/\W (i+1) m' σ' H')/\∀x H',J.yld i H x H'->g x σ H' λσ2 H2=>tb { D with nx:=N,ct:=N,bk:=D.nx } σ2 H2)
def oX (fp:List Addr) (h:Heap):List (Addr×Obj):=fp.filterMap λb=>(h.get? b).map λo=>(b,o)
theorem gG {fp:List Addr} {h:Heap} {b:Addr} {o:Obj} (hb:b∈fp) (e:h.get? b=some o):(b,o)∈oX fp h:=v5.mpr ⟨b,hb,by rw[e];rfl⟩
theorem yw {fp:List Addr} {h:Heap} {p:Addr×Obj} (hp:p∈oX fp h):p.1∈fp/\h.get? p.1=some p.2:=by
 obtain ⟨b,hb,e⟩:=v5.mp hp;cases q:h.get? b with
 | none=>rw[q] at e;cases e
 | some o =>
  rw[q] at e;have e':(b,o)=p:=aQ e;subst e';exact ⟨hb,q⟩
theorem Inv.pinned {pins:List (Addr×Obj)} {σ:St} {H:Hp} {s:Shared} {fp:List Addr} (I:Inv X pins σ H s) (hf:∀b∈fp,jN X pins H b) (ho:∀b∈fp,∃o,s.heap.get? b=some o/\∀v,o.data≠.cell v):Inv X (pins++oX fp s.heap) σ H s :=
 I.pins_of λp hp=>(aO.mp hp).elim (λz=>I.pin p (aT _ z)) λz=>by
  obtain ⟨hb,e⟩:=yw z;obtain ⟨f0,f1,f2,_⟩:=hf p.1 hb;obtain ⟨o,e',d⟩:=ho p.1 hb;rw[e] at e';cases e';exact ⟨e,f0,f1,f2,d⟩
theorem Inv.unpinned {pins pl:List (Addr×Obj)} {σ:St} {H:Hp} {s:Shared} (I:Inv X (pins++pl) σ H s):Inv X pins σ H s:=I.pins_of λp hp=>I.pin p (aT _ (kD _ hp))
theorem dQ {iter:Expr} {body:List Stmt} {wi:TI} {g:TG} {tb:TS} {pos:Pos} (hp:PassesOwn (model X.prog X.w) X.A X.env X.xe) (hc:X.calm=true) (hi:PI X tg iter wi) (hg:PG X tg g) (hb:uR X body tb)
  (hs:∀x,foldedSetIterable iter X.env x=pure x:=by intro _;rfl):PS X (.For tg iter body [] pos) (EA wi g tb):=by
 intro pins s σ H D I h;refine wpAny_For (dz (hi pins s σ H _ I h) λv s1 h1=>dz h1 λitv s2 h2=>?_) hs;obtain ⟨it,fp,tn,J,H2,e,I2,T,st2,f2,W,⟨m0,w0⟩,turn⟩:=h2;subst e;have stat:∀{H':Hp},(∀b∈fp,H' b=none)->∀b∈fp,jN X pins H' b:=λhn b hb=>⟨hn b hb,(f2 b hb).2⟩
 refine codeAny_forLoop_any (λn s'=>∃i σ' H',Inv X pins σ' H' s'/\tn i s'.heap/\(∀b∈fp,H' b=none)/\W i n σ' H') ?_ m0 ⟨0,σ,H2,I2,st2,λb hb=>(f2 b hb).1,w0⟩;rintro n s3 ⟨i,σ3,H3,I3,st3,fr3,w3⟩;rcases turn i n σ3 H3 w3 with ⟨stop,qn⟩ | ⟨go,N,hN,step⟩
 ·refine wpAny_passesOwn hp (dz (T.done X rfl rfl rfl hc i pins s3 σ3 H3 X.xe I3 (stat fr3) st3 stop) λr s4 ⟨hr,I4⟩=>?_);subst hr;exact wpAny_execs_nil ⟨σ3,H3,I4,qn⟩
 ·refine wpAny_passesOwn hp (dz (T.item X rfl rfl rfl hc i pins s3 σ3 H3 X.xe I3 (stat fr3) st3 go) λr s4 ⟨u,hr,h4⟩=>?_);subst hr;refine wpAny_passesOwn hp (dz h4 λ_ s5 ⟨x,H5,I5,r5,y5,st5,fr5⟩=>?_);have I5':=I5.pinned (stat fr5) (T.obj _ _ st5);refine wpAny_passesOwn hp (dz (hg _ s5 σ3 H5 x u _ I5' r5 (step x H5 y5)) λ_ s6 ⟨σ6,H6,I6,q6⟩=>?_);refine wpAny_passesOwn hp (dz (hb _ s6 σ6 H6 _ I6 q6) λf s7 q7=>?_)
  have again:∀{σ7:St} {H7:Hp},Inv X (pins++oX fp s5.heap) σ7 H7 s7->N σ7 H7->∃m,m < n/\∃i σ' H',Inv X pins σ' H' s7/\tn i s7.heap/\(∀b∈fp,H' b=none)/\W i m σ' H':=λ{σ7 H7} I7 n7=>by
   obtain ⟨m',hm,w7⟩:=hN σ7 H7 n7;refine ⟨m',hm,i+1,σ7,H7,I7.unpinned,T.keep _ _ _ st5 λb hb o e=>(I7.pin (b,o) (aT _ (aT _ (gG hb e)))).1,λb hb=>?_,w7⟩;obtain ⟨o,e,d⟩:=T.obj _ _ st5 b hb;exact (I7.pin (b,o) (aT _ (aT _ (gG hb e)))).2.1
  cases f with
  | next=>obtain ⟨σ7,H7,I7,n7⟩:=q7;exact again I7 n7
  | cont=>obtain ⟨σ7,H7,I7,n7⟩:=q7;exact again I7 n7
  | brk=>obtain ⟨σ7,H7,I7,q7⟩:=q7;exact ⟨σ7,H7,I7.unpinned,q7⟩
  | ret v=>obtain ⟨x7,σ7,H7,I7,r7,q7⟩:=q7;exact ⟨x7,σ7,H7,I7.unpinned,r7,q7⟩
end
theorem iW {K:FG9} {a:Addr} {xs:List V} {g:TG} {tb:TS} {D:Ends} {σ:St} {H:Hp} (Pv:Nat->St->Hp->Prop) (h0:Pv 0 σ H) (hl:∀i σ H,i<=xs.length->Pv i σ H->bD K H a xs)
  (hs:∀i x σ H,xs[i]?=some x->Pv i σ H->g x σ H λσ2 H2=>tb { D with nx:=Pv (i+1),ct:=Pv (i+1),bk:=D.nx } σ2 H2) (hd:∀σ H,Pv xs.length σ H->D.nx σ H) :
  ∃W:Nat->Nat->St->Hp->Prop,(∃m,W 0 m σ H)/\∀i m σ H,W i m σ H →
   ((CM K a).stop i H/\D.nx σ H)\/((CM K a).go i H/\∃N:St->Hp->Prop,(∀σ' H',N σ' H'->∃m',m' < m/\W (i+1) m' σ' H')/\∀x H',(CM K a).yld i H x H'->g x σ H' λσ2 H2=>tb { D with nx:=N,ct:=N,bk:=D.nx } σ2 H2):=by
 refine ⟨λi m σ H=>m=xs.length - i/\i<=xs.length/\Pv i σ H,⟨xs.length,by simp,bf _,h0⟩,?_⟩;rintro i m σ H ⟨rfl,hi,p⟩;have q:=hl i σ H hi p;by_cases hlt:i < xs.length
 ·refine .inr ⟨⟨xs,xs[i],q,by simp [hlt]⟩,Pv (i+1),λσ' H' p'=>⟨xs.length - (i+1),by lia,rfl,hlt,p'⟩,λx H' y=>?_⟩;obtain ⟨e,y⟩:=y;subst e;exact hs i x σ _ (y xs q) p
 ·have e:i=xs.length:=by lia
  subst e;exact .inl ⟨⟨xs,q,ax _⟩,hd σ H p⟩
theorem BN {K:FG9} {a:Addr} {xs:List V} {g:TG} {tb:TS} {D:Ends} {σ:St} {H:Hp} (Pv:Nat->St->Hp->Prop) (h0:Pv 0 σ H) (hl:∀i σ H,i<=xs.length->Pv i σ H->i8 K H a xs)
  (hs:∀i x σ H,xs[i]?=some x->Pv i σ H->g x σ H λσ2 H2=>tb { D with nx:=Pv (i+1),ct:=Pv (i+1),bk:=D.nx } σ2 H2) (hd:∀σ H,Pv xs.length σ H->D.nx σ H) :
  ∃W:Nat->Nat->St->Hp->Prop,(∃m,W 0 m σ H)/\∀i m σ H,W i m σ H →
   ((Ed K a).stop i H/\D.nx σ H)\/((Ed K a).go i H/\∃N:St->Hp->Prop,(∀σ' H',N σ' H'->∃m',m' < m/\W (i+1) m' σ' H')/\∀x H',(Ed K a).yld i H x H'->g x σ H' λσ2 H2=>tb { D with nx:=N,ct:=N,bk:=D.nx } σ2 H2):=by
 refine ⟨λi m σ H=>m=xs.length - i/\i<=xs.length/\Pv i σ H,⟨xs.length,by simp,bf _,h0⟩,?_⟩;rintro i m σ H ⟨rfl,hi,p⟩;have q:=hl i σ H hi p;by_cases hlt:i < xs.length
 ·refine .inr ⟨⟨xs,xs[i],q,by simp [hlt]⟩,Pv (i+1),λσ' H' p'=>⟨xs.length - (i+1),by lia,rfl,hlt,p'⟩,λx H' y=>?_⟩;obtain ⟨e,y⟩:=y;subst e;exact hs i x σ _ (y xs q) p
 ·have e:i=xs.length:=by lia
  subst e;exact .inl ⟨⟨xs,q,ax _⟩,hd σ H p⟩
theorem yH {lo:Int} {n:Nat} {g:TG} {tb:TS} {D:Ends} {σ:St} {H:Hp} (Pv:Nat->St->Hp->Prop) (h0:Pv 0 σ H)
  (hs:∀i σ H,i < n->Pv i σ H->g (.int (lo+i)) σ H λσ2 H2=>tb { D with nx:=Pv (i+1),ct:=Pv (i+1),bk:=D.nx } σ2 H2) (hd:∀σ H,Pv n σ H->D.nx σ H) :
  ∃W:Nat->Nat->St->Hp->Prop,(∃m,W 0 m σ H)/\∀i m σ H,W i m σ H →
   ((yb lo n).stop i H/\D.nx σ H)\/((yb lo n).go i H/\∃N:St->Hp->Prop,(∀σ' H',N σ' H'->∃m',m' < m/\W (i+1) m' σ' H')/\∀x H',(yb lo n).yld i H x H'->g x σ H' λσ2 H2=>tb { D with nx:=N,ct:=N,bk:=D.nx } σ2 H2):=by
 refine ⟨λi m σ H=>m=n - i/\i<=n/\Pv i σ H,⟨n,by simp,bf _,h0⟩,?_⟩;rintro i m σ H ⟨rfl,hi,p⟩;by_cases hlt:i < n
 ·refine .inr ⟨hlt,Pv (i+1),λσ' H' p'=>⟨n - (i+1),by lia,rfl,hlt,p'⟩,λx H' y=>?_⟩;obtain ⟨e,y⟩:=y;subst e y;exact hs i σ _ hlt p
 ·have e:i=n:=by lia
  subst e;exact .inl ⟨ax _,hd σ H p⟩
abbrev R2:=V->V->Hp->VK->Prop
def qt (X:Cx) (f:Value->Value->Sem Value) (r:R2):Prop :=
 ∀(pins:List (Addr×Obj)) (s:Shared) (σ:St) (H:Hp) (x y:V) (v u:Value) (Q:VK),Inv X pins σ H s->RelV x v->RelV y u->r x y H Q →
  wpAny (model X.prog X.w) X.A (f v u) (EP X pins σ Q) X.xe s
def FQ (X:Cx) (f:Value->Sem Value) (r:V->Hp->VK->Prop):Prop :=
 ∀(pins:List (Addr×Obj)) (s:Shared) (σ:St) (H:Hp) (x:V) (v:Value) (Q:VK),Inv X pins σ H s->RelV x v->r x H Q →
  wpAny (model X.prog X.w) X.A (f v) (EP X pins σ Q) X.xe s
def jY (X:Cx) (f:Value) (r:List V->Hp->VK->Prop):Prop :=
 ∀(pins:List (Addr×Obj)) (s:Shared) (σ:St) (H:Hp) (xs:List V) (us:List Value) (Q:VK),Inv X pins σ H s->bO xs us->r xs H Q →
  wpAny (model X.prog X.w) X.A (call f us) (EP X pins σ Q) X.xe s
def Ew (r:R2) (ta tb:TE):TE:=λσ H Q=>ta σ H λx H1=>tb σ H1 λy H2=>r x y H2 Q
def Cc (r:V->Hp->VK->Prop) (ta:TE):TE:=λσ H Q=>ta σ H λx H1=>r x H1 Q
def rI (C:Int->Int->Prop) (g:Int->Int->V):R2:=λx y H Q=>∃i j,x=.int i/\y=.int j/\C i j/\Q (g i j) H
def Cq (g:Int->Int->V):R2:=λx y H Q=>∃i j,x=.int i/\y=.int j/\Q (g i j) H
def rU (g:Int->V):V->Hp->VK->Prop:=λx H Q=>∃i,x=.int i/\Q (g i) H
section
variable {X:Cx} {a b c:Expr} {ta tb tc:TE} {pos:Pos}
theorem D5 (ha:PE X a ta) (hb:PE X b tb) {pins:List (Addr×Obj)} {s:Shared} {σ:St} {H:Hp} {R:V->V->Hp->Prop} (I:Inv X pins σ H s)
  (h:ta σ H λx H1=>tb σ H1 λy H2=>R x y H2) {Q:Value->Shared->Prop} {f:Value->Value->Sem Value}
  (hf:∀v u s2 x y H2,Inv X pins σ H2 s2->RelV x v->RelV y u->R x y H2->wpAny (model X.prog X.w) X.A (f v u) Q X.xe s2) :
  wpAny (model X.prog X.w) X.A (eval a X.env) (λv s₁=>wpAny (model X.prog X.w) X.A (eval b X.env) (λu s₂=>wpAny (model X.prog X.w) X.A (f v u) Q X.xe s₂) X.xe s₁) X.xe s:=by
 refine dz (ha pins s σ H _ I h) λv s1 ⟨x,H1,I1,r1,q1⟩=>?_
 refine dz (hb pins s1 σ H1 _ I1 q1) λu s2 ⟨y,H2,I2,r2,q2⟩=>?_
 exact hf v u s2 x y H2 I2 r1 r2 q2
theorem aZ {op:Operator} {r:R2} (ho:qt X (binaryOp op) r) (ha:PE X a ta) (hb:PE X b tb):PE X (.BinOp a op b pos) (Ew r ta tb):=by
 intro pins s σ H Q I h;exact wpAny_BinOp (D5 ha hb I h λv u s2 x y H2 I2 rx ry q=>ho pins s2 σ H2 x y v u Q I2 rx ry q)
theorem vw {op:UnaryOp} {r:V->Hp->VK->Prop} (ho:FQ X (unaryOp op) r) (ha:PE X a ta):PE X (.UnaryOp op a pos) (Cc r ta):=by
 intro pins s σ H Q I h;exact UnaryOp_ (dz (ha pins s σ H _ I h) λv s1 ⟨x,H1,I1,r1,q1⟩=>ho pins s1 σ H1 x v Q I1 r1 q1)
theorem Fw {f:Value->Value->Sem Value} {C:Int->Int->Prop} {g:Int->Int->Int}
  (rule:∀(i j:Int) (t u:Tok) (s:Shared) (Q:Value->Shared->Prop) (E:Value->Shared->Prop),C i j->Q (.int (g i j) s.toks) { s with toks:=s.toks+1 }->wpAny (model X.prog X.w) X.A (f (.int i t) (.int j u)) Q E s) :
  qt X f (rI C λi j=>.int (g i j)):=by
 intro pins s σ H x y v u Q I rx ry h;obtain ⟨i,j,rfl,rfl,hc,q⟩:=h;obtain ⟨t,rfl⟩:=rx;obtain ⟨t',rfl⟩:=ry;exact rule i j t t' s _ _ hc ⟨.int (g i j),H,I.tok _,⟨_,rfl⟩,q⟩
theorem E2 {f:Value->Value->Sem Value} {g:Int->Int->Int}
  (rule:∀(i j:Int) (t u:Tok) (s:Shared) (Q:Value->Shared->Prop) (E:Value->Shared->Prop),Q (.int (g i j) s.toks) { s with toks:=s.toks+1 }->wpAny (model X.prog X.w) X.A (f (.int i t) (.int j u)) Q E s) :
  qt X f (Cq λi j=>.int (g i j)):=by
 intro pins s σ H x y v u Q I rx ry h;obtain ⟨i,j,rfl,rfl,q⟩:=h;obtain ⟨t,rfl⟩:=rx;obtain ⟨t',rfl⟩:=ry;exact rule i j t t' s _ _ ⟨.int (g i j),H,I.tok _,⟨_,rfl⟩,q⟩
theorem DP {f:Value->Value->Sem Value} {g:Int->Int->Bool}
  (rule:∀(i j:Int) (t u:Tok) (s:Shared) (Q:Value->Shared->Prop) (E:Value->Shared->Prop),Q (.bool (g i j)) s->wpAny (model X.prog X.w) X.A (f (.int i t) (.int j u)) Q E s) :
  qt X f (Cq λi j=>.bl (g i j)):=by
 intro pins s σ H x y v u Q I rx ry h;obtain ⟨i,j,rfl,rfl,q⟩:=h;obtain ⟨t,rfl⟩:=rx;obtain ⟨t',rfl⟩:=ry;exact rule i j t t' s _ _ ⟨.bl (g i j),H,I,rfl,q⟩
def Ea (i j:Int):Prop:=(-(2^64) < i/\i < 2^64)\/(-(2^64) < j/\j < 2^64)
theorem Ea.ok {i j:Int} (h:Ea i j):IntMulOk i j:=by
 rcases h with ⟨h1,h2⟩ | ⟨h1,h2⟩
 ·exact .of_left (intBits_le_64 h1 h2)
 ·exact .of_right (intBits_le_64 h1 h2)
theorem bT:qt X (binaryOp .Add) (Cq λi j=>.int (i+j)):=E2 λ_ _ _ _ _ _ _ q=>add_int q
theorem o5:qt X (binaryOp .Sub) (Cq λi j=>.int (i - j)):=E2 λ_ _ _ _ _ _ _ q=>sub_int q
theorem jE:qt X (binaryOp .Mod) (rI (λ_ j=>0 < j) λi j=>.int (i % j)):=Fw λi j _ _ _ _ _ hc q=>by
 have h1:(0:Int) < j:=hc;exact mod_int' (by lia) (by rw[Int.fmod_eq_emod_of_nonneg i (by lia)];exact q)
theorem BC:qt X (binaryOp .Mod) (rI (λ_ j=>j≠0) λi j=>.int (i.fmod j)):=Fw λ_ _ _ _ _ _ _ hc q=>mod_int' hc q
theorem unI {f:Value->Sem Value} {g:Int->Int}
  (rule:∀(i:Int) (t:Tok) (s:Shared) (Q:Value->Shared->Prop) (E:Value->Shared->Prop),Q (.int (g i) s.toks) { s with toks:=s.toks+1 }->wpAny (model X.prog X.w) X.A (f (.int i t)) Q E s) :
  FQ X f (rU λi=>.int (g i)):=by
 intro pins s σ H x v Q I rx h;obtain ⟨i,rfl,q⟩:=h;obtain ⟨t,rfl⟩:=rx;exact rule i t s _ _ ⟨.int (g i),H,I.tok _,⟨_,rfl⟩,q⟩
theorem qM:FQ X (unaryOp .USub) (rU λi=>.int (-i)):=unI λ_ _ _ _ _ q=>neg_int q
end
def EF:V->V->Bool
 | .non,.non=>true | .non,.int _=>true | .int _,.non=>true | .non,.bl _=>true | .bl _,.non=>true | .non,.str _=>true | .str _,.non=>true
 | .int _,.int _=>true | .bl _,.bl _=>true | .str _,.str _=>true | .byt _,.byt _=>true
 | .int _,.str _=>true | .str _,.int _=>true | .bl _,.str _=>true | .str _,.bl _=>true
 | _,_=>false
def FJ:R2:=λx y H Q=>EF x y=true/\Q (.bl (decide (x=y))) H
def FG:R2:=λx y H Q=>EF x y=true/\Q (.bl (!decide (x=y))) H
theorem xR {i j:Int}:decide (V.int i=V.int j)=(i == j):=by
 rw[fz];simp
theorem Au {i j:Bool}:decide (V.bl i=V.bl j)=(i == j):=by
 rw[fz];simp
theorem xQ {i j:Str}:decide (V.str i=V.str j)=(i == j):=by
 rw[fz];simp
theorem xS {i j:Array UInt8}:decide (V.byt i=V.byt j)=(i.toList == j.toList):=by
 rw[fz];cases i;cases j;simp
section
variable {X:Cx} {a b c:Expr} {ta tb tc:TE} {pos:Pos}
theorem bV {pins:List (Addr×Obj)} {σ:St} {H:Hp} {s:Shared} {Q:VK} {k k':Bool} (I:Inv X pins σ H s) (q:Q (.bl k) H) (e:k=k'):EP X pins σ Q (.bool k') s:=by
 subst e;exact ⟨.bl k,H,I,rfl,q⟩
theorem cH:qt X (compareOp .Eq) FJ:=by
 intro pins s σ H x y v u Q I rx ry h;obtain ⟨hs,q⟩:=h;cases x with
 | non =>
  cases rx;cases y with
  | non=>cases ry;exact PySem.EqNone.eq_none_none (bV I q (by simp))
  | bl j=>cases ry;exact PySem.EqNone.eq_none_bool (bV I q (by simp))
  | int j=>obtain ⟨t',rfl⟩:=ry;exact PySem.EqNone.eq_none_int (bV I q (by simp))
  | str j=>obtain ⟨t',rfl⟩:=ry;exact PySem.EqNone.eq_none_str (bV I q (by simp))
  | _=>exact absurd (show false=true from hs) aP
 | bl i =>
  cases rx;cases y with
  | non=>cases ry;exact PySem.EqNone.eq_bool_none (bV I q (by simp))
  | bl j=>cases ry;exact eq_bool (bV I q Au)
  | str j=>obtain ⟨t',rfl⟩:=ry;exact PySem.EqMixed.eq_bool_str (bV I q (by simp))
  | _=>exact absurd (show false=true from hs) aP
 | int i =>
  obtain ⟨t,rfl⟩:=rx;cases y with
  | non=>cases ry;exact PySem.EqNone.eq_int_none (bV I q (by simp))
  | int j=>obtain ⟨t',rfl⟩:=ry;exact eq_int (bV I q xR)
  | str j=>obtain ⟨t',rfl⟩:=ry;exact PySem.EqMixed.eq_int_str (bV I q (by simp))
  | _=>exact absurd (show false=true from hs) aP
 | str i =>
  obtain ⟨t,rfl⟩:=rx;cases y with
  | non=>cases ry;exact PySem.EqNone.eq_str_none (bV I q (by simp))
  | bl j=>cases ry;exact PySem.EqMixed.eq_str_bool (bV I q (by simp))
  | int j=>obtain ⟨t',rfl⟩:=ry;exact PySem.EqMixed.eq_str_int (bV I q (by simp))
  | str j=>obtain ⟨t',rfl⟩:=ry;exact eq_str (bV I q xQ)
  | _=>exact absurd (show false=true from hs) aP
 | byt i =>
  obtain ⟨t,rfl⟩:=rx;cases y with
  | byt j=>obtain ⟨t',rfl⟩:=ry;exact PySem.W.eq_bytes (bV I q xS)
  | _=>exact absurd (show false=true from hs) aP
 | _=>cases y <;> exact absurd (show false=true from hs) aP
theorem iR:qt X (compareOp .NotEq) FG:=by
 intro pins s σ H x y v u Q I rx ry h;obtain ⟨hs,q⟩:=h;cases x with
 | non =>
  cases rx;cases y with
  | non=>cases ry;exact PySem.EqNone.ne_none_none (bV I q (by simp))
  | bl j=>cases ry;exact PySem.EqNone.ne_none_bool (bV I q (by simp))
  | int j=>obtain ⟨t',rfl⟩:=ry;exact PySem.EqNone.ne_none_int (bV I q (by simp))
  | str j=>obtain ⟨t',rfl⟩:=ry;exact PySem.EqNone.ne_none_str (bV I q (by simp))
  | _=>exact absurd (show false=true from hs) aP
 | bl i =>
  cases rx;cases y with
  | non=>cases ry;exact PySem.EqNone.ne_bool_none (bV I q (by simp))
  | bl j=>cases ry;exact ne_bool (bV I q (congrArg not Au))
  | str j=>obtain ⟨t',rfl⟩:=ry;exact PySem.EqMixed.ne_bool_str (bV I q (by simp))
  | _=>exact absurd (show false=true from hs) aP
 | int i =>
  obtain ⟨t,rfl⟩:=rx;cases y with
  | non=>cases ry;exact PySem.EqNone.ne_int_none (bV I q (by simp))
  | int j=>obtain ⟨t',rfl⟩:=ry;exact ne_int (bV I q (congrArg not xR))
  | str j=>obtain ⟨t',rfl⟩:=ry;exact PySem.EqMixed.ne_int_str (bV I q (by simp))
  | _=>exact absurd (show false=true from hs) aP
 | str i =>
  obtain ⟨t,rfl⟩:=rx;cases y with
  | non=>cases ry;exact PySem.EqNone.ne_str_none (bV I q (by simp))
  | bl j=>cases ry;exact PySem.EqMixed.ne_str_bool (bV I q (by simp))
  | int j=>obtain ⟨t',rfl⟩:=ry;exact PySem.EqMixed.ne_str_int (bV I q (by simp))
  | str j=>obtain ⟨t',rfl⟩:=ry;exact ne_str (bV I q (congrArg not xQ))
  | _=>exact absurd (show false=true from hs) aP
 | byt i =>
  obtain ⟨t,rfl⟩:=rx;cases y with
  | byt j=>obtain ⟨t',rfl⟩:=ry;exact PySem.W.ne_bytes (bV I q (congrArg not xS))
  | _=>exact absurd (show false=true from hs) aP
 | _=>cases y <;> exact absurd (show false=true from hs) aP
theorem kv:qt X (compareOp .Lt) (Cq λi j=>.bl (decide (i < j))):=DP λ_ _ _ _ _ _ _ q=>lt_int q
theorem kZ:qt X (compareOp .Gt) (Cq λi j=>.bl (decide (j < i))):=DP λ_ _ _ _ _ _ _ q=>gt_int q
theorem tz:qt X (compareOp .GtE) (Cq λi j=>.bl (decide (j<=i))):=DP λ_ _ _ _ _ _ _ q=>ge_int q
theorem tx:qt X (compareOp .In) (λx y H Q=>∃i j,x=.str i/\y=.str j/\Q (.bl (!(Builtin.Str.occurrences j i 0 j.length 1).isEmpty)) H):=by
 intro pins s σ H x y v u Q I rx ry h;obtain ⟨i,j,rfl,rfl,q⟩:=h;obtain ⟨t,rfl⟩:=rx;obtain ⟨t',rfl⟩:=ry;exact in_str (bV I q rfl)
theorem DN:qt X (compareOp .Is) (λx y H Q=>y=.non/\Q (.bl (decide (x=.non))) H):=by
 intro pins s σ H x y v u Q I rx ry h;obtain ⟨rfl,q⟩:=h;cases ry;refine is_none_gen (bV I q ?_)
 cases x <;> first
  | (cases rx;rfl)
  | (obtain ⟨t,rfl⟩:=rx;rfl)
theorem aJ (b:Expr) {op:CmpOp} (h:op≠.In:=by decide) (h2:op≠.NotIn:=by decide):behindInMarks op b=false:=by
 have e1:(op == CmpOp.In)=false:=by cases op <;> first | rfl | exact absurd rfl h
 have e2:(op == CmpOp.NotIn)=false:=by cases op <;> first | rfl | exact absurd rfl h2
 cases b <;> simp [behindInMarks,e1,e2]
theorem gL {op:CmpOp} {r:R2} (ho:qt X (compareOp op) r) (ha:PE X a ta) (hb:PE X b tb) (hm:behindInMarks op b=false):PE X (.Compare a [op] [b] pos) (Ew r ta tb):=by
 intro pins s σ H Q I h;exact wpAny_Compare1 (D5 ha hb I h λv u s2 x y H2 I2 rx ry q=>ho pins s2 σ H2 x y v u Q I2 rx ry q) hm
def Cd (t:TE):TT:=λσ H Q=>t σ H λx H'=>∃k,x=.bl k/\Q k H'
theorem aB {op:CmpOp} {r:R2} (ho:qt X (compareOp op) r) (ha:PE X a ta) (hb:PE X b tb) (hm:behindInMarks op b=false):PT X (.Compare a [op] [b] pos) (Cd (Ew r ta tb)):=by
 intro pins s σ H Q I h
 refine wpAny_isTrue_Compare1 (dz (ha pins s σ H _ I h) λv s1 ⟨x,H1,I1,r1,q1⟩=>dz (hb pins s1 σ H1 _ I1 q1) λu s2 ⟨y,H2,I2,r2,q2⟩ =>
  dz (ho pins s2 σ H2 x y v u _ I2 r1 r2 q2) λc s3 ⟨z,H3,I3,r3,k,e,q3⟩=>?_) hm
 subst e;cases r3;exact wpAny_truthy_bool ⟨H3,I3,q3⟩
theorem nB:(sizeLine:Nat) < 2^63:=by rw[sizeLine_eq];decide
theorem dm:qt X (binaryOp .Add) (λx y H Q=>∃i j,x=.str i/\y=.str j/\i.length+j.length<=sizeLine/\Q (.str (i++j)) H):=by
 intro pins s σ H x y v u Q I rx ry h;obtain ⟨i,j,rfl,rfl,hz,q⟩:=h;obtain ⟨t,rfl⟩:=rx;obtain ⟨t',rfl⟩:=ry;exact add_str (λt' tk=>⟨.str (i++j),H,I.tok _,⟨_,rfl⟩,q⟩) hz
theorem vals1 {x:V} {us:List Value} (r:bO [x] us):∃u,us=[u]/\RelV x u:=by
 cases r with
 | cons r1 r2=>cases r2;exact ⟨_,rfl,r1⟩
theorem vals2 {x y:V} {us:List Value} (r:bO [x,y] us):∃u w',us=[u,w']/\RelV x u/\RelV y w':=by
 cases r with
 | cons r1 r2 =>
  cases r2 with
  | cons r3 r4=>cases r4;exact ⟨_,_,rfl,r1,r3⟩
theorem rX:jY X (.builtin "abs") (λxs H Q=>∃i,xs=[.int i]/\Q (.int (if i < 0 then -i else i)) H):=by
 intro pins s σ H xs us Q I r h;obtain ⟨i,rfl,q⟩:=h;obtain ⟨u,rfl,t,rfl⟩:=vals1 r;exact call_abs_int λu tk=>⟨.int (if i < 0 then -i else i),H,I.tok _,⟨_,rfl⟩,q⟩
end
structure yP (h:Heap) (x dx C:Addr) (mA:Str->Option Value):Prop where
 obj:h.get? x=some (PySem.W.instObj C dx)
 ns:h.Ns1 dx mA
 ne:dx≠x
theorem yz {h:Heap} {dx:Addr} {mA:Str->Option Value} (n:h.Ns1 dx mA):∃od,h.get? dx=some od/\∀name,PySem.W.lookIn name od=some (mA name):=by
 obtain ⟨o,es,ep,ho,hd,hk,_,hm⟩:=n;refine ⟨o,ho,λname=>?_⟩;have e:=hm name;unfold nsFind findBy at e;rw[<- Array.find?_toList] at e;unfold PySem.W.lookIn;rw[hd]
 dsimp only
 split
 ·rename_i y q
  rw[q] at e;exact congrArg some e
 ·rename_i q
  rw[q] at e
  have a:es.toList.any (·.refKey)=false:=by
   rw[List.any_eq_false];intro y hy;obtain ⟨z,t,hkey⟩:=hk y (Array.mem_toList_iff.mp hy);simp [DictEntry.refKey,hkey]
  have a':¬es.toList.any (·.refKey)=true:=by rw[a];exact aP
  rw[if_neg a'];exact congrArg some e
theorem yP.look {h:Heap} {x dx C:Addr} {mA:Str->Option Value} (I:yP h x dx C mA):∃od,PySem.W.InstAt h x (PySem.W.instObj C dx) C (some od)/\∀name,PySem.W.lookIn name od=some (mA name) :=
 let ⟨od,ho,hl⟩:=yz I.ns
 ⟨od,⟨I.obj,rfl,rfl,ho⟩,hl⟩
section
variable {prog:Program} {w:World} {A:Around} {E:Value->Shared->Prop} {s:Shared} {K:FG9} {x dx C f:Addr} {mA:Str->Option Value} {name:Str} {v:Value}
theorem get_map {expr:Bool} {Q:Value->Shared->Prop} (X:K.In s.heap) (I:yP s.heap x dx C mA) (hg:PySem.W.plainGet K C name=true) (hh:PySem.W.hasDictIn K C=true)
  (ha:PySem.W.findIn K (.ref C) name=some none) (hv:mA name=some v) (hv':PySem.W.handedIn v=true) (h:Q v { s with toks:=s.toks+1 }) :
  wpAny (model prog w) A (getAttr (.ref x) name expr) Q E s:=by
 obtain ⟨od,J,hl⟩:=I.look;exact PySem.W.get_value X J (PySem.W.plainGet_of hg).1 (PySem.W.findObj_own hh ha rfl (by rw[hl,hv])) hv' h
theorem AV {ns:List Str} {Q:Unit->Shared->Prop} (X:K.In s.heap) (I:yP s.heap x dx C mA)
  (hs:PySem.W.findIn K (.ref C) "__setattr__"=some (some (.builtin "object.__setattr__"))) (hp:PySem.W.plainOver K C=true) (ht:PySem.W.takerIn K C name=some none) (hh:PySem.W.hasDictIn K C=true)
  (hw:PySem.Within mA ns) (hsz:ns.length<=sizeLine)
  (h:∀h',yP h' x dx C (λy=>if y=name then some v else mA y)->Heap.SameBut dx s.heap h'->Q () { s with heap:=h',toks:=s.toks+2 }) :
  wpAny (model prog w) A (setAttr (.ref x) name v) Q E s:=by
 obtain ⟨od,J,hl⟩:=I.look;refine PySem.W.set_plain X J hs (PySem.W.osa_open (s:={ s with toks:=s.toks+1 }) (r:=none) X J hp ht λb=>?_);obtain ⟨cd,hc,hd'⟩:=PySem.W.any_some hh;have hx:s.heap.get? x=some ⟨.ref C,some dx,.plain,#[]⟩:=I.obj;refine wpAny_bind (wpAny_pure (wpAny_bind (wpAny_bind (wpAny_loadPart hx (wpAny_bind (PySem.W.Looks.here (s:={ s with toks:=s.toks+1 }) (PySem.W.looks_clsIn X hc) ?_))))));rw[hd'];refine wpAny_pure (a:=some dx) (wpAny_bind (wpAny_pure (wpAny_bind ?_)));refine wpAny_nsSet1 (s:={ s with toks:=s.toks+1 }) I.ns λh' hn2 hs2=>?_
 obtain ⟨oD,esD,epD,hoD,hdD,hcD⟩:=hn2.count (PySem.Within.cons name v hw);refine wpAny_bind (wpAny_lookBehind hoD (by rw[hdD];exact pastItsLine_dict (ar hcD (by rw[ah];lia))) ?_);exact wpAny_pure (h _ ⟨(hs2.2 _ (Ne.symm I.ne)).trans I.obj,hn2,I.ne⟩ hs2)
theorem z8 {R:Result->Shared->Prop} {vs:List Value} {kw:List (Str×Value)} (X:K.In s.heap) (hm:PySem.W.makesIn K C=true)
  (hi:PySem.W.findIn K (.ref C) "__init__"=some (some (.ref f))) (hf:PySem.W.typeIn K (.ref f)=some (.type "function"))
  (h:codeAny (model prog w) (A.under (.builtin "type.__call__" ⟨.ref C :: vs,kw⟩)) (.call (.ref f) ⟨.ref (s.heap.objs.size+1) :: vs,kw⟩) (PySem.W.InitBack (s.heap.objs.size+1) R)
   { s with heap:=(s.heap.push PySem.W.emptyDict).push (PySem.W.instObj C s.heap.objs.size) }) :
  codeAny (model prog w) A (.call (.ref C) ⟨vs,kw⟩) R s:=by
 obtain ⟨hh,g,d,t,os⟩:=s;exact PySem.W.make_core (PySem.W.makes_of X hm) (PySem.W.looks_findIn X hi) (λself=>PySem.W.bind_fn X self hf) (.inl rfl) h
end
def bp (f:Str) (v:V):List (Str×V)->List (Str×V)
 | []=>[(f,v)]
 | (g,x) :: r=>if g=f then (g,v) :: r else (g,x) :: bp f v r
theorem aX (f g:Str) (v:V):∀fs:List (Str×V),(bp f v fs).lookup g=if g=f then some v else fs.lookup g
 | []=>by
  show List.lookup g [(f,v)]=_
  by_cases h:g=f
  ·have hb:(g == f)=true:=beq_iff_eq.mpr h;simp only[List.lookup,hb,if_pos h]
  ·have hb:(g == f)=false:=beq_eq_false_iff_ne.mpr h;simp only[List.lookup,hb,if_neg h]
 | (k,x) :: r=>by
  have ih:=aX f g v r;rw[show bp f v ((k,x) :: r)=(if k=f then (k,v) :: r else (k,x) :: bp f v r) from rfl];by_cases hk:k=f
  ·rw[if_pos hk];by_cases h:g=k
   ·have hb:(g == k)=true:=beq_iff_eq.mpr h;simp only[List.lookup,hb,if_pos (h.trans hk)]
   ·have hb:(g == k)=false:=beq_eq_false_iff_ne.mpr h;simp only[List.lookup,hb,if_neg (λe:g=f=>h (e.trans hk.symm))]
  ·rw[if_neg hk];by_cases h:g=k
   ·have hb:(g == k)=true:=beq_iff_eq.mpr h;simp only[List.lookup,hb,if_neg (λe:g=f=>hk (h.symm.trans e))]
   ·have hb:(g == k)=false:=beq_eq_false_iff_ne.mpr h;simp only[List.lookup,hb];exact ih
theorem pe (f:Str) (v:V):∀fs:List (Str×V),f∈(bp f v fs).map (·.1)/\∀g,g∈fs.map (·.1)->g∈(bp f v fs).map (·.1)
 | []=>⟨by simp [bp],λg h=>by simp at h⟩
 | (k,x) :: r=>by
  obtain ⟨i1,i2⟩:=pe f v r;rw[show bp f v ((k,x) :: r)=(if k=f then (k,v) :: r else (k,x) :: bp f v r) from rfl];by_cases hk:k=f
  ·rw[if_pos hk];subst hk;exact ⟨by simp,λg h=>by simpa using h⟩
  ·rw[if_neg hk];refine ⟨?_,λg h=>?_⟩
   ·rw[cJ];exact ao _ i1
   ·rw[cJ] at h ⊢;rcases az.mp h with e | e
    ·exact az.mpr (.inl e)
    ·exact ao _ (i2 g e)
theorem pL (f:Str) (v:V):∀fs:List (Str×V),(bp f v fs).length<=fs.length+1
 | []=>by simp [bp]
 | (k,x) :: r=>by
  have ih:=pL f v r;rw[show bp f v ((k,x) :: r)=(if k=f then (k,v) :: r else (k,x) :: bp f v r) from rfl];by_cases hk:k=f
  ·rw[if_pos hk,ah,ah];lia
  ·rw[if_neg hk,ah,ah];lia
theorem xa.some_of {v:V} {o:Option Value} (r:xa (some v) o):∃u,o=some u/\RelV v u:=by
 cases o with
 | none=>exact (show False from r).elim
 | some u=>exact ⟨u,rfl,r⟩
theorem yG {v:V} {u:Value} (r:RelV v u):PySem.W.handedIn u=true:=by
 cases v with
 | non=>cases (show u=Value.none from r);rfl
 | bl b=>cases (show u=Value.bool b from r);rfl
 | int i=>obtain ⟨t,e⟩:=(show ∃t,u=Value.int i t from r);cases e;rfl
 | str x=>obtain ⟨t,e⟩:=(show ∃t,u=Value.str x t from r);cases e;rfl
 | byt b=>obtain ⟨t,e⟩:=(show ∃t,u=Value.bytes b t from r);cases e;rfl
 | flt b=>obtain ⟨t,e⟩:=(show ∃t,u=Value.float b t from r);cases e;rfl
 | ref a=>cases (show u=Value.ref a from r);rfl
 | ty n=>cases (show u=Value.type n from r);rfl
section
variable {P:Program} {w:World} {H H':Hp} {h h':Heap} {a C dx:Addr} {fs fs':List (Str×V)}
theorem uE (hok:oH P w H h) (e:H a=some (.ins C dx fs)):∃mA,yP h a dx C mA/\(∀f,xa (fs.lookup f) (mA f))/\PySem.Within mA (fs.map (·.1))/\fs.length<=1000/\H dx=some (.own a):=by
 obtain ⟨d,z,ne,ob,mA,n,r,q⟩:=(show dB P w H h a (.ins C dx fs) from hok a _ e);exact ⟨mA,⟨ob,n,ne⟩,r,q,z,d⟩
end
structure AD (K:FG9) (C:Addr):Prop where
 pg:PySem.W.plainGet K C Str.empty=true
 hd:PySem.W.hasDictIn K C=true
 po:PySem.W.plainOver K C=true
 sa:PySem.W.findIn K (.ref C) "__setattr__"=some (some (.builtin "object.__setattr__"))
theorem AD.get {K:FG9} {C:Addr} (c:AD K C) (f:Str):PySem.W.plainGet K C f=true:=c.pg
def fS (K:FG9) (C:Addr) (f:Str):Prop:=PySem.W.findIn K (.ref C) f=some none
theorem fS.taker {K:FG9} {C:Addr} {f:Str} (n:fS K C f):PySem.W.takerIn K C f=some none:=by
 unfold PySem.W.takerIn;rw[show PySem.W.findIn K (.ref C) f=some none from n];rfl
section
variable {X:Cx} {pins:List (Addr×Obj)} {σ:St} {H:Hp} {s:Shared} {a C dx:Addr} {fs:List (Str×V)} {f:Str} {v:V} {A:Around} {E:Value->Shared->Prop}
theorem wU {b:Bool} {Q:Value->Shared->Prop} (I:Inv X pins σ H s) (e:H a=some (.ins C dx fs)) (c:AD X.K C) (n:fS X.K C f) (l:fs.lookup f=some v)
  (h:∀u s',Inv X pins σ H s'->RelV v u->Q u s'):wpAny (model X.prog X.w) A (getAttr (.ref a) f b) Q E s:=by
 obtain ⟨mA,O,r,_,_,_⟩:=uE I.hok e;obtain ⟨u,hu,ru⟩:=xa.some_of (v:=v) (o:=mA f) (by rw[<- l];exact r f);exact get_map I.kIn O (c.get f) c.hd n hu (yG ru) (h u _ (I.tok _) ru)
theorem wk {y:V} {u:Value} {Q:Unit->Shared->Prop} (I:Inv X pins σ H s) (e:H a=some (.ins C dx fs)) (c:AD X.K C) (n:fS X.K C f) (hl:fs.length < 1000) (ry:RelV y u)
  (h:∀s',Inv X pins σ (upd H a (.ins C dx (bp f y fs))) s'->Q () s'):wpAny (model X.prog X.w) A (setAttr (.ref a) f u) Q E s:=by
 obtain ⟨mA,O,r,wi,_,ho⟩:=uE I.hok e;have hz:(fs.map (·.1)).length<=sizeLine:=by rw[ay,sizeLine_eq];lia
 refine AV I.kIn O c.sa c.po n.taker c.hd wi hz λh' O' sb=>h _ ?_
 have hd:∃o,h'.get? dx=some o:=let ⟨o,_,_,e',_⟩:=O'.ns;⟨o,e'⟩
 refine I.write (x:=a) (e:=dx) (by rw[e];exact True.intro) (.inr ho) (λb q hb z=>(sb.2 b hb).trans z) hd ?_;refine ⟨by rw[aU O.ne];exact ho,?_,O.ne,O'.obj,_,O'.ns,λg=>?_,λg hg=>?_⟩
 ·have:=pL f y fs;lia
 ·show xa ((bp f y fs).lookup g) (if g=f then some u else mA g)
  rw[aX];by_cases q:g=f
  ·rw[if_pos q,if_pos q];exact ry
  ·rw[if_neg q,if_neg q];exact r g
 ·by_cases q:g=f
  ·rw[q];exact (pe f y fs).1
  ·refine (pe f y fs).2 g (wi g λz=>hg ?_);show (if g=f then some u else mA g)=none
   rw[if_neg q];exact z
theorem Inv.made (I:Inv X pins σ H s):Inv X pins σ (upd (upd H s.heap.objs.size (.own (s.heap.objs.size+1))) (s.heap.objs.size+1) (.ins C s.heap.objs.size []))
  { s with heap:=(s.heap.push PySem.W.emptyDict).push (PySem.W.instObj C s.heap.objs.size) }:=by
 have e1:(s.heap.push PySem.W.emptyDict).get? s.heap.objs.size=some PySem.W.emptyDict:=Heap.get?_push_size s.heap rfl
 have e2:((s.heap.push PySem.W.emptyDict).push (PySem.W.instObj C s.heap.objs.size)).get? (s.heap.objs.size+1)=some (PySem.W.instObj C s.heap.objs.size):=by
  have:=Heap.get?_push_size (s.heap.push PySem.W.emptyDict) (o:=PySem.W.instObj C s.heap.objs.size) rfl;rwa [Heap.size_push] at this
 have e3:(s.heap.push PySem.W.emptyDict).Ns s.heap.objs.size (λ_=>none):=⟨PySem.W.emptyDict,#[],_,e1,rfl,(λe he=>absurd he (by simp)),λ_=>rfl⟩;have I1:=I.laid (a:=s.heap.objs.size) (o:=.own (s.heap.objs.size+1)) (h':=s.heap.push PySem.W.emptyDict) (t':=s.toks) (λb u q=>Heap.get?_push_of_some _ q) (ax _) ⟨_,e1⟩;refine I1.laid (a:=s.heap.objs.size+1) (o:=.ins C s.heap.objs.size []) (t':=s.toks) (λb u q=>Heap.get?_push_of_some _ q) (Nat.le_of_eq (Heap.size_push _ _)) ?_;have ne:s.heap.objs.size≠s.heap.objs.size+1:=bq (gQ _);refine ⟨by rw[aU ne,aA],bf _,ne,e2,λ_=>none,(Heap.Ns1.of_empty e3).at λo q=>Heap.get?_push_of_some _ q,λ_=>True.intro,λy hy=>absurd rfl hy⟩
theorem BW {prog:Program} {w:World} {env:Env} {e:Expr} {f:Str} {pos:Pos} {s:Shared} {Q:Value->Shared->Prop} (hb:attributeBase e f env (eval e env)=eval e env)
  (h:wpAny (model prog w) A (eval e env) (λo s₁=>wpAny (model prog w) A (getAttr o f true) Q E s₁) E s):wpAny (model prog w) A (eval (.Attribute e f pos) env) Q E s :=
 Attribute_any_ h (by rw[arm_eval_Attribute,hb])
end
def EB (K:FG9) (ta:TE) (f:Str):TE:=λσ H Q=>ta σ H λx H1=>∃a C dx fs v,x=.ref a/\H1 a=some (.ins C dx fs)/\AD K C/\fS K C f/\fs.lookup f=some v/\Q v H1
def EG (K:FG9) (ta tv:TE) (f:Str):TS:=λD σ H=>tv σ H λy H1=>ta σ H1 λx H2=>∃a C dx fs,x=.ref a/\H2 a=some (.ins C dx fs)/\AD K C/\fS K C f/\fs.length < 1000 /\
 D.nx σ (upd H2 a (.ins C dx (bp f y fs)))
section
variable {X:Cx} {o e value:Expr} {f:Str} {pos pos' tpos:Pos} {ta tv:TE}
theorem fF (he:PE X e ta) (hb:attributeBase e f X.env (eval e X.env)=eval e X.env):PE X (.Attribute e f pos) (EB X.K ta f):=by
 intro pins s σ H Q I h;refine BW hb (dz (he pins s σ H _ I h) λu s1 ⟨x,H1,I1,rx,a,C,dx,fs,v,ex,ea,c,n,l,q⟩=>?_);subst ex;obtain rfl:u=Value.ref a:=rx;exact wU I1 ea c n l λu' s2 I2 ru=>⟨v,H1,I2,ru,q⟩
theorem oW (ha:PE X o ta) (hv:PE X value tv) (hs:swapsWith value (some (.Attribute o f pos')) pos.line X.env=pure false):PS X (.Assign [.Attribute o f pos'] value pos) (EG X.K ta tv f):=by
 intro pins s σ H D I h;refine plainObj_wpAny_Assign_Attribute (dz (hv pins s σ H _ I h) λu s1 ⟨y,H1,I1,ry,q⟩=>dz (ha pins s1 σ H1 _ I1 q) λov s2 ⟨x,H2,I2,rx,a,C,dx,fs,ex,ea,c,n,l,q2⟩=>?_) hs;subst ex;obtain rfl:ov=Value.ref a:=rx;exact wk I2 ea c n l ry λs3 I3=>⟨σ,_,I3,q2⟩
end
section
variable {X:Cx} {pins:List (Addr×Obj)} {σ:St} {H:Hp} {s:Shared} {A:Around} {E:Value->Shared->Prop} {Q:Value->Shared->Prop} {c:Value} {b:Bool}
inductive nI (K:FG9) (H:Hp):V->Value->Prop where
 | non:nI K H .non (.type "NoneType")
 | bl (x:Bool):nI K H (.bl x) (.type "bool")
 | int (i:Int):nI K H (.int i) (.type "int")
 | str (x:Str):nI K H (.str x) (.type "str")
 | flt (x:UInt64):nI K H (.flt x) (.type "float")
 | lst {a:Addr} {xs:List V} (e:H a=some (.lst xs)):nI K H (.ref a) (.type "list")
 | frz {a:Addr} {o:Obj} {xs:List V} (e:H a=some (.frz o (.lst xs))):nI K H (.ref a) (.type "list")
 | tup {a:Addr} {xs:List V} (e:H a=some (.tup xs)):nI K H (.ref a) (.type "tuple")
 | dK {a:Addr} {kvs:List (Key×V)} (e:H a=some (.dK kvs)):nI K H (.ref a) (.type "dict")
 | dT {a:Addr} {kvs:List (List Key×V)} (e:H a=some (.dT kvs)):nI K H (.ref a) (.type "dict")
 | ins {a C dx:Addr} {fs:List (Str×V)} (e:H a=some (.ins C dx fs)) (cl:AD K C) (ha:PySem.W.findIn K (.ref C) "__class__"=some (some (.builtin "object.__class__")))
   (hn:PySem.W.specialIn K (.builtin "object.__class__") "__get__"=some (some (.builtin "getset_descriptor.__get__"))) (htk:PySem.W.takesIn K (.builtin "object.__class__")=some true)
   (hm:PySem.W.mroIn K C (.type "object")=some true):nI K H (.ref a) (.ref C)
theorem ph {x:V} {u t:Value} (I:Inv X pins σ H s) (rx:RelV x u) (ty:nI X.K H x t) (e:PySem.W.kitOne X.K t c=some b) (h:∀tk,Q (.bool b) { s with toks:=tk }) :
  wpAny (model X.prog X.w) A (call (.builtin "isinstance") [u,c]) Q E s:=by
 cases ty with
 | non=>cases (show u=Value.none from rx);exact bK PySem.W.kitx_none I.kIn True.intro e (λz=>nomatch z) h
 | bl y=>cases (show u=Value.bool y from rx);exact bK PySem.W.kitx_bool I.kIn True.intro e (λz=>nomatch z) h
 | int i=>obtain ⟨t,q⟩:=(show ∃t,u=Value.int i t from rx);cases q;exact bK PySem.W.kitx_int I.kIn True.intro e (λz=>nomatch z) h
 | str y=>obtain ⟨t,q⟩:=(show ∃t,u=Value.str y t from rx);cases q;exact bK PySem.W.kitx_str I.kIn True.intro e (λz=>nomatch z) h
 | flt y=>obtain ⟨t,q⟩:=(show ∃t,u=Value.float y t from rx);cases q;exact bK PySem.W.kitx_float I.kIn True.intro e (λz=>nomatch z) h
 | @lst a xs ea =>
  cases (show u=Value.ref a from rx);obtain ⟨_,_,n,_,h1⟩:=(show dB X.prog X.w H s.heap a (.lst xs) from I.hok a _ ea);exact bK PySem.W.kitx_list I.kIn ⟨_,h1,rfl⟩ e (λz=>nomatch z) h
 | @frz a ob xs ea =>
  cases (show u=Value.ref a from rx);obtain ⟨_,_,_,n,_,h1⟩:=(show dB X.prog X.w H s.heap a (.frz ob (.lst xs)) from I.hok a _ ea);exact bK PySem.W.kitx_list I.kIn ⟨_,h1,rfl⟩ e (λz=>nomatch z) h
 | @tup a xs ea =>
  cases (show u=Value.ref a from rx);obtain ⟨_,_,_,p⟩:=(show dB X.prog X.w H s.heap a (.tup xs) from I.hok a _ ea);obtain ⟨o,h1,h2,_⟩:=p;exact bK PySem.W.kitx_tuple I.kIn ⟨o,h1,h2⟩ e (λz=>nomatch z) h
 | @dK a kvs ea =>
  cases (show u=Value.ref a from rx);obtain ⟨_,_,vs,_,p⟩:=(show dB X.prog X.w H s.heap a (.dK kvs) from I.hok a _ ea);obtain ⟨o,es,ep,h1,h2,_⟩:=p;exact bK PySem.W.kitx_dict I.kIn ⟨o,h1,h2.1⟩ e (λz=>nomatch z) h
 | @dT a kvs ea =>
  cases (show u=Value.ref a from rx);obtain ⟨_,_,xs,_,o,es,ep,h1,h2,_⟩:=(show dB X.prog X.w H s.heap a (.dT kvs) from I.hok a _ ea);exact bK PySem.W.kitx_dict I.kIn ⟨o,h1,h2.1⟩ e (λz=>nomatch z) h
 | @ins a C dx fs ea cl ha hn htk hm =>
  cases (show u=Value.ref a from rx);obtain ⟨mA,O,_⟩:=uE I.hok ea;obtain ⟨od,J,_⟩:=O.look;exact bK (PySem.W.kitx_own (cl.get _) cl.hd ha hn htk hm) I.kIn J e (λz=>nomatch z) h
end
structure hR (k:Nat) (A:Around):Prop where
 hd:A.handled=none
 dp:A.depth+3*k+5 < recursionLimit
 un:A.units+16*k+200 < cLine
theorem hR.mono {j k:Nat} {A:Around} (r:hR k A) (h:j<=k):hR j A:=⟨r.hd,by have:=r.dp;lia,by have:=r.un;lia⟩
theorem hR.deeper {k:Nat} {A:Around} (r:hR (k+1) A) (env:Env):hR k (A.deeper env) :=
 ⟨r.hd,by have:=r.dp;show A.depth+1+3*k+5 < _;lia,by have:=r.un;show A.units+3+16*k+200 < _;lia⟩
theorem wJ {A:Around} {C:Addr} {us:List Value} {kw:List (Str×Value)}:(A.under (.builtin "type.__call__" ⟨.ref C :: us,kw⟩)).depth=A.depth+1:=by
 first | rfl | simp [Around.under,Code.weight,Code.isCreation,Code.isGuard,Code.isCaller,Code.frames,Code.isFrame,guardIds]
theorem wI {A:Around} {C:Addr} {us:List Value} {kw:List (Str×Value)}:(A.under (.builtin "type.__call__" ⟨.ref C :: us,kw⟩)).units=A.units+1:=by
 first | rfl | simp [Around.under,Code.cUnits,Code.frames,Code.isFrame]
theorem hR.make {k:Nat} {A:Around} (r:hR (k+1) A) (C:Addr) (us:List Value) (kw:List (Str×Value)):hR k (A.under (.builtin "type.__call__" ⟨.ref C :: us,kw⟩)) :=
 ⟨r.hd,by have:=r.dp;rw[wJ];lia,by have:=r.un;rw[wI];lia⟩
theorem hR.depth {k:Nat} {A:Around} (r:hR k A):A.depth < recursionLimit:=by have:=r.dp;lia
theorem hR.units {k:Nat} {A:Around} (r:hR k A):A.units+64 < cLine:=by have:=r.un;lia
def qN:TA:=λ_ H Q=>Q [] H
def fu (ta:TE) (tr:TA):TA:=λσ H Q=>ta σ H λx H1=>tr σ H1 λxs H2=>Q (x :: xs) H2
section
variable {X:Cx} {e:Expr} {es:List Expr} {te:TE} {t:TA} {pos:Pos}
theorem ae:PA X [] qN:=λ_ _ _ _ H Q I h=>Calls.spliced_nil ⟨[],H,I,.nil,h⟩
theorem aa (ha:PE X e te) (hr:PA X es t) (hs:starEach (e :: es) X.env=(false,eval e X.env) :: starEach es X.env:=by rfl):PA X (e :: es) (fu te t):=by
 intro pos pins s σ H Q I h;rw[hs];show wpAny _ _ (spliced ((false,eval e X.env) :: backTo pos (starEach es X.env))) _ _ s
 refine Calls.spliced_cons (dz (ha pins s σ H _ I h) λu s1 ⟨x,H1,I1,r1,q1⟩=>?_);exact dz (hr pos pins s1 σ H1 _ I1 q1) λus s2 ⟨xs,H2,I2,r2,q2⟩=>⟨x :: xs,H2,I2,.cons r1 r2,q2⟩
def En (t:TA):TE:=λσ H Q=>t σ H λxs H1=>xs.length<=sizeLine/\∀p,H1 p=none->Q (.ref p) (upd H1 p (.tup xs))
def Ey (t:TA):TE:=λσ H Q=>t σ H λxs H1=>xs.length<=sizeLine/\∀p,H1 p=none->Q (.ref p) (upd H1 p (.lst xs))
theorem cn {x1} (h:PA X es t):PE X (.Tuple es x1 pos) (En t):=by
 intro pins s σ H Q I hq;refine wpAny_Tuple_spliced (dz (h pos pins s σ H _ I hq) λus s1 ⟨xs,H1,I1,r,z,q⟩=>⟨by rw[<- r.length];exact z,?_⟩);have hf:H1 s1.heap.objs.size=none:=I1.hok.fresh (ax _);refine ⟨.ref s1.heap.objs.size,upd H1 s1.heap.objs.size (.tup xs),I1.laid (t':=s1.toks) (λb u e=>Heap.get?_push_of_some _ e) (ax _) ?_,rfl,q _ hf⟩;exact ⟨z,us,r,⟨_,Heap.get?_push_size _ rfl,rfl,_,rfl⟩⟩
theorem c9 (h:PA X es t):PE X (.List es pos) (Ey t):=by
 intro pins s σ H Q I hq;refine wpAny_List_spliced (dz (h pos pins s σ H _ I hq) λus s1 ⟨xs,H1,I1,r,z,q⟩=>⟨by rw[<- r.length];exact z,?_⟩);have hf:H1 s1.heap.objs.size=none:=I1.hok.fresh (ax _);refine ⟨.ref s1.heap.objs.size,upd H1 s1.heap.objs.size (.lst xs),I1.laid (t':=s1.toks) (λb u e=>Heap.get?_push_of_some _ e) (ax _) ?_,rfl,q _ hf⟩;exact ⟨z,us,0,r,Heap.get?_push_size _ rfl⟩
end
abbrev Sp:=List V->Hp->VK->XK->Prop
abbrev vY:=List Env->Hp->Shared->XK->Value->Shared->Prop
structure xf (P:Program) (w:World) (K:FG9) (mg:Str->Option Value) (base:Heap) (A:Around) (outer:List Env) (s:Shared) (H:Hp):Prop where
 frames:A.frames=some outer
 mod:Mod K mg base
 bs:∀b o,base.get? b=some o->s.heap.get? b=some o/\H b=none
 bsz:base.objs.size<=s.heap.objs.size
 funs:s.heap.FunFrames base outer
 frf:∀b∈jd outer,H b=none
 hok:oH P w H s.heap
 bare:AllBare s.gens
def CE (outer:List Env) (P:Program) (w:World) (H:Hp) (s:Shared) (Q:VK) (u:Value) (s':Shared):Prop :=
 ∃v H',s'.os=s.os/\AllBare s'.gens/\Un (jd outer) [] H H' s.heap s'.heap/\oH P w H' s'.heap/\RelV v u/\Q v H'
def CR (CX:vY) (outer:List Env) (P:Program) (w:World) (H:Hp) (s:Shared) (Q:VK) (E:XK) (r:Result) (s':Shared):Prop :=
 match r with
 | .ok (.ret u)=>CE outer P w H s Q u s'
 | .ok _=>False
 | .error e=>CX outer H s E e s'
structure ck (P:Program) (w:World) (K:FG9) (mg:Str->Option Value) (base:Heap) (CX:vY) (k:Nat) (f:Addr) (fd:FuncData) (ps:List Str) (sp:Sp):Prop where
 len:∀vs H Q E,sp vs H Q E->vs.length=ps.length
 run:∀(A:Around) (outer:List Env) (s:Shared) (H:Hp) (args:Args) (us:List Value) (vs:List V) (Q:VK) (E:XK),hR k A->xf P w K mg base A outer s H->BindsTo s fd args (ps.zip us)->bO vs us->sp vs H Q E →
  codeAny (model P w) A (.call (.ref f) args) (CR CX outer P w H s Q E) s
theorem xf.make {P:Program} {w:World} {K:FG9} {mg:Str->Option Value} {base:Heap} {A:Around} {outer:List Env} {s:Shared} {H:Hp} (e:xf P w K mg base A outer s H) (C:Addr) (us:List Value) (kw:List (Str×Value)) :
  xf P w K mg base (A.under (.builtin "type.__call__" ⟨.ref C :: us,kw⟩)) outer s H:=⟨by first | exact e.frames | (simpa [Around.under,Code.envs,Code.isFrame,pushEnvs] using e.frames),e.mod,e.bs,e.bsz,e.funs,e.frf,e.hok,e.bare⟩
section
variable {X:Cx} {pins:List (Addr×Obj)} {σ:St} {H:Hp} {s s':Shared}
theorem Inv.env0 (I:Inv X pins σ H s):xf X.prog X.w X.K X.mg X.base X.A X.stack s H :=
 ⟨I.ok.frames,I.ok.mod,I.bs,ar I.ok.bsz I.sz,I.stack,I.stkFree,I.hok,I.bare⟩
theorem Inv.after {Q:VK} {u:Value} (I:Inv X pins σ H s) (h:CE X.stack X.prog X.w H s Q u s'):EP X pins σ Q u s':=by
 obtain ⟨v,H',os,bare,un,hok,r,q⟩:=h;obtain ⟨hh,g,d,t,os'⟩:=s';obtain rfl:os'=s.os:=os;exact ⟨v,H',I.call (h':=hh) (g':=g) (d':=d) (t':=t) (ch:=[]) un hok bare (λb z=>absurd z (by simp)),r,q⟩
end
def za (sp:Sp) (dvs:List V) (E:XK) (t:TA):TE:=λσ H Q=>t σ H λvs H1=>sp (vs++dvs) H1 Q E
def Ci (C:Addr) (sp:Sp) (dvs:List V) (E:XK) (t:TA):TE:=λσ H Q=>t σ H λvs H1=>∀x dx,H1 x=none->H1 dx=none->dx≠x →
 sp (.ref x :: (vs++dvs)) (upd (upd H1 dx (.own x)) x (.ins C dx [])) (λv H2=>v=.non/\Q (.ref x) H2) E
def Binds (K:FG9) (fd:FuncData) (ps:List Str) (ds:List Value):Prop :=
 ∀(s:Shared) (us:List Value),K.In s.heap->(us++ds).length=ps.length->BindsTo s fd ⟨us,[]⟩ (ps.zip (us++ds))
theorem Binds.all {K:FG9} {fd:FuncData} {ps:List Str} (h:∀us:List Value,us.length=ps.length->bindArgs fd ⟨us,[]⟩=pure (ps.zip us)):Binds K fd ps []:=λs us _ hl=>by
 rw[dS] at hl ⊢;exact .of_eq (h us hl)
def nJ (CX:vY) (X:Cx) (E:XK):Prop:=∀(pins:List (Addr×Obj)) (σ:St) (H:Hp) (s:Shared) (e:Value) (s':Shared),Inv X pins σ H s->CX X.stack H s E e s'->X.xe e s'
section
variable {X:Cx} {CX:vY} {k:Nat} {f C:Addr} {fd:FuncData} {ps:List Str} {sp:Sp} {dvs:List V} {ds:List Value} {E:XK} {x m:Str} {p pos apos:Pos} {e o:Expr} {es:List Expr} {ta:TE} {t:TA}
theorem C8 {pins:List (Addr×Obj)} {σ:St} {H:Hp} {s:Shared} {Q:VK} {us:List Value} {vs:List V} (F:ck X.prog X.w X.K X.mg X.base CX k f fd ps sp) (hr:hR k X.A) (hb:Binds X.K fd ps ds) (hd:bO dvs ds) (hx:nJ CX X E)
  (I:Inv X pins σ H s) (r:bO vs us) (h:sp (vs++dvs) H Q E):wpAny (model X.prog X.w) X.A (call (.ref f) us) (EP X pins σ Q) X.xe s:=by
 have r2:bO (vs++dvs) (us++ds):=r.append hd;have hl:(us++ds).length=ps.length:=by rw[<- r2.length];exact F.len _ _ _ _ h
 refine wpAny_call (codeAny_mono (F.run X.A X.stack s H ⟨us,[]⟩ (us++ds) (vs++dvs) Q E hr I.env0 (hb s us I.kIn hl) r2 h) λr s' hq=>?_);cases r with
 | error e=>exact hx pins σ H s e s' I hq
 | ok fl =>
  cases fl with
  | ret u=>exact I.after hq
  | next=>exact False.elim hq
  | brk=>exact False.elim hq
  | cont=>exact False.elim hq
theorem dX (F:ck X.prog X.w X.K X.mg X.base CX k f fd ps sp) (hr:hR k X.A) (hg:Gl X x) (hm:X.mg x=some (.ref f)) (hk:PySem.W.keepIn X.K (.ref f)=true) (hb:Binds X.K fd ps ds) (hd:bO dvs ds) (hx:nJ CX X E)
  (ha:PA X (e :: es) t) (hdb:(x == ("__debug__":Str))=false:=by decide) (he:starEach (e :: es) X.env=(false,eval e X.env) :: starEach es X.env:=by rfl) (hpl:(backTo pos (starEach es X.env)).any (·.1)=false:=by rfl) :
  PE X (.Call (.Name x p) (e :: es) [] pos) (za sp dvs E t):=by
 intro pins s σ H Q I h;refine wpAny_Call_Name_kw (n6 I hg hm ?_ hdb);refine v3 (h₀:=X.base) I.ok.mod.kin hk (dz (ha pos pins s σ H _ I h) λus s1 ⟨vs,H1,I1,r,q⟩=>⟨I1.kIn,?_⟩) he hpl;exact C8 F hr hb hd hx I1 r q
structure Mk (K:FG9) (C f:Addr):Prop where
 makes:PySem.W.makesIn K C=true
 init:PySem.W.findIn K (.ref C) "__init__"=some (some (.ref f))
 fn:PySem.W.isFn K (.ref f)=true
 kp:PySem.W.keepIn K (.ref C)=true
theorem zL {pins:List (Addr×Obj)} {σ:St} {H:Hp} {s:Shared} {Q:VK} {us:List Value} {vs:List V} (M:Mk X.K C f) (F:ck X.prog X.w X.K X.mg X.base CX k f fd ps sp) (hr:hR (k+1) X.A) (hb:Binds X.K fd ps ds) (hd:bO dvs ds)
  (hx:nJ CX X E) (I:Inv X pins σ H s) (r:bO vs us)
  (h:∀x dx,H x=none->H dx=none->dx≠x->sp (.ref x :: (vs++dvs)) (upd (upd H dx (.own x)) x (.ins C dx [])) (λv H2=>v=.non/\Q (.ref x) H2) E) :
  wpAny (model X.prog X.w) X.A (call (.ref C) us) (EP X pins σ Q) X.xe s:=by
 have hq:=h (s.heap.objs.size+1) s.heap.objs.size (I.hok.fresh (kB _)) (I.hok.fresh (ax _)) (bq (gQ _));have I2:=Inv.made (C:=C) I;have r2:bO (V.ref (s.heap.objs.size+1) :: (vs++dvs)) (Value.ref (s.heap.objs.size+1) :: (us++ds)):=.cons rfl (r.append hd)
 have hl:(Value.ref (s.heap.objs.size+1) :: us++ds).length=ps.length:=by
  have e:=r2.length;rw[F.len _ _ _ _ hq] at e;exact e.symm
 refine wpAny_call (z8 (f:=f) I.kIn M.makes M.init (beq_iff_eq.mp M.fn) (codeAny_mono (F.run _ X.stack _ _ ⟨Value.ref (s.heap.objs.size+1) :: us,[]⟩ (Value.ref (s.heap.objs.size+1) :: (us++ds)) _ _ E (hr.make C us [])
  (I2.env0.make C us []) (hb _ (Value.ref (s.heap.objs.size+1) :: us) I2.kIn hl) r2 hq) λr s' hq'=>?_))
 cases r with
 | error e=>exact hx pins σ _ _ e s' I2 hq'
 | ok fl =>
  cases fl with
  | ret u =>
   obtain ⟨v,H',I3,rv,ev,q3⟩:=I2.after hq';subst ev;exact ⟨rv,⟨V.ref (s.heap.objs.size+1),H',I3,rfl,q3⟩⟩
  | next=>exact False.elim hq'
  | brk=>exact False.elim hq'
  | cont=>exact False.elim hq'
theorem Bu (M:Mk X.K C f) (F:ck X.prog X.w X.K X.mg X.base CX k f fd ps sp) (hr:hR (k+1) X.A) (hg:Gl X x) (hm:X.mg x=some (.ref C)) (hb:Binds X.K fd ps ds) (hd:bO dvs ds) (hx:nJ CX X E)
  (ha:PA X (e :: es) t) (hdb:(x == ("__debug__":Str))=false:=by decide) (he:starEach (e :: es) X.env=(false,eval e X.env) :: starEach es X.env:=by rfl) (hpl:(backTo pos (starEach es X.env)).any (·.1)=false:=by rfl) :
  PE X (.Call (.Name x p) (e :: es) [] pos) (Ci C sp dvs E t):=by
 intro pins s σ H Q I h;refine wpAny_Call_Name_kw (n6 I hg hm ?_ hdb);refine v3 (h₀:=X.base) I.ok.mod.kin M.kp (dz (ha pos pins s σ H _ I h) λus s1 ⟨vs,H1,I1,r,q⟩=>⟨I1.kIn,?_⟩) he hpl;exact zL M F hr hb hd hx I1 r q
end
structure a8 (N P:List Str) (sc:Scope):Prop where
 kind:sc.kind=.function
 co:sc.isCoroutine=false
 gen:sc.isGenerator=false
 nd:N.Nodup
 pre:N.take P.length=P
 par:∀x∈P,sc.names.lookup x=some .local\/sc.names.lookup x=some .cell
 nofree:∀y∈sc.names,y.2≠.free
theorem tS {kindOf:Str->Option NameKind} {x:Str}:∀{binds:List (Str×Value)} {m:Str->Option Value},(∀v,(x,v)∉binds)->bindL kindOf binds m x=m x
 | [],_,_=>rfl
 | (n,v) :: r,m,h=>by
  unfold bindL;rw[tS λw hw=>h w (ao _ hw)]
  split
  ·have:x≠n:=by rintro rfl;exact h v aE
   simp [this]
  ·rfl
theorem tU {kindOf:Str->Option NameKind} {x:Str}:∀{binds:List (Str×Value)} {m:Str->Option Value},(∀v,(x,v)∉binds)->bindC kindOf binds m x=m x
 | [],_,_=>rfl
 | (n,v) :: r,m,h=>by
  unfold bindC;rw[tU λw hw=>h w (ao _ hw)]
  split
  ·rfl
  ·have:x≠n:=by rintro rfl;exact h v aE
   simp [this]
theorem tT {kindOf:Str->Option NameKind} {x:Str} {v:Value}:∀{P:List Str} {vs:List Value} {i:Nat} {m:Str->Option Value},P.Nodup->P[i]?=some x->vs[i]?=some v->kindOf x=some .local →
  bindL kindOf (P.zip vs) m x=some v
 | [],_,_,_,_,h,_,_=>by simp at h
 | _ :: _,[],_,_,_,_,h,_=>by simp at h
 | p :: P,w :: vs,0,m,nd,h1,h2,hk=>by
  simp at h1 h2;subst h1;subst h2;show bindL kindOf ((p,w) :: P.zip vs) m p=_
  unfold bindL;rw[tS λv hv=>(cR.mp nd).1 (AG hv).1,if_pos hk];simp
 | p :: P,w :: vs,i+1,m,nd,h1,h2,hk=>by
  show bindL kindOf ((p,w) :: P.zip vs) m x=_
  unfold bindL;exact tT (i:=i) (cR.mp nd).2 (by simpa using h1) (by simpa using h2) hk
theorem tV {kindOf:Str->Option NameKind} {x:Str} {v:Value}:∀{P:List Str} {vs:List Value} {i:Nat} {m:Str->Option Value},P.Nodup->P[i]?=some x->vs[i]?=some v->kindOf x≠some .local →
  bindC kindOf (P.zip vs) m x=some v
 | [],_,_,_,_,h,_,_=>by simp at h
 | _ :: _,[],_,_,_,_,h,_=>by simp at h
 | p :: P,w :: vs,0,m,nd,h1,h2,hk=>by
  simp at h1 h2;subst h1;subst h2;show bindC kindOf ((p,w) :: P.zip vs) m p=_
  unfold bindC;rw[tU λv hv=>(cR.mp nd).1 (AG hv).1,if_neg hk];simp
 | p :: P,w :: vs,i+1,m,nd,h1,h2,hk=>by
  show bindC kindOf ((p,w) :: P.zip vs) m x=_
  unfold bindC;exact tV (i:=i) (cR.mp nd).2 (by simpa using h1) (by simpa using h2) hk
def start (N:List Str) (vs:List V):St:=vs.map some++List.replicate (N.length - vs.length) none
def lF (CX:vY) (P:Program) (w:World) (K:FG9) (mg:Str->Option Value) (base:Heap) (N:List Str) (qual:Str) (scope:Scope) (f:Addr) (cd:Value) (A:Around) (outer:List Env) (s:Shared) (H:Hp) (E:XK):Cx where
 prog:=P
 w:=w
 K:=K
 mg:=mg
 base:=base
 A:=A.deeper (envOfC qual scope s.heap.objs.size f cd)
 N:=N
 s₀:=s
 H₀:=H
 env:=envOfC qual scope s.heap.objs.size f cd
 outer:=outer
 stack:=envOfC qual scope s.heap.objs.size f cd :: outer
 ex:=[]
 calm:=true
 fn:=λ_=>true
 pn:=[]
 xe:=λe s'=>wpAny (model P w) (A.deeper (envOfC qual scope s.heap.objs.size f cd)) (leaving (envOfC qual scope s.heap.objs.size f cd) e) (λ_ s''=>CX outer H s E e s'') (λe' s''=>CX outer H s E e' s'') s'
theorem vP {sc:Scope} {n:Nat} {x:Str} (h:sc.names.lookup x=some .cell):∃c,(cellsFrom n sc.names []).lookup x=some c:=by
 have q:=qG sc.names n [] (.inl h);exact oM.mp q
theorem yD {CX:vY} {P:Program} {w:World} {K:FG9} {mg:Str->Option Value} {base:Heap} {N ps:List Str} {qual:Str} {scope:Scope} {f:Addr} {cd:Value} {A:Around} {outer:List Env} {s s1:Shared} {H:Hp} {E:XK} {us:List Value} {vs:List V}
  (S:a8 N ps scope) (hd:A.handled=none) (e0:xf P w K mg base A outer s H) (hl:vs.length=ps.length) (r:bO vs us)
  (x:InCallC s s.heap.objs.size (bindL (envOfC qual scope s.heap.objs.size f cd).kindOf (ps.zip us) λ_=>none) (cellsFrom (s.heap.objs.size+1) scope.names []) (bindC (envOfC qual scope s.heap.objs.size f cd).kindOf (ps.zip us) λ_=>none) s1) :
  Inv (lF CX P w K mg base N qual scope f cd A outer s H E) [] (start N vs) H s1:=by
 have hpl:ps.length<=N.length:=by have:=congrArg List.length S.pre;rw[dA] at this;lia
 obtain ⟨h1,tk,rfl,hk⟩:=x.done;have noA:∀b:Addr,b∉(lF CX P w K mg base N qual scope f cd A outer s H E).ex:=λb z=>absurd (show b∈([]:List Addr) from z) (by simp)
 refine ⟨⟨e0.mod,S.kind,rfl,rfl,ax _,λy z c h1 h2=>?_,λy hy=>?_,λy c _ h=>?_,λ_=>hd,Around.frames_deeper e0.frames,.inr ⟨rfl,rfl⟩,λb z=>absurd z (noA b),e0.bs,e0.bsz,λb _ _=>noA b,λb z=>absurd z (noA b),e0.funs,e0.frf⟩,
  rfl,e0.bare,Un.kept hk,⟨_,x.toInCall.ns,λi y v h1 h2 h3=>?_⟩,λy c h=>⟨_,x.cell y c h⟩,e0.hok.fresh (ax _),λy c h=>?_,λp hp=>absurd (show p∈([]:List (Addr×Obj)) from hp) (by simp),e0.hok.kept hk,?_⟩
 ·exact name_of_addr x.apart (ie h1) (ie h2)
 ·have hy:scope.names.lookup y=some .cell\/scope.names.lookup y=some .free:=hy;rcases hy with hy | hy
  ·exact vP hy
  ·exact absurd rfl (S.nofree _ (ie hy))
 ·exact bR (x.above y c (ie h))
 ·have hi:i < vs.length:=by
   unfold start at h2;by_cases hi:i < vs.length
   ·exact hi
   ·rw[dC (by simpa using hi)] at h2;rw[qj] at h2
    split at h2 <;> cases h2
  have ha:vs[i]?=some v:=by
   unfold start at h2;rw[dP (by simpa using hi),bH] at h2;cases e:vs[i]? with
   | none=>rw[e] at h2;cases h2
   | some a=>rw[e] at h2;cases h2;rfl
  obtain ⟨u,hu,rv⟩:=r.get ha
  have hp:ps[i]?=some y:=by
   rw[<- S.pre,List.getElem?_take_of_lt (by lia)];exact h1
  have ndP:ps.Nodup:=by rw[<- S.pre];exact S.nd.sublist (List.take_sublist _ _)
  refine ⟨u,rv,?_⟩;rcases S.par y (au hp) with k | k
  ·exact .inl ⟨k,tT ndP hp hu k⟩
  ·obtain ⟨c,e⟩:=vP (n:=s.heap.objs.size+1) k;refine .inr ⟨.inl k,c,e,?_⟩;have q:=x.cell y c e;rw[tV ndP hp hu (by show scope.names.lookup y≠_;rw[k];decide)] at q;exact q
 ·exact e0.hok.fresh (bR (x.above y c (ie h)))
 ·unfold start;show _=N.length
  rw[ai,ay,dG]
  lia
theorem CF {CX:vY} {P:Program} {w:World} {K:FG9} {mg:Str->Option Value} {base:Heap} {k:Nat} {f:Addr} {name qual:Str} {params:Arguments} {body:List Stmt} {scope:Scope} {dV kV doc pm cdv ct oc:Value} {an od:Option Addr}
  {osl:Array (Option Value)} {N ps:List Str} {sp:Sp} (lk:K.lookup f=some ⟨oc,od,.func (PySem.W.fnOf name qual params body scope dV kV doc pm an cdv ct),osl⟩) (hcd:PySem.W.codeIn K cdv qual=true) (S:a8 N ps scope)
  (len:∀vs H Q E,sp vs H Q E->vs.length=ps.length)
  (hbody:∀(A:Around) (outer:List Env) (s:Shared) (H:Hp) (vs:List V) (Q:VK) (E:XK),hR k (A.deeper (envOfC qual scope s.heap.objs.size f cdv))->sp vs H Q E →
   ∃t,uR (lF CX P w K mg base N qual scope f cdv A outer s H E) body t/\t { nx:=λ_ H'=>Q .non H',rt:=Q } (start N vs) H) :
  ck P w K mg base CX (k+1) f (PySem.W.fnOf name qual params body scope dV kV doc pm an cdv ct) ps sp:=by
 refine ⟨len,λA outer s H args us vs Q E hr e0 hb r hsp=>?_⟩;have hl:=len _ _ _ _ hsp;have KX:K.In s.heap:=e0.mod.kin.keeps λb o e=>(e0.bs b o e).1
 have lim:s.heap.NoLimit:=e0.mod.nolimit.keeps λb o e=>(e0.bs b o e).1
 have hkind:∀y∈ps.zip us,scope.names.lookup y.1=some .local\/(scope.names.lookup y.1=some .cell/\((cellsFrom (s.heap.objs.size+1) scope.names []).lookup y.1).isSome=true):=λ⟨n,v⟩ hy=>by
  rcases S.par n (AG hy).1 with q | q
  ·exact .inl q
  ·exact .inr ⟨q,qG _ _ _ (.inl q)⟩
 refine codeAny_call_function hr.depth (KX _ _ lk) rfl S.co S.gen rfl (PySem.W.codeRec_of KX hcd) (hb _ _ _ _ ?_);refine wpAny_newFunctionEnv_cells S.kind hkind λenv he s1 x=>?_
 subst he;refine ⟨lim.keeps x.toInCall.keep,codeAny_func ?_⟩;obtain ⟨t,ht,hq⟩:=hbody A outer s H vs Q E (hr.deeper _) hsp;have I:Inv (lF CX P w K mg base N qual scope f cdv A outer s H E) [] (start N vs) H s1:=yD S hr.hd e0 hl r x;refine wpAny_mono (ht [] s1 (start N vs) H _ I hq) (λfl s' hs=>?_) λe s' hs=>hs
 have fin:∀{σ':St} {H':Hp} {v:V} {u:Value},Inv (lF CX P w K mg base N qual scope f cdv A outer s H E) [] σ' H' s'->RelV v u->Q v H'->CE outer P w H s Q u s' :=
  λ{σ' H' v u} J rv q=>⟨v,H',J.os,J.bare,J.base,J.hok,rv,q⟩
 cases fl with
 | ret u =>
  obtain ⟨v,σ',H',J,rv,q⟩:=hs;exact fin J rv q
 | next =>
  obtain ⟨σ',H',J,q⟩:=hs;exact fin (v:=V.non) (u:=Value.none) J rfl q
 | brk =>
  obtain ⟨_,_,_,q⟩:=hs;exact False.elim q
 | cont =>
  obtain ⟨_,_,_,q⟩:=hs;exact False.elim q
section
variable {X:Cx} {x:Str} {p pos:Pos} {e:Expr} {es:List Expr} {t:TA} {id T:String} {r:List V->Hp->VK->Prop}
def FC (r:List V->Hp->VK->Prop) (t:TA):TE:=λσ H Q=>t σ H λvs H1=>r vs H1 Q
theorem a5 (hc:jY X (.builtin id) r) (hg:Gl X x) (hm:X.mg x=none) (hv:bootBuiltins x=some (.builtin id)) (ha:PA X (e :: es) t) (hn:x≠"__name__":=by decide) (hdb:(x == ("__debug__":Str))=false:=by decide)
  (he:starEach (e :: es) X.env=(false,eval e X.env) :: starEach es X.env:=by rfl) (hpl:(backTo pos (starEach es X.env)).any (·.1)=false:=by rfl):PE X (.Call (.Name x p) (e :: es) [] pos) (FC r t):=by
 intro pins s σ H Q I h;refine wpAny_Call_Name_kw (jJ I hg hm hv ?_ hn hdb);exact PyProof.Rows.callWith_builtin1 (dz (ha pos pins s σ H _ I h) λus s1 ⟨vs,H1,I1,r1,q1⟩=>hc pins s1 σ H1 vs us Q I1 r1 q1) he hpl
theorem b5 (hc:jY X (.type T) r) (hg:Gl X x) (hm:X.mg x=none) (hv:bootBuiltins x=some (.type T)) (ha:PA X (e :: es) t) (hn:x≠"__name__":=by decide) (hdb:(x == ("__debug__":Str))=false:=by decide)
  (he:starEach (e :: es) X.env=(false,eval e X.env) :: starEach es X.env:=by rfl) (hpl:(backTo pos (starEach es X.env)).any (·.1)=false:=by rfl):PE X (.Call (.Name x p) (e :: es) [] pos) (FC r t):=by
 intro pins s σ H Q I h;refine wpAny_Call_Name_kw (jJ I hg hm hv ?_ hn hdb);exact PyProof.Rows.callWith_type1 (dz (ha pos pins s σ H _ I h) λus s1 ⟨vs,H1,I1,r1,q1⟩=>hc pins s1 σ H1 vs us Q I1 r1 q1) he hpl
end
end L2
namespace HT
open PySem PyProof.Rows
section
open PySem.SeqAt
open PySem.AutoSeq1 (wpAny_loadPart')
open PySem.MeetsSeq PySem.MeetsSeq2 PySem.MeetsSeq3
end
section
variable {prog:Program} {w:World} {A:Around} {E:Value->Shared->Prop} {s:Shared}
def oK (n d:Nat):Option Int->Nat
 | none=>d
 | some v=>if v < 0 then (v+(n:Int)).toNat else min v.toNat n
theorem zJ (n d:Nat):oK n d none=d:=rfl
theorem lR (n d k:Nat):oK n d (some (k:Int))=min k n:=by
 show (if (k:Int) < 0 then ((k:Int)+(n:Int)).toNat else min (k:Int).toNat n)=min k n
 rw[if_neg (by lia),oJ]
end
end HT
namespace L2
open PySem PySem.Spec PyProof.Rows
abbrev TO:=St->Hp->(Option Int->Hp->Prop)->Prop
def PO (X:Cx) (e:Option Expr) (t:TO):Prop :=
 ∀(pins:List (Addr×Obj)) (s:Shared) (σ:St) (H:Hp) (Q:Option Int->Hp->Prop),Inv X pins σ H s->t σ H Q →
  wpAny (model X.prog X.w) X.A (evalPart e X.env) (λu s'=>∃o H',Inv X pins σ H' s'/\IsPart u o/\Q o H') X.xe s
def xh:TO:=λ_ H Q=>Q none H
def Ce (t:TE):TO:=λσ H Q=>t σ H λx H1=>∃i,x=.int i/\Q (some i) H1
section
variable {X:Cx} {e:Expr} {te:TE} {lo hi:Option Expr} {tl th:TO} {pos p2:Pos}
theorem fc:PO X none xh:=by
 intro pins s σ H Q I h;rw[evalPart_none];exact wpAny_pure ⟨none,H,I,.none,h⟩
theorem b6 (h:PE X e te):PO X (some e) (Ce te):=by
 intro pins s σ H Q I hw;rw[evalPart_some];refine dz (h pins s σ H _ I hw) λu s1 ⟨x,H1,I1,r1,q1⟩=>?_
 obtain ⟨i,rfl,q⟩:=q1;obtain ⟨t,rfl⟩:=r1;exact ⟨some i,H1,I1,.int i t,q⟩
def Fx (X:Cx) (r:V->Option Int->Option Int->Hp->VK->Prop):Prop :=
 ∀(pins:List (Addr×Obj)) (s:Shared) (σ:St) (H:Hp) (x:V) (v vl vu:Value) (lo hi:Option Int) (sl:Addr) (Q:VK),Inv X pins σ H s->RelV x v->s.heap.IsSliceOf sl vl vu .none->IsPart vl lo->IsPart vu hi->r x lo hi H Q →
  ∃T id,typeLookup (.type T) "__getitem__"=pure (some (.builtin id))/\s.TypeIs v T/\wpAny (model X.prog X.w) X.A (getItem v (.ref sl)) (EP X pins σ Q) X.xe s
def tSl (r:V->Option Int->Option Int->Hp->VK->Prop) (te:TE) (tl th:TO):TE:=λσ H Q=>te σ H λx H1=>tl σ H1 λl H2=>th σ H2 λu H3=>r x l u H3 Q
theorem cu {r:V->Option Int->Option Int->Hp->VK->Prop} (hr:Fx X r) (he:PE X e te) (hl:PO X lo tl) (hu:PO X hi th):PE X (.Subscript e (.Slice lo hi none p2) pos) (tSl r te tl th):=by
 intro pins s σ H Q I h;refine Subscript_ (dz (he pins s σ H _ I h) λv s1 ⟨x,H1,I1,r1,q1⟩=>?_);refine wpAny_Slice (dz (hl pins s1 σ H1 _ I1 q1) λvl s2 ⟨l,H2,I2,pl,q2⟩=>dz (hu pins s2 σ H2 _ I2 q2) λvu s3 ⟨u,H3,I3,pu,q3⟩=>?_);rw[evalPart_none];refine wpAny_pure ?_;have I4:Inv X pins σ H3 { s3 with heap:=s3.heap.push { cls:=.type "slice",data:=.fields #[vl,vu,.none] } }:=I3.kept (t':=s3.toks) λb ob q=>Heap.get?_push_of_some _ q
 obtain ⟨T,id,hT,ht,hg⟩:=hr pins { s3 with heap:=s3.heap.push { cls:=.type "slice",data:=.fields #[vl,vu,.none] } } σ H3 x v vl vu l u s3.heap.objs.size Q I4 r1 (Heap.IsSliceOf.new ..) pl pu q3;show wpAny (model X.prog X.w) X.A (subscriptTail e (.Slice lo hi none p2) v (.ref s3.heap.objs.size)) (EP X pins σ Q) X.xe { s3 with heap:=s3.heap.push { cls:=.type "slice",data:=.fields #[vl,vu,.none] } }
 exact tail_any (ops:=[.ref s3.heap.objs.size,v]) ht hT hg (by with_unfolding_all rfl)
def mi (xs:List V) (lo hi:Option Int):List V:=(xs.drop (HT.oK xs.length 0 lo)).take (HT.oK xs.length xs.length hi - HT.oK xs.length 0 lo)
theorem pY (xs:List V) (lo hi:Option Int):(mi xs lo hi).length<=xs.length:=by
 unfold mi;rw[dA,bu]
 lia
end
def AB (n:Nat) (i:Int):Option Nat:=if 0<=i then (if i < n then some i.toNat else none) else if -(n:Int)<=i then some (i+n).toNat else none
def yN {α:Type} (xs:List α) (i:Int):Option α:=(AB xs.length i).bind λj=>xs[j]?
theorem xG {n:Nat} {i:Int} {j:Nat} (h:AB n i=some j):seqIndex? i n=some j/\j < n/\-(n:Int)<=i/\i < n:=by
 unfold AB at h;by_cases h0:0<=i
 ·rw[if_pos h0] at h;by_cases h1:i < n
  ·rw[if_pos h1] at h;have e:i.toNat=j:=aQ h;exact ⟨by rw[seqIndex_of h0 h1,e],by lia,by lia,h1⟩
  ·rw[if_neg h1] at h;cases h
 ·rw[if_neg h0] at h;by_cases h1:-(n:Int)<=i
  ·rw[if_pos h1] at h;have e:(i+n).toNat=j:=aQ h;exact ⟨by rw[seqIndex_neg (by lia) h1,e],by lia,h1,by lia⟩
  ·rw[if_neg h1] at h;cases h
theorem qF {α:Type} {xs:List α} {i:Int} {v:α} (h:yN xs i=some v):∃j,seqIndex? i xs.length=some j/\xs[j]?=some v/\j < xs.length/\-(xs.length:Int)<=i/\i < xs.length:=by
 unfold yN at h;cases e:AB xs.length i with
 | none=>rw[e] at h;cases h
 | some j =>
  rw[e] at h;obtain ⟨h1,h2,h3,h4⟩:=xG e;exact ⟨j,h1,h,h2,h3,h4⟩
theorem c6 {α:Type} {xs:List α} {j:Nat} {v:α} (h:xs[j]?=some v):yN xs (j:Int)=some v:=by
 have hj:j < xs.length:=(aK.mp h).1
 have e:AB xs.length (j:Int)=some j:=by
  unfold AB;rw[if_pos (by lia),if_pos (by lia)];simp
 unfold yN;rw[e];exact h
def BY (b:Expr):Prop:=∀o i,subscripted b false o i=operate [o,i] (getItem o i)
def Fp (X:Cx) (r:R2):Prop :=
 ∀(value slice:Expr) (pins:List (Addr×Obj)) (s:Shared) (σ:St) (H:Hp) (x y:V) (v u:Value) (Q:VK),Inv X pins σ H s->RelV x v->RelV y u->r x y H Q →
  subscripted slice false v u=operate [v,u] (getItem v u)->wpAny (model X.prog X.w) X.A (subscriptTail value slice v u) (EP X pins σ Q) X.xe s
def MtR (X:Cx) (id:String) (r:V->List V->Hp->VK->Prop):Prop :=
 ∀(pins:List (Addr×Obj)) (s:Shared) (σ:St) (H:Hp) (x:V) (xs:List V) (v:Value) (us:List Value) (Q:VK),Inv X pins σ H s->RelV x v->bO xs us->r x xs H Q →
  wpAny (model X.prog X.w) X.A (call (.builtin id) (v :: us)) (EP X pins σ Q) X.xe s
section
variable {X:Cx} {a b:Expr} {ta tb:TE} {pos:Pos}
theorem a9 {r:R2} (hr:Fp X r) (ha:PE X a ta) (hb:PE X b tb) (hs:BY b:=by intro _ _;rfl):PE X (.Subscript a b pos) (Ew r ta tb):=by
 intro pins s σ H Q I h;exact Subscript_ (D5 ha hb I h λv u s2 x y H2 I2 rx ry q=>hr a b pins s2 σ H2 x y v u Q I2 rx ry q (hs _ _))
def Bp (K:FG9):R2:=λx y H Q=>∃p xs i v,x=.ref p/\y=.int i/\bD K H p xs/\yN xs i=some v/\Q v H
def EV (K:FG9):R2:=λx y H Q=>∃p xs i v,x=.ref p/\y=.int i/\i8 K H p xs/\yN xs i=some v/\Q v H
def EW:R2:=λx y H Q=>∃z i c,x=.str z/\y=.int i/\z.length<=sizeLine/\yN z.cps.toList i=some c/\Q (.str ⟨#[c]⟩) H
theorem bc:Fp X (Bp X.K):=by
 intro value slice pins s σ H x y v u Q I rx ry h hs;obtain ⟨p,xs,i,z,rfl,rfl,hq,he,q⟩:=h;cases rx;obtain ⟨t,rfl⟩:=ry;obtain ⟨its,r,pl,hz⟩:=I.list hq;obtain ⟨j,h1,h2,h3,h4,h5⟩:=qF he;obtain ⟨w,ew,rw'⟩:=r.get h2;have hl:=r.length;have hn:=nB;have fin:EP X pins σ Q w s:=⟨z,H,I,rw',q⟩;by_cases h0:0<=i
 ·have hj:i.toNat=j:=by
   rw[seqIndex_of h0 h5] at h1;exact aQ h1
  exact item_listR pl.isList h0 (by lia) (by rw[hj];simpa using ew) fin hs
 ·have hj:(i+(its.toArray.size:Int)).toNat=j:=by
   rw[seqIndex_neg (by lia) h4] at h1;rw[aw,<- hl];exact aQ h1
  exact subscriptTail_builtinR (x:=w) pl.isList.typeIs slot_list_getitem.lookup
   (wpAny_getItem_list_neg (Q:=λr s'=>r=w/\EP X pins σ Q r s') pl.isList (by lia) (by rw[aw] <;> lia) (by lia) (by rw[hj];simpa using ew) ⟨rfl,fin⟩) hs
theorem bN:Fp X (EV X.K):=by
 intro value slice pins s σ H x y v u Q I rx ry h hs;obtain ⟨p,xs,i,z,rfl,rfl,hq,he,q⟩:=h;cases rx;obtain ⟨t,rfl⟩:=ry;obtain ⟨its,r,pl,hz⟩:=I.tuple hq;obtain ⟨j,h1,h2,h3,h4,h5⟩:=qF he;obtain ⟨w,ew,rw'⟩:=r.get h2;have hl:=r.length;have hn:=nB;have fin:EP X pins σ Q w s:=⟨z,H,I,rw',q⟩
 exact subscriptTail_builtinR (x:=w) pl.typeIs slot_tuple_getitem.lookup
  (getItem_tuple (j:=j) (Q:=λr s'=>r=w/\EP X pins σ Q r s') pl (by lia) (by lia) (by rw[aw,<- hl];exact h1) (by simpa using ew) ⟨rfl,fin⟩) hs
theorem Ac:Fp X EW:=by
 intro value slice pins s σ H x y v u Q I rx ry h hs;obtain ⟨z,i,c,rfl,rfl,hz,he,q⟩:=h;obtain ⟨t,rfl⟩:=rx;obtain ⟨t',rfl⟩:=ry;obtain ⟨j,h1,h2,h3,h4,h5⟩:=qF he;have hl:z.cps.toList.length=z.length:=by simp [Str.length]
 rw[hl] at h1 h4 h5;have hn:=nB
 exact tail_any (typeIs_str s z t) slot_str_getitem.lookup (getItem_str (c:=c) (by
  have e1:decide (i < -(2^63:Int))=false:=decide_eq_false (by lia);have e2:decide (i ≥ 2^63)=false:=decide_eq_false (by lia);rw[e1,e2,Bool.or_false]) (by rw[h1];simpa using h2) ⟨.str ⟨#[c]⟩,H,I.tok _,⟨_,rfl⟩,q⟩) hs
theorem wH (its:List Value) (n j:Nat) (u:Value):Obj.mapSeq (·.setIfInBounds j u) { cls:=.type "list",data:=.seq its.toArray n }={ cls:=.type "list",data:=.seq (its.set j u).toArray n }:=by
 simp [Obj.mapSeq]
theorem Inv.lst {pins:List (Addr×Obj)} {σ:St} {H:Hp} {s:Shared} {p:Addr} {xs:List V} (I:Inv X pins σ H s) (h:H p=some (.lst xs)) :
  ∃(its:List Value) (n:Nat),bO xs its/\s.heap.get? p=some { cls:=.type "list",data:=.seq its.toArray n }/\xs.length<=sizeLine:=by
 obtain ⟨z,its,n,r,e⟩:=I.hok p _ h;exact ⟨its,n,r,e,z⟩
theorem Inv.lstUpd {pins:List (Addr×Obj)} {σ:St} {H:Hp} {s:Shared} {p:Addr} {xs ys:List V} {its its':List Value} {n n':Nat} {f:Obj->Obj} (I:Inv X pins σ H s) (h:H p=some (.lst xs))
  (ho:s.heap.get? p=some { cls:=.type "list",data:=.seq its.toArray n }) (hf:f { cls:=.type "list",data:=.seq its.toArray n }={ cls:=.type "list",data:=.seq its'.toArray n' }) (r:bO ys its') (hz:ys.length<=sizeLine) (t:Nat) :
  Inv X pins σ (upd H p (.lst ys)) { s with heap:=s.heap.update p f,toks:=t }:=by
 have e:(s.heap.update p f).get? p=some { cls:=.type "list",data:=.seq its'.toArray n' }:=by
  rw[Heap.get?_update_self f ho (by rw[hf] <;> rfl),hf]
 refine I.write (x:=p) (e:=p) (by rw[h];trivial) (.inl rfl) (λb u hb q=>(Heap.get?_update_other _ _ (Ne.symm hb)).trans q) ⟨_,e⟩ ?_;exact ⟨hz,its',n',r,e⟩
def Cp:V->V->V->Hp->(Hp->Prop)->Prop:=λo i v H Q=>∃p xs k j,o=.ref p/\i=.int k/\H p=some (.lst xs)/\AB xs.length k=some j/\Q (upd H p (.lst (xs.set j v)))
theorem set_list:D6 X Cp:=by
 intro pins s σ H o i v ov iv u Q I ro ri rv h;obtain ⟨p,xs,k,j,rfl,rfl,hp,hj,q⟩:=h;cases ro;obtain ⟨t,rfl⟩:=ri;obtain ⟨its,n,r,ho,hz⟩:=I.lst hp;obtain ⟨h1,h2,h3,h4⟩:=xG hj;have hl:=r.length;have hn:=nB
 have I':Inv X pins σ (upd H p (.lst (xs.set j v))) { s with heap:=s.heap.update p (Obj.mapSeq (·.setIfInBounds j u)) } :=
  I.lstUpd hp ho (wH its n j u) (r.set rv j) (by rw[AH];exact hz) s.toks
 by_cases h0:0<=k
 ·have hk:k.toNat=j:=by
   rw[seqIndex_of h0 h4] at h1;exact aQ h1
  exact PySem.W.ki_setAt ho h0 (by lia) (by rw[aw,<- hl];exact h4) (by rw[hk];exact ⟨_,I',q⟩)
 ·have hk:(k+(its.toArray.size:Int)).toNat=j:=by
   rw[seqIndex_neg (by lia) h3] at h1;rw[aw,<- hl];exact aQ h1
  exact PySem.W.ki_setBack ho (by lia) (by rw[aw,<- hl];exact h3) (by lia) (by rw[hk];exact ⟨_,I',q⟩)
theorem j6 (lo hi:Option Int) (n:Nat):(sliceBounds lo hi none n).1=((HT.oK n 0 lo:Nat):Int)/\(sliceBounds lo hi none n).2.1=((HT.oK n n hi:Nat):Int)/\(sliceBounds lo hi none n).2.2=1:=by
 refine ⟨?_,?_,rfl⟩
 ·cases lo with
  | none=>simp [sliceBounds,HT.oK]
  | some i =>
   simp only[sliceBounds,HT.oK,Option.getD_none,show (1:Int) > 0 by decide,if_true];by_cases h:i < 0
   ·simp only[h,if_true] <;> lia
   ·simp only[h,if_false] <;> lia
 ·cases hi with
  | none=>simp [sliceBounds,HT.oK]
  | some i =>
   simp only[sliceBounds,HT.oK,Option.getD_none,show (1:Int) > 0 by decide,if_true];by_cases h:i < 0
   ·simp only[h,if_true] <;> lia
   ·simp only[h,if_false] <;> lia
theorem sI (its:List Value) (lo hi:Option Int):slicePick its.toArray lo hi none=((its.drop (HT.oK its.length 0 lo)).take (HT.oK its.length its.length hi - HT.oK its.length 0 lo)).toArray:=by
 obtain ⟨h1,h2,h3⟩:=j6 lo hi its.toArray.size;unfold slicePick;rw[h1,h2,h3];simp only[sliceRange_one,pick_run,aw] <;> rfl
def DF (K:FG9):V->Option Int->Option Int->Hp->VK->Prop:=λx lo hi H Q=>∃a xs,x=.ref a/\bD K H a xs/\∀p,H p=none->Q (.ref p) (upd H p (.lst (mi xs lo hi)))
theorem je:Fx X (DF X.K):=by
 intro pins s σ H x v vl vu lo hi sl Q I rx hs pl pu h;obtain ⟨a,xs,rfl,hx,q⟩:=h;cases rx;obtain ⟨its,r,ht,hz⟩:=I.list hx;have hlen:=r.length;refine ⟨"list",_,slot_list_getitem.lookup,ht.isList.typeIs,?_⟩;refine wpAny_getItem_list_slice ht.isList hs pl pu .none (by simp) ?_ (by rw[aw] <;> lia);rw[sI,<- hlen];refine ⟨.ref s.heap.objs.size,_,I.laid (t':=s.toks) (o:=.lst (mi xs lo hi)) (λb ob q=>Heap.get?_push_of_some _ q) (ax _) ?_,rfl,q _ (I.hok.fresh (ax _))⟩;exact ⟨ar (pY xs lo hi) hz,_,0,(r.drop (HT.oK xs.length 0 lo)).take (HT.oK xs.length xs.length hi - HT.oK xs.length 0 lo),Heap.get?_push_size _ rfl⟩
theorem aW:jY X (.builtin "len") (λxs H Q=>∃p ys,xs=[.ref p]/\(bD X.K H p ys\/i8 X.K H p ys)/\Q (.int ys.length) H):=by
 intro pins s σ H xs us Q I r h;obtain ⟨p,ys,rfl,hq,q⟩:=h;obtain ⟨u,rfl,rx⟩:=vals1 r;cases rx;have hn:=nB;rcases hq with hq | hq
 ·obtain ⟨its,r',pl,hz⟩:=I.list hq;have hlen:=r'.length;exact Calls.call_len_list pl.isList (by simp only[aw] <;> lia) ⟨.int ys.length,H,I.tok _,⟨s.toks+1,by rw[aw,hlen]⟩,q⟩
 ·obtain ⟨its,r',pl,hz⟩:=I.tuple hq;have hlen:=r'.length;exact len_tuple pl (by simp only[aw] <;> lia) ⟨.int ys.length,H,I.tok _,⟨s.toks+1,by rw[aw,hlen]⟩,q⟩
theorem eN:jY X (.builtin "len") (λxs H Q=>∃z,xs=[.str z]/\z.length<=sizeLine/\Q (.int z.length) H):=by
 intro pins s σ H xs us Q I r h;obtain ⟨z,rfl,hz,q⟩:=h;obtain ⟨u,rfl,t,rfl⟩:=vals1 r;have hn:=nB;exact len_str (by lia) ⟨.int z.length,H,I.tok _,⟨_,rfl⟩,q⟩
theorem uN:jY X (.type "list") (λxs H Q=>∃p ys,xs=[.ref p]/\(bD X.K H p ys\/i8 X.K H p ys)/\∀l,H l=none->Q (.ref l) (upd H l (.lst ys))):=by
 intro pins s σ H xs us Q I r h;obtain ⟨p,ys,rfl,hq,q⟩:=h;obtain ⟨u,rfl,rx⟩:=vals1 r;cases rx
 have fin:∀(its:List Value),bO ys its->ys.length<=sizeLine->∀(h':Heap) (c':Nat),(∀b o',s.heap.get? b=some o'->h'.get? b=some o') →
   h'.get? s.heap.objs.size=some { cls:=.type "list",dict:=none,data:=.seq its.toArray c',slots:=#[] }->EP X pins σ Q (.ref s.heap.objs.size) { s with heap:=h' }:=λits r' hz h' c' kp e =>
  ⟨.ref s.heap.objs.size,_,I.laid (t':=s.toks) kp (ax _) (show dB X.prog X.w _ h' _ (.lst ys) from ⟨hz,its,c',r',e⟩),rfl,q _ (I.hok.fresh (ax _))⟩
 rcases hq with hq | hq
 ·obtain ⟨its,r',pl,hz⟩:=I.list hq;have hlen:=r'.length;obtain ⟨o,ho,hc,n,hd⟩:=pl.isList;exact call_list_seq p (.inl rfl) ho hc hd (λh' c' kp e=>fin its r' hz h' c' kp e) (by simp only[aw] <;> lia)
 ·obtain ⟨its,r',pl,hz⟩:=I.tuple hq;have hlen:=r'.length;obtain ⟨o,ho,hc,n,hd⟩:=pl;exact call_list_seq p (.inr rfl) ho hc hd (λh' c' kp e=>fin its r' hz h' c' kp e) (by simp only[aw] <;> lia)
def FA (K:FG9) (T:String) (x:V) (H:Hp):Prop:=match x with
 | .str _=>T="str"
 | .int _=>T="int"
 | .ref p=>(T="list"/\∃xs,bD K H p xs)\/(T="tuple"/\∃o,K.lookup p=some o/\o.cls=.type "tuple"/\o.dict=none) \/
   (T="dict"/\((∃kvs,H p=some (.dK kvs))\/∃kvs,H p=some (.dT kvs)))\/(T="set"/\∃S n,H p=some (.set S n))
 | _=>False
theorem CZ {pins:List (Addr×Obj)} {σ:St} {H:Hp} {s:Shared} {T:String} {x:V} {v:Value} (I:Inv X pins σ H s) (r:RelV x v) (ty:FA X.K T x H) :
  s.TypeIs v T/\∀a,v=.ref a->∃ob,s.heap.get? a=some ob/\ob.dict=none:=by
 cases x with
 | str z =>
  obtain ⟨t,rfl⟩:=r;cases (show T="str" from ty);exact ⟨typeIs_str s z t,λ_ e=>nomatch e⟩
 | int i =>
  obtain ⟨t,rfl⟩:=r;cases (show T="int" from ty);exact ⟨typeIs_int s i t,λ_ e=>nomatch e⟩
 | ref p =>
  cases r;rcases ty with ⟨rfl,xs,hq⟩ | ⟨rfl,o,hk,hc,hd⟩ | ⟨rfl,hk⟩ | ⟨rfl,S,n,hk⟩
  ·obtain ⟨its,_,pl,_⟩:=I.list hq;refine ⟨pl.isList.typeIs,λa e=>?_⟩;cases e;obtain ⟨o,n,e,c,hd,_⟩:=pl;exact ⟨o,e,hd⟩
  ·refine ⟨⟨o,I.kIn p o hk,hc⟩,λa e=>?_⟩;cases e;exact ⟨o,I.kIn _ o hk,hd⟩
  ·have z:∃o,s.heap.get? p=some o/\o.ExactDict:=by
    rcases hk with ⟨kvs,hk⟩ | ⟨kvs,hk⟩
    ·obtain ⟨_,_,_,_,o,_,_,e,ex,_⟩:=I.hok p _ hk;exact ⟨o,e,ex⟩
    ·obtain ⟨_,_,_,_,o,_,_,e,ex,_⟩:=I.hok p _ hk;exact ⟨o,e,ex⟩
   obtain ⟨o,e,ex⟩:=z;refine ⟨⟨o,e,ex.1⟩,λa e2=>?_⟩;cases e2;exact ⟨o,e,ex.2.1⟩
  ·obtain ⟨o,_,_,_,e,ex,_⟩:=I.hok p _ hk;refine ⟨⟨o,e,ex.1⟩,λa e2=>?_⟩;cases e2;exact ⟨o,e,ex.2.1⟩
 | _=>exact False.elim ty
def tBM (K:FG9) (T:String) (r:V->List V->Hp->VK->Prop) (to:TE) (t:TA):TE:=λσ H Q=>to σ H λx H1=>FA K T x H1/\t σ H1 λxs H2=>r x xs H2 Q
variable {o e:Expr} {es:List Expr} {to:TE} {t:TA} {name:Str} {apos cpos:Pos} {T id:String} {r:V->List V->Hp->VK->Prop}
theorem iO (pa:PlainAttrs T) (slot:Slot T name id) (hty:typeOf (.builtin id)=pure (.type "method_descriptor")) (hm:MtR X id r) (ho:PE X o to) (ha:PA X (e :: es) t)
  (hbase:attributeBase o name X.env (eval o X.env)=eval o X.env:=by rfl)
  (hfew:((backTo cpos (starEach (e :: es) X.env)).all (λx=>!x.1) && (backToKw cpos (keywordEach [] X.env)).all (λx=>x.1.isSome)
   && decide ((e :: es).length+([]:List Keyword).length+(if ([]:List Keyword).isEmpty then 0 else 1) < 30))=true:=by rfl)
  (hline:(apos.endLine == cpos.line)=true:=by rfl) (hs:starEach (e :: es) X.env=(false,eval e X.env) :: starEach es X.env:=by rfl) (hplain:(backTo cpos (starEach es X.env)).any (·.1)=false:=by rfl) :
  PE X (.Call (.Attribute o name apos) (e :: es) [] cpos) (tBM X.K T r to t):=by
 intro pins s σ H Q I h;refine wpAny_Call_method_late hbase hfew hline rfl (dz (ho pins s σ H _ I h) λv s1 ⟨x,H1,I1,r1,ty,q1⟩=>?_);obtain ⟨h1,h2⟩:=CZ I1 r1 ty;refine ⟨T,id,pa,slot,hty,h1,h2,?_⟩;have hA:=ha cpos pins s1 σ H1 _ I1 q1;rw[hs] at hA ⊢;refine Calls.callWith_builtin (by show (false || (backTo cpos (starEach es X.env)).any (·.1))=false;rw[hplain] <;> rfl) (Calls.evalArgs_plain ?_);exact dz hA λus s2 ⟨vs,H2,I2,r2,q2⟩=>hm pins s2 σ H2 x vs v us Q I2 r1 r2 q2
end
def D9 (X:Cx) (id:String) (r:V->List V->Hp->VK->Prop):Prop :=
 ∀(pins:List (Addr×Obj)) (s:Shared) (σ:St) (H:Hp) (x:V) (xs:List V) (v:Value) (us:List Value) (Q:VK),Inv X pins σ H s->RelV x v->bO xs us->r x xs H Q →
  wpAny (model X.prog X.w) X.A (call (.builtin id) (v :: us)) (EP X pins σ Q) X.xe s
theorem bO.one:∀{x:V} {us:List Value},bO [x] us->∃u,us=[u]/\RelV x u
 | _,_,.cons r .nil=>⟨_,rfl,r⟩
section
variable {X:Cx} {pins:List (Addr×Obj)} {σ:St} {H:Hp} {s:Shared} {l b:Addr} {xs ys zs:List V}
theorem Inv.lset {its its':List Value} {n:Nat} {f:Array Value->Array Value} {t':Nat} (I:Inv X pins σ H s) (hH:H l=some (.lst xs))
  (e:s.heap.get? l=some { cls:=.type "list",data:=.seq its.toArray n }) (hf:f its.toArray=its'.toArray) (hv:bO ys its') (hz:ys.length<=sizeLine) :
  Inv X pins σ (upd H l (.lst ys)) { s with heap:=s.heap.update l (Obj.mapSeq f),toks:=t' }:=by
 have q:=yR e f;rw[hf] at q;refine I.write (x:=l) (e:=l) (by rw[hH];exact trivial) (.inl rfl) (λb' u hb hu=>(Heap.get?_update_other s.heap (Obj.mapSeq f) (Ne.symm hb)).trans hu) ⟨_,q⟩ ?_;exact ⟨hz,its',_,hv,q⟩
theorem Inv.lnew {its:List Value} {t':Nat} (I:Inv X pins σ H s) (hv:bO ys its) (hz:ys.length<=sizeLine) :
  Inv X pins σ (upd H s.heap.objs.size (.lst ys)) { s with heap:=s.heap.push { cls:=.type "list",data:=.seq its.toArray },toks:=t' } :=
 I.laid (λ_ _ q=>Heap.get?_push_of_some _ q) (ax _) ⟨hz,its,0,hv,Heap.get?_push_size _ rfl⟩
theorem Inv.fresh (I:Inv X pins σ H s):H s.heap.objs.size=none:=I.hok.fresh (ax _)
theorem Inv.lstM (I:Inv X pins σ H s) (hH:H l=some (.lst xs)):xs.length<=sizeLine/\∃(its:List Value) (n:Nat),bO xs its/\xs.length=its.length/\s.heap.get? l=some { cls:=.type "list",data:=.seq its.toArray n }:=by
 obtain ⟨z,its,n,r,e⟩:=I.hok l _ hH;exact ⟨z,its,n,r,r.length,e⟩
theorem z6 {n:Nat} (h:n<=sizeLine):Builtin.List.listTooLong n=false:=by
 unfold Builtin.List.listTooLong;exact decide_eq_false (by lia)
end
section
variable {X:Cx}
def xu:V->List V->Hp->VK->Prop:=λx vs H Q=>∃l xs y,x=.ref l/\vs=[y]/\H l=some (.lst xs)/\xs.length < sizeLine/\Q .non (upd H l (.lst (xs++[y])))
theorem lU:D9 X "list.append" xu:=by
 intro pins s σ H x vs v us Q I rx rv h;obtain ⟨l,xs,y,rfl,rfl,hH,hz,q⟩:=h;cases rx;obtain ⟨u,rfl,ru⟩:=rv.one;obtain ⟨z,its,n,r,hl,e⟩:=I.lstM hH;refine call_meets F.slot_list_append ⟨_,e,rfl⟩ F.entry_list_append (F.args_list_append_2 _ _) (yc l its.toArray n u (by rw[aw];lia)) ⟨e,?_⟩;refine ⟨.non,_,I.lset (its':=its++[u]) hH e (by simp) (r.append (.cons ru .nil)) ?_,rfl,q⟩;rw[ai,bQ]
 lia
def Bq:V->List V->Hp->VK->Prop:=λx vs H Q=>∃l b xs zs,x=.ref l/\vs=[.ref b]/\H l=some (.lst xs)/\H b=some (.lst zs)/\xs.length+zs.length<=sizeLine/\Q .non (upd H l (.lst (xs++zs)))
theorem yy:D9 X "list.extend" Bq:=by
 intro pins s σ H x vs v us Q I rx rv h;obtain ⟨l,b,xs,zs,rfl,rfl,hH,hB,hz,q⟩:=h;cases rx;obtain ⟨u,rfl,ru⟩:=rv.one;cases ru;obtain ⟨z,its,n,r,hl,e⟩:=I.lstM hH;obtain ⟨z2,its2,n2,r2,hl2,e2⟩:=I.lstM hB;have hsz:its.toArray.size+its2.toArray.size<=sizeLine:=by rw[aw,aw];lia
 have hlong:¬(!its.toArray.isEmpty && Builtin.List.listTooLong (its.toArray.size+its2.toArray.size))=true:=by
  rw[z6 hsz,CW];exact aP
 refine call_meets F.slot_list_extend ⟨_,e,rfl⟩ F.entry_list_extend (F.args_list_extend_2 _ _)
  (AutoSeq1.list_extend_list_list_0 l its.toArray n b its2.toArray n2 hlong (by rw[aw];lia) (by lia)) ⟨e,e2,?_⟩
 refine ⟨.non,_,I.lset (its':=its++its2) hH e (by simp) (r.append r2) ?_,rfl,q⟩;rw[ai]
 lia
def EY:R2:=λx y H Q=>∃l b xs zs,x=.ref l/\y=.ref b/\H l=some (.lst xs)/\H b=some (.lst zs)/\xs.length+zs.length<=sizeLine/\∀p,H p=none->Q (.ref p) (upd H p (.lst (xs++zs)))
theorem DO:qt X (binaryOp .Add) EY:=by
 intro pins s σ H x y v u Q I rx ry h;obtain ⟨l,b,xs,zs,rfl,rfl,hH,hB,hz,q⟩:=h;cases rx;cases ry;obtain ⟨z,its,n,r,hl,e⟩:=I.lstM hH;obtain ⟨z2,its2,n2,r2,hl2,e2⟩:=I.lstM hB;refine PySem.P.add_list e e2 ?_ (by rw[aw,aw];lia);have ea:its.toArray++its2.toArray=(its++its2).toArray:=by simp
 rw[ea];exact ⟨.ref _,_,I.lnew (t':=s.toks) (r.append r2) (by rw[ai];lia),rfl,q _ I.fresh⟩
end
end L2
namespace Att
open PySem PySem.W PySem.Calls PyProof.Rows
theorem qq {P:Params} {h:Heap}:∀(ns:List Int) (vs:List Value),WellAll P h vs (ns.map WData.int)->IntsAre vs ns:=by
 intro ns
 induction ns with
 | nil =>
  intro vs w;rw[List.map_nil] at w;cases w;exact .nil
 | cons n ns ih =>
  intro vs w;rw[cJ] at w;cases w with
  | cons a b =>
   cases a;exact .cons _ _ (ih _ b)
theorem yo {l:OpenLaw} {n:Nat} (hn:l.most=some n) {P:Params} {h:Heap} {args:List WData} {vals:List Value}
  (hpre:l.row.toRowW.claim.pre args=true) (hwl:WellAll P h vals args) :
  ∃a vs ns,vals=[Value.ref a]/\args=[WData.list (ns.map WData.int)]/\h.get? a=some { cls:=.type "list",data:=.seq vs.toArray }/\IntsAre vs ns/\ns.length<=n:=by
 have hsh:WShape.hasAll [] args [.list .int]=true:=(pre_splitW hpre).1;have hc:l.pre.holds [] { args:=args }=true:=(pre_splitW hpre).2;obtain ⟨d,r,rfl,h1,h2⟩:=hasAllW_cons hsh;obtain rfl:=hasAllW_nil h2;obtain ⟨xs,rfl,h3⟩:=hasW_list h1;obtain ⟨ns,rfl⟩:=items_int h3
 have hlen:ns.length<=n:=by
  unfold OpenLaw.pre at hc
  have h4:(WTm.not (.lt (.lit (.int (n:Int))) (.len (.arg 0)))).holds [] { args:=[.list (ns.map .int)] }=true:=by
   have h4:=(holds_andW hc).1;rw[hn] at h4;exact h4
  have h5:=condW_of h4 (w_not (w_lt w_lit (w_len_list (w_arg rfl))));rw[ay] at h5;refine Nat.le_of_not_lt λq=>?_
  have q':(n:Int) < ((ns.length:Nat):Int):=by lia
  first
   | (rw[decide_eq_true q'] at h5;exact absurd h5 (by decide))
   | (simp at h5;lia)
 cases hwl with
 | cons w1 w2 =>
  cases w2;cases w1 with
  | list ho hall=>exact ⟨_,_,ns,rfl,rfl,ho,qq ns _ hall,hlen⟩
theorem yu (l:OpenLaw) (args:List WData):l.row.toRowW.claim.post args (.bool true) args=true :=
 postW_of (r:=l.row.toRowW) (X:=(true == true))
  (show WShape.has [] (.bool true) .bool=true by first | rfl | decide | simp [WShape.has,WShape.arms,WShape.armsAll])
  (show (WTm.eq .res (.lit (.bool true))).value [] { args:=args,res:=some (.bool true),after:=args }=some (.bool (true == true)) from w_eq_bool (w_res rfl) w_lit) rfl
theorem vT {l:OpenLaw} {n:Nat} {q:Program} {loose:List Str} {XP:(Str->Option Value)->Heap->Prop} {YP:World->Heap->Prop} {d:DefRec}
  (hn:l.most=some n) (hdf:d.params.defaults=[])
  (call:∀(w:World) (s₀ s₁:Shared) (mg mb:Str->Option Value) (fa:Addr) (o:Obj) (pm cd doc:Value) (a:Addr) (vs:List Value) (ns:List Int),
   Ground q loose [] XP w s₀ mg mb s₁.heap->YP w s₁.heap →
   s₁.heap.get? fa=some o->o.data=.func (docDef d.name d.params d.body d.scope pm cd doc)->s₁.heap.CodeRec cd d.name->mg d.name=some (.ref fa) →
   s₁.heap.get? a=some { cls:=.type "list",data:=.seq vs.toArray }->IntsAre vs ns->ns.length<=n->s₁.gens=#[] →
   codeAny (model l.prog w) callerA (.call (.ref fa) ⟨[.ref a],[]⟩) (λr s'=>r=.ok (.ret (.bool true))/\OldK s₁.heap s'.heap/\s'.os=s₁.os/\AllBare s'.gens) s₁) :
  WalkO q loose XP YP l.row.toRowW d [] (λf vs=>PySem.call f vs):=by
 intro w s₀ s₁ mg mb G Y fa o pm cd doc dV kV ho hd hcd hD hmg hg args vals as hpre hlay hrd hwl hlo;obtain rfl:dV=.none:=Dflts.none hD hdf;obtain rfl:kV=.none:=Dflts.noKw hD;obtain ⟨a,vs,ns,rfl,rfl,hobj,hints,hlen⟩:=yo hn hpre hwl;refine enter_call (codeAny_mono (call w s₀ s₁ mg mb fa o pm cd doc a vs ns G Y ho (fd_plain hd) hcd hmg hobj hints hlen hg) λr s' hq=>?_);obtain ⟨rfl,h2,h3,h4⟩:=hq;exact ⟨.inl ⟨.bool true,.bool true,[],rfl,λ_=>rfl,.bool true,yu l _,λ_=>⟨List.Pairwise.nil,λ_ hm=>(nomatch hm)⟩⟩,h2,h3,h4⟩
section
variable {prog:Program} {w:World} {A:Around} {E:Value->Shared->Prop} {s:Shared} {K:Frag}
end
end Att
namespace L2
open PySem PySem.Spec PyProof.Rows
theorem sV:∀{vs:List Value} {ns:List Int},IntsAre vs ns->bO (ns.map V.int) vs
 | _,_,.nil=>.nil
 | _,_,.cons n t h=>.cons ⟨t,rfl⟩ (sV h)
def D7 (H:Hp):Prop:=∀b,H b=none\/∃o xs,H b=some (.frz o (.lst xs))
theorem Aa {P:Program} {w:World} {K:FG9} {mg mb:Str->Option Value} {CX:vY} {k:Nat} {fa a:Addr} {fd:FuncData} {x:Str} {sp:Sp} {s₁:Shared} {vs:List Value} {ns:List Int}
  (KX:K.In s₁.heap) (hns:s₁.heap.Ns mainGlobals mg) (hb:s₁.heap.Ns builtinsNs mb) (hbb:∀x:Str,x≠"__name__"->mb x=bootBuiltins x) (hlim:s₁.heap.NoLimit) (hdg:s₁.heap.NoDigits) (hg:s₁.gens=#[])
  (ha:s₁.heap.get? a=some { cls:=.type "list",data:=.seq vs.toArray }) (hi:IntsAre vs ns) (hl:ns.length<=sizeLine) (hr:hR k callerA)
  (F:∀base:Heap,K.In base->base.Ns mainGlobals mg->ck P w K mg base CX k fa fd [x] sp) (hbind:∀(s:Shared) (u:Value),BindsTo s fd ⟨[u],[]⟩ [(x,u)])
  (hsp:∀H:Hp,D7 H->bD K H a (ns.map V.int)->sp [.ref a] H (λv _=>v=.bl true) λ_ _ _=>False)
  (hCX:∀H e s',CX [] H s₁ (λ_ _ _=>False) e s'->False) :
  codeAny (model P w) callerA (.call (.ref fa) ⟨[.ref a],[]⟩) (λr s'=>r=.ok (.ret (.bool true))/\OldK s₁.heap s'.heap/\s'.os=s₁.os/\AllBare s'.gens) s₁:=by
 have rv:=sV hi;have lenV:=hi.length
 have core:∀H:Hp,D7 H->bD K H a (ns.map V.int)->oH P w H s₁.heap->(∀b,H b≠none->b=a)->(H a≠none->K.lookup a=none) →
   codeAny (model P w) callerA (.call (.ref fa) ⟨[.ref a],[]⟩) (λr s'=>r=.ok (.ret (.bool true))/\OldK s₁.heap s'.heap/\s'.os=s₁.os/\AllBare s'.gens) s₁:=by
  intro H hO hS hok hA hK;have base_of:∀{b:Addr} {o:Obj},s₁.heap.get? b=some o->H b=none->(uF s₁.heap H).get? b=some o:=λe n=>Ae e n
  have noA:∀{b:Addr} {o:Obj} {es:Array DictEntry} {ep:Nat},s₁.heap.get? b=some o->o.data=.dict es ep->H b=none:=λ{b o es ep} e d=>by
   cases q:H b with
   | none=>rfl
   | some u =>
    have e':b=a:=hA b (by rw[q];simp);subst e';rw[ha] at e;cases e;have d':Data.seq vs.toArray _=Data.dict es ep:=d;cases d'
  have nsK:∀{b:Addr} {m:Str->Option Value},s₁.heap.Ns b m->(uF s₁.heap H).Ns b m:=λ{b m} ⟨o,es,ep,e,d,r⟩=>⟨o,es,ep,base_of e (noA e d),d,r⟩
  have hKb:K.In (uF s₁.heap H):=λb o e=>base_of (KX b o e) (by
   cases q:H b with
   | none=>rfl
   | some u =>
    have e':b=a:=hA b (by rw[q];simp);subst e';rw[hK (by rw[q];simp)] at e;cases e)
  have hM:Mod K mg (uF s₁.heap H):=⟨hKb,nsK hns,⟨mb,nsK hb,hbb⟩,let ⟨mc,h1,h2⟩:=hlim;⟨mc,nsK h1,h2⟩,let ⟨mc,h1,h2⟩:=hdg;⟨mc,nsK h1,h2⟩⟩;have e0:xf P w K mg (uF s₁.heap H) callerA [] s₁ H:=⟨rfl,hM,λb o e=>BE e,Nat.le_of_eq (yF _ _),trivial,λb hb=>absurd (show b∈([]:List Addr) from hb) (by simp),hok,.of_eq hg⟩;refine codeAny_mono ((F _ hKb (nsK hns)).run callerA [] s₁ H ⟨[.ref a],[]⟩ [.ref a] [.ref a] _ _ hr e0 (hbind s₁ (.ref a)) (.cons rfl .nil) (hsp H hO hS)) λr s' h=>?_
  cases r with
  | error e=>exact (hCX H e s' h).elim
  | ok fl =>
   cases fl with
   | next=>exact False.elim h
   | brk=>exact False.elim h
   | cont=>exact False.elim h
   | ret u =>
    obtain ⟨v,H',os,bare,un,hok',r',q⟩:=h;have q':v=.bl true:=q;subst q';obtain rfl:u=Value.bool true:=r';refine ⟨rfl,OldK.of_keep λb o e=>?_,os,bare⟩;cases q:H b with
    | none=>exact un.keep b o e q (by intro z;exact absurd (show b∈([]:List Addr) from z) (by simp)) (by simp)
    | some u =>
     rcases hO b with z | ⟨ob,xs,z⟩
     ·rw[q] at z;cases z
     ·have z2:=un.frzs b ob _ z;obtain ⟨e1,_⟩:=hok b _ z;obtain ⟨e2,_⟩:=hok' b _ z2;rw[e] at e1;cases e1;exact e2
 cases hk:K.lookup a with
 | some o =>
  have e:=KX a o hk;rw[ha] at e;cases e;refine core (λ_=>none) (λ_=>.inl rfl) (.inr ⟨_,vs.toArray,_,hk,rfl,rfl,rfl,by rw[aw,lenV];exact hl,by simpa using rv⟩) (λb u z=>by have z':(none:Option HO)=some u:=z;cases z') (λb z=>absurd rfl z) λz=>absurd rfl z
 | none =>
  refine core (λb=>if b=a then some (.frz { cls:=.type "list",data:=.seq vs.toArray } (.lst (ns.map V.int))) else none) (λb=>?_) (.inl (.inr ⟨{ cls:=.type "list",data:=.seq vs.toArray },if_pos rfl⟩)) (λb u z=>?_) (λb z=>?_) λ_=>hk
  ·by_cases hb:b=a
   ·exact .inr ⟨_,_,if_pos hb⟩
   ·exact .inl (if_neg hb)
  ·by_cases hb:b=a
   ·have z':=(if_pos hb).symm.trans z;cases z';subst hb;exact ⟨ha,by rw[ay];exact hl,vs,_,rv,ha⟩
   ·have z':=(if_neg hb).symm.trans z;cases z'
  ·by_cases hb:b=a
   ·exact hb
   ·exact absurd (if_neg hb) z
theorem AO {l:PySem.W.OpenLaw} {n k:Nat} {q:Program} {loose:List Str} {XP:(Str->Option Value)->Heap->Prop} {YP:World->Heap->Prop} {d:DefRec} {K:Params->FG9} {CX:World->vY} {sp:World->Sp} {x:Str}
  (hn:l.most=some n) (hn2:n<=sizeLine) (hdf:d.params.defaults=[]) (hr:hR k callerA)
  (hY:∀(w:World) (h:Heap),YP w h->(K w.params).In h)
  (F:∀(w:World) (mg:Str->Option Value) (fa:Addr) (h:Heap),(K w.params).In h->h.Ns mainGlobals mg->mg d.name=some (.ref fa) →
   ∃fd:FuncData,(∀(s:Shared) (u:Value),BindsTo s fd ⟨[u],[]⟩ [(x,u)]) /\
    ∀base:Heap,(K w.params).In base->base.Ns mainGlobals mg->ck l.prog w (K w.params) mg base (CX w) k fa fd [x] (sp w))
  (hsp:∀(w:World) (H:Hp) (a:Addr) (ns:List Int),ns.length<=n->D7 H->bD (K w.params) H a (ns.map V.int)->sp w [.ref a] H (λv _=>v=.bl true) λ_ _ _=>False)
  (hCX:∀(w:World) (H:Hp) (s:Shared) (e:Value) (s':Shared),CX w [] H s (λ_ _ _=>False) e s'->False) :
  PySem.W.WalkO q loose XP YP l.row.toRowW d [] (λf vs=>PySem.call f vs):=by
 refine Att.vT hn hdf λw s₀ s₁ mg mb fa o pm cd doc a vs ns G Y ho hd hcd hmg hobj hints hlen hg=>?_
 have KX:=hY w _ Y;obtain ⟨fd,hb,hF⟩:=F w mg fa _ KX G.T.g hmg;exact Aa KX G.T.g G.T.b G.T.builtins G.T.nolimit G.T.nodigits hg hobj hints (ar hlen hn2) hr hF hb (λH hO hS=>hsp w H a ns hlen hO hS) λH e s'=>hCX w H s₁ e s'
end L2

namespace L2
open PySem PySem.Spec PyProof.Rows
def inClass (s:Stmt) (j:Nat):Stmt:=match s with
 | .ClassDef _ _ _ body _ _ _ _ _ _ _=>body.getD j (.Pass ⟨0,0,0,0⟩)
 | _=>.Pass ⟨0,0,0,0⟩
def jo (s:Stmt):Arguments:=match s with
 | .FunctionDef _ a _ _ _ _ _ _ _ _=>a
 | _=>{ posonlyargs:=[],args:=[],vararg:=none,kwonlyargs:=[],kw_defaults:=[],kwarg:=none,defaults:=[] }
def gO (s:Stmt):List Stmt:=match s with
 | .FunctionDef _ _ b _ _ _ _ _ _ _=>b
 | _=>[]
def aI (s:Stmt):Scope:=match s with
 | .FunctionDef _ _ _ _ _ _ sc _ _ _=>sc
 | _=>{ kind:=.function,names:=[],isGenerator:=false,isCoroutine:=false }
abbrev jb:vY:=λ_ _ _ _ _ _=>False
abbrev E0:XK:=λ_ _ _=>False
theorem zZ {X:Cx}:nJ jb X E0:=λ_ _ _ _ _ _ _ h=>h.elim
structure Ay (K:FG9) (x qual:Str) (st:Stmt) (f:Addr) (fd:FuncData):Prop where
 ex:∃(oc:Value) (od:Option Addr) (kV doc pm:Value) (an:Option Addr) (cdv ct:Value) (osl:Array (Option Value)),
  fd=PySem.W.fnOf x qual (jo st) (gO st) (aI st) .none kV doc pm an cdv ct/\K.lookup f=some ⟨oc,od,.func fd,osl⟩/\PySem.W.codeIn K cdv qual=true
 kp:PySem.W.keepIn K (.ref f)=true
section
variable {P:Program} {w:World} {K:FG9} {mg:Str->Option Value} {base:Heap}
theorem Ay.ok {x qual:Str} {st:Stmt} {f:Addr} {fd:FuncData} {N ps:List Str} {k:Nat} {sp:Sp} (F:Ay K x qual st f fd) (S:a8 N ps (aI st)) (len:∀vs H Q E,sp vs H Q E->vs.length=ps.length)
  (hbody:∀(cdv:Value) (A:Around) (outer:List Env) (s:Shared) (H:Hp) (vs:List V) (Q:VK) (E:XK),hR k (A.deeper (envOfC qual (aI st) s.heap.objs.size f cdv))->sp vs H Q E →
   ∃t,uR (lF jb P w K mg base N qual (aI st) f cdv A outer s H E).nox (gO st) t/\t { nx:=λ_ H'=>Q .non H',rt:=Q } (start N vs) H):ck P w K mg base jb (k+1) f fd ps sp:=by
 obtain ⟨oc,od,kV,doc,pm,an,cdv,ct,osl,rfl,lk,hcd⟩:=F.ex;refine CF lk hcd S len λA outer s H vs Q E hr hsp=>?_
 obtain ⟨t,h,q⟩:=hbody cdv A outer s H vs Q E hr hsp;exact ⟨t,h.nox,q⟩
theorem Ay.binds {x qual:Str} {st:Stmt} {f:Addr} {fd:FuncData} {ps:List Str} (F:Ay K x qual st f fd)
  (h:∀(kV doc pm:Value) (an:Option Addr) (cdv ct:Value) (us:List Value),us.length=ps.length->bindArgs (PySem.W.fnOf x qual (jo st) (gO st) (aI st) .none kV doc pm an cdv ct) ⟨us,[]⟩=pure (ps.zip us)):Binds K fd ps []:=by
 obtain ⟨oc,od,kV,doc,pm,an,cdv,ct,osl,rfl,lk,hcd⟩:=F.ex;exact .all (h kV doc pm an cdv ct)
theorem Ak {x qual:Str} {st:Stmt} {f:Addr} {oc:Value} {od an:Option Addr} {osl:Array (Option Value)} {kV doc pm cdv ct:Value} (l:K.lookup f=some ⟨oc,od,.func (PySem.W.fnOf x qual (jo st) (gO st) (aI st) .none kV doc pm an cdv ct),osl⟩)
  (c:PySem.W.codeIn K cdv qual=true) (k:PySem.W.keepIn K (.ref f)=true):Ay K x qual st f (PySem.W.fnOf x qual (jo st) (gO st) (aI st) .none kV doc pm an cdv ct):=⟨⟨oc,od,kV,doc,pm,an,cdv,ct,osl,rfl,l,c⟩,k⟩
end
structure Df (K:FG9) (mg:Str->Option Value) (x:Str) (st:Stmt) (ps:List Str) (f:Addr) (fd:FuncData):Prop where
 m:mg x=some (.ref f)
 b:Binds K fd ps []
 F:Ay K x x st f fd
structure Dh (K:FG9) (x:Str) (st:Stmt) (f:Addr) (fd:FuncData):Prop where
 a:PySem.W.nsIn K mainGlobals x=some (some (.ref f))
 F:Ay K x x st f fd
theorem Fi {K:FG9} {x:Str} {st:Stmt} {f:Addr} {oc:Value} {od an:Option Addr} {osl:Array (Option Value)} {kV doc pm cdv ct:Value} (a:PySem.W.nsIn K mainGlobals x=some (some (.ref f))) (l:K.lookup f=some ⟨oc,od,.func (PySem.W.fnOf x x (jo st) (gO st) (aI st) .none kV doc pm an cdv ct),osl⟩) (c:PySem.W.codeIn K cdv x=true) (k:PySem.W.keepIn K (.ref f)=true):Dh K x st f (PySem.W.fnOf x x (jo st) (gO st) (aI st) .none kV doc pm an cdv ct):=⟨a,Ak l c k⟩
theorem Dh.D {K:FG9} {x:Str} {st:Stmt} {f:Addr} {fd:FuncData} {ps:List Str} {mg:Str->Option Value} {h:Heap} (d:Dh K x st f fd) (X:K.In h) (G:h.Ns mainGlobals mg) (hb:∀(kV doc pm:Value) (an:Option Addr) (cdv ct:Value) (us:List Value),us.length=ps.length->bindArgs (PySem.W.fnOf x x (jo st) (gO st) (aI st) .none kV doc pm an cdv ct) ⟨us,[]⟩=pure (ps.zip us):=by walk_at "b"):Df K mg x st ps f fd:=⟨PySem.W.mg_of X G d.a,d.F.binds hb,d.F⟩
theorem cW {X:Cx} {k k':Nat} {f:Addr} {fd:FuncData} {ps:List Str} {sp:Sp} {x:Str} {st:Stmt} {p pos:Pos} {e:Expr} {es:List Expr} {t:TA} (F:ck X.prog X.w X.K X.mg X.base jb k f fd ps sp) (hr:hR k' X.A) (D:Df X.K X.mg x st ps f fd) (ha:PA X (e :: es) t) (hle:k<=k':=by decide) (hg:Gl X x:=by exact rfl) (hdb:(x == ("__debug__":Str))=false:=by decide) (he:starEach (e :: es) X.env=(false,eval e X.env) :: starEach es X.env:=by rfl) (hpl:(backTo pos (starEach es X.env)).any (·.1)=false:=by rfl):PE X (.Call (.Name x p) (e :: es) [] pos) (za sp [] E0 t):=dX F (hr.mono hle) hg D.m D.F.kp D.b .nil zZ ha hdb he hpl
theorem b4 {n:Nat} (h:n<=1000):n < sizeLine:=a7 h (by decide)
section
variable {X:Cx}
theorem pv (i:Nat) {x:Str} {pos:Pos} (hN:X.N[i]?=some x:=by rfl) (hv:FP X.env.scope x:=by first | exact Or.inl rfl | exact Or.inr (Or.inl rfl) | exact Or.inr (Or.inr rfl)) (hd:(x == ("__debug__":Str))=false:=by decide)
  (hcd:(x == ("__classdict__":Str))=false:=by decide):PE X (.Name x pos) (C0 i):=DK hN hv hd hcd
end
theorem BJ {A B:Prop} (h:B):if false=true then A else B:=by
 rw[if_neg aP];exact h
theorem E6 {A B:Prop} (h:A):if true=true then A else B:=by
 rw[if_pos rfl];exact h
theorem gZ {c A B:Prop} [Decidable c] (h1:c->A) (h2:¬c->B):if c then A else B:=by
 by_cases h:c
 ·rw[if_pos h];exact h1 h
 ·rw[if_neg h];exact h2 h
def aD (H H':Hp):Prop:=∀b o,H b=some o->H' b=some o
theorem aD.refl (H:Hp):aD H H:=λ_ _ h=>h
theorem aD.trans {H H1 H2:Hp} (a:aD H H1) (b:aD H1 H2):aD H H2:=λc o h=>b c o (a c o h)
theorem aD.free {H H':Hp} (e:aD H H') {l:Addr} (h:H' l=Option.none):H l=Option.none:=by
 cases q:H l with
 | none=>rfl
 | some o =>
  rw[e l o q] at h;cases h
end L2
namespace Nm
theorem Ai (a b:Int):Int.gcd b (a.fmod b)=Int.gcd a b:=by
 rw[Int.fmod_def,jx a b];apply Nat.dvd_antisymm
 ·apply AA
  ·exact cX ..
  ·have h1:=cX (a:=b) (b:=a - b*a.fdiv b);have h2:=fW (a:=b) (b:=a - b*a.fdiv b);have h3:=Int.dvd_add h2 (jc (c:=a.fdiv b) h1);rwa [Int.sub_add_cancel] at h3
 ·apply AA
  ·exact cX ..
  ·exact Int.dvd_sub (fW ..) (jc (cX ..))
theorem Aj (a b:Int):Int.gcd b (a % b)=Int.gcd a b:=by
 rw[Int.emod_def,jx a b];apply Nat.dvd_antisymm
 ·apply AA
  ·exact cX ..
  ·have h1:=cX (a:=b) (b:=a - b*(a / b));have h2:=fW (a:=b) (b:=a - b*(a / b));have h3:=Int.dvd_add h2 (jc (c:=a / b) h1);rwa [Int.sub_add_cancel] at h3
 ·apply AA
  ·exact cX ..
  ·exact Int.dvd_sub (fW ..) (jc (cX ..))
theorem BO (a b:Int) (h:b≠0):(a.fmod b).natAbs < b.natAbs:=by
 rcases Int.lt_or_gt_of_ne h with h | h
 ·have e:a.fmod b=-((-a).fmod (-b)):=by
   have:=Int.neg_fmod_neg (-a) (-b);simp only[Int.neg_neg] at this;exact this
  have h1:=Int.fmod_nonneg_of_pos (-a) (b:=-b) (by lia);have h2:=Int.fmod_lt_of_pos (-a) (b:=-b) (by lia)
  lia
 ·have h1:=Int.fmod_nonneg_of_pos a h;have h2:=Int.fmod_lt_of_pos a h
  lia
def g (t b:Int):Int:=(Int.gcd t b:Int)
def lo (t b:Int):Int:=t / g t b
def hi (t b:Int):Int:=b / g t b
theorem xK {t b:Int} (h:b≠0):0 < g t b:=by
 unfold g;have:0 < Int.gcd t b:=AK _ h
 lia
theorem wN (t b:Int):lo t b*g t b=t:=Int.ediv_mul_cancel (cX ..)
theorem uH (t b:Int):hi t b*g t b=b:=Int.ediv_mul_cancel (fW ..)
theorem uG {t b:Int} (h:0 < b):0 < hi t b:=by
 have h1:=xK (t:=t) (b:=b) (by lia);have h2:=uH t b;by_cases h3:0 < hi t b
 ·exact h3
 ·have:hi t b*g t b<=0:=Int.mul_nonpos_of_nonpos_of_nonneg (by lia) (by lia)
  lia
theorem nZ {t b:Int} (h:b≠0):Int.gcd (lo t b) (hi t b)=1:=by
 have h1:=xK (t:=t) h;have e:=Int.gcd_mul_right (lo t b) (g t b) (hi t b);rw[wN,uH] at e;have e2:(g t b).natAbs=Int.gcd t b:=by unfold g;simp
 rw[e2] at e;have h2:0 < Int.gcd t b:=AK _ h;exact Nat.eq_of_mul_eq_mul_right h2 (by rw[<- e,tX])
theorem rC (t b:Int):lo t b*b=t*hi t b:=by
 have h1:=wN t b;have h2:=uH t b
 calc lo t b*b=lo t b*(hi t b*g t b):=by rw[h2]
  _=(lo t b*g t b)*hi t b:=by rw[gT (hi t b),<- iB]
  _=t*hi t b:=by rw[h1]
theorem nE {a b c:Int} (h:Int.gcd a b=1) (hd:a∣b*c):a∣c:=by
 have h1:a.natAbs∣b.natAbs*c.natAbs:=by rw[<- jw];exact sH.mpr hd
 have h2:Nat.Coprime a.natAbs b.natAbs:=h;exact sH.mp (h2.dvd_of_dvd_mul_left h1)
theorem uniq {a b c d:Int} (hb:0 < b) (hd:0 < d) (h1:Int.gcd a b=1) (h2:Int.gcd c d=1) (e:a*d=c*b):a=c/\b=d:=by
 have e1:b∣d:=by
  have:b∣a*d:=⟨c,by rw[e,gT]⟩;exact nE (by rw[jx];exact h1) this
 have e2:d∣b:=by
  have:d∣c*b:=⟨a,by rw[<- e,gT]⟩;exact nE (by rw[jx];exact h2) this
 have e3:b=d:=Int.dvd_antisymm (by lia) (by lia) e1 e2;subst e3;exact ⟨CV (by lia) e,rfl⟩
theorem DT {t b c d:Int} (hb:0 < b) (hd:0 < d) (h2:Int.gcd c d=1) (e:t*d=c*b):lo t b=c/\hi t b=d:=by
 refine uniq (uG hb) hd (nZ (by lia)) h2 ?_;have h:=rC t b;have hb':b≠0:=by lia
 apply CV hb'
 calc lo t b*d*b=lo t b*b*d:=by rw[iB,gT d b,<- iB]
  _=t*hi t b*d:=by rw[h]
  _=t*d*hi t b:=by rw[iB,gT (hi t b),<- iB]
  _=c*b*hi t b:=by rw[e]
  _=c*hi t b*b:=by rw[iB,gT b,<- iB]
theorem DU {a b:Int} (hb:0 < b) (h:Int.gcd a b=1):lo a b=a/\hi a b=b:=DT hb hb h rfl
theorem jF {a b:Int} (h:b≠0):a.natAbs<=(a*b).natAbs:=by
 rw[jw];exact Ft _ (Int.natAbs_pos.mpr h)
theorem lo_le {t b:Int} (h:b≠0):(lo t b).natAbs<=t.natAbs:=by
 have:=jF (a:=lo t b) (b:=g t b) (by have:=xK (t:=t) h;lia);rwa [wN] at this
theorem CA {t b:Int} (h:b≠0):(hi t b).natAbs<=b.natAbs:=by
 have:=jF (a:=hi t b) (b:=g t b) (by have:=xK (t:=t) h;lia);rwa [uH] at this
def Sz (k:Nat) (x:Int):Prop:=x.natAbs < 2^k
theorem Sz.mono {j k:Nat} {x:Int} (h:Sz j x) (l:j<=k):Sz k x:=av h (aG (by decide) l)
theorem Sz.mul {j k:Nat} {x y:Int} (h1:Sz j x) (h2:Sz k y):Sz (j+k) (x*y):=by
 unfold Sz at *
 rw[jw,Az];exact Nat.mul_lt_mul'' h1 h2
theorem Sz.le {k:Nat} {x y:Int} (h:Sz k y) (l:x.natAbs<=y.natAbs):Sz k x:=a7 l h
end Nm
namespace L2
open PySem PySem.Spec PyProof.Rows
structure Bk (env:Env) (scope:Scope) (own capN:List Str):Prop where
 kind:scope.kind=.function
 locs:∀y∈scope.names,y.2=.local->scope.names.lookup y.1=some .local
 ownk:∀x∈own,scope.names.lookup x=some .local\/scope.names.lookup x=some .cell
 cells:∀y∈scope.names,y.2=.cell->y.1∈own/\y.1∉capN
 frees:∀y∈scope.names,y.2=.free->y.1∈capN/\y.1∉own
 capf:∀x∈capN,scope.names.lookup x=some .free
 caps:∀x∈capN,env.kindOf x=some .cell\/env.kindOf x=some .free
def Fk (scope:Scope) (own capN:List Str):Bool :=
 decide (scope.kind=.function) && scope.names.all (λy=>decide (y.2=.local->scope.names.lookup y.1=some .local) && decide (y.2=.cell->y.1∈own/\y.1∉capN) && decide (y.2=.free->y.1∈capN/\y.1∉own)) &&
 own.all (λx=>decide (scope.names.lookup x=some .local\/scope.names.lookup x=some .cell)) && capN.all λx=>decide (scope.names.lookup x=some .free)
def rW (env:Env):List Str->Bool
 | []=>true
 | x :: r=>(match env.kindOf x with | some .cell=>true | some .free=>true | _=>false) && rW env r
theorem vQ {env:Env}:∀{capN:List Str},rW env capN=true->∀x∈capN,env.kindOf x=some .cell\/env.kindOf x=some .free
 | [],_,_,h=>nomatch h
 | y :: r,h,x,hx=>by
  unfold rW at h;rw[cY] at h;rcases az.mp hx with e | hx
  ·subst e;have h1:=h.1
   split at h1
   ·rename_i e;exact .inl e
   ·rename_i e;exact .inr e
   ·cases h1
  ·exact vQ h.2 x hx
theorem Bk.of {env:Env} {scope:Scope} {own capN:List Str} (h1:Fk scope own capN=true) (h2:rW env capN=true):Bk env scope own capN:=by
 unfold Fk at h1;rw[cY,cY,cY,cB,cB,cB] at h1;obtain ⟨⟨⟨a1,a2⟩,a3⟩,a4⟩:=h1
 have a2':∀y∈scope.names,(y.2=.local->scope.names.lookup y.1=some .local)/\(y.2=.cell->y.1∈own/\y.1∉capN)/\(y.2=.free->y.1∈capN/\y.1∉own):=λy hy=>by
  have q:=a2 y hy;rw[cY,cY] at q;exact ⟨of_decide_eq_true q.1.1,of_decide_eq_true q.1.2,of_decide_eq_true q.2⟩
 exact ⟨of_decide_eq_true a1,λy hy=>(a2' y hy).1,λx hx=>of_decide_eq_true (a3 x hx),λy hy=>(a2' y hy).2.1,λy hy=>(a2' y hy).2.2,λx hx=>of_decide_eq_true (a4 x hx),vQ h2⟩
def cw (env:Env):List (Str×NameKind)->List (Str×Addr)->List (Str×Addr)
 | [],acc=>acc
 | (n,k) :: r,acc=>if k == .free then cw env r ((n,(env.cells.lookup n).getD 0) :: acc) else cw env r acc
theorem eM (env:Env):∀(names:List (Str×NameKind)) (acc:List (Str×Addr)),cw env names acc=cw env names []++acc
 | [],_=>rfl
 | (n,k) :: r,acc=>by
  unfold cw
  split
  ·rw[eM env r (_ :: acc),eM env r [_],br];rfl
  ·exact eM env r acc
theorem ks (env:Env):∀(names:List (Str×NameKind)) {x:Str} {c:Addr},(x,c)∈cw env names []->(x,NameKind.free)∈names/\c=(env.cells.lookup x).getD 0
 | [],_,_,h=>nomatch h
 | (n,k) :: r,x,c,h=>by
  unfold cw at h
  split at h
  ·rename_i hk
   have ek:k=.free:=by simpa using hk
   subst ek;rw[eM] at h;rcases aO.mp h with h | h
   ·have q:=ks env r h;exact ⟨ao _ q.1,q.2⟩
   ·have e:(x,c)=(n,(env.cells.lookup n).getD 0):=by simpa using h
    cases e;exact ⟨aE,rfl⟩
  ·have q:=ks env r h;exact ⟨ao _ q.1,q.2⟩
theorem fo {α:Type}:∀{l:List (Str×α)} {x:Str} {c:α},(x,c)∈l->∃d,l.lookup x=some d
 | (k,v) :: r,x,c,h=>by
  rw[gS];cases hb:x == k with
  | true=>exact ⟨v,rfl⟩
  | false =>
   rcases az.mp h with e | h
   ·cases e;simp at hb
   ·exact fo h
theorem ku (env:Env):∀(names:List (Str×NameKind)) {x:Str},(x,NameKind.free)∈names->∃c,(x,c)∈cw env names []
 | (n,k) :: r,x,h=>by
  unfold cw;rcases az.mp h with e | h
  ·cases e;rw[if_pos (by decide),eM];exact ⟨_,aT _ aE⟩
  ·obtain ⟨c,q⟩:=ku env r h
   split
   ·rw[eM];exact ⟨c,kD _ q⟩
   ·exact ⟨c,q⟩
theorem lI {scope:Scope} {env:Env} (h:∀y∈scope.names,y.2=.free->∃c,env.cells.lookup y.1=some c):closureFor scope env=pure (cw env scope.names []):=by
 have gen:∀(names:List (Str×NameKind)) (acc:List (Str×Addr)) (f:Str×NameKind->List (Str×Addr)->Sem (ForInStep (List (Str×Addr)))),
   (∀name kind cells,f (name,kind) cells=if kind == .free then (do let a <- cellOf env name;pure (.yield ((name,a) :: cells))) else pure (.yield cells)) →
   (∀y∈names,y.2=.free->∃c,env.cells.lookup y.1=some c)->forIn names acc f=pure (cw env names acc):=by
  intro names
  induction names with
  | nil=>intro acc f hf _;rw[List.forIn_nil];rfl
  | cons y r ih =>
   intro acc f hf hh;obtain ⟨n,k⟩:=y;rw[List.forIn_cons,hf];unfold cw;by_cases hk:(k == NameKind.free)=true
   ·obtain ⟨c,hc⟩:=hh (n,k) aE (by simpa using hk);have hc':env.cells.lookup n=some c:=hc;have e:cellOf env n=pure c:=by unfold cellOf;rw[hc']
    rw[if_pos hk,if_pos hk,e,hc'];simp only[pure_bind,yS];exact ih _ f hf λy hy=>hh y (ao _ hy)
   ·rw[if_neg hk,if_neg hk];simp only[pure_bind];exact ih _ f hf λy hy=>hh y (ao _ hy)
 simp only[closureFor];rw[gen scope.names [] _ (λname kind cells=>by cases hkc:kind == NameKind.free <;> simp [hkc]) h];rfl
theorem dq:∀(names:List (Str×NameKind)) (n:Nat) (acc:List (Str×Addr)),cellsFrom n names acc=cellsFrom n names []++acc
 | [],_,_=>rfl
 | (x,k) :: r,n,acc=>by
  unfold cellsFrom
  split
  ·rw[dq r (n+1) (_ :: acc),dq r (n+1) [_],br];rfl
  ·exact dq r n acc
theorem gP:∀(names:List (Str×NameKind)) (n:Nat) {x:Str} {c:Addr},(x,c)∈cellsFrom n names []->(x,NameKind.cell)∈names
 | [],_,_,_,h=>nomatch h
 | (y,k) :: r,n,x,c,h=>by
  unfold cellsFrom at h
  split at h
  ·rename_i hk
   have ek:k=.cell:=by simpa using hk
   subst ek;rw[dq] at h;rcases aO.mp h with h | h
   ·exact ao _ (gP r _ h)
   ·have e:(x,c)=(y,n):=by simpa using h
    cases e;exact aE
  ·exact ao _ (gP r _ h)
def lK (env:Env) (scope:Scope) (C:Addr):Env :=
 { scope:=relabel scope env,locals:=C,globals:=env.globals,cells:=cellsFrom (C+1) scope.names (cw env scope.names []),qual:=env.qual,func:=none,code:=env.code,frame:=env.frame,builtins:=env.builtins }
theorem pK {M:Model} {A:Around} {E:Value->Shared->Prop} {s:Shared} {scope:Scope} {g:Addr} {cl:List (Str×Addr)} {qual:Str} {env:Env} {Q:Env->Shared->Prop}
  (h:Q (newEnv scope s.heap.objs.size g (cellsFrom (s.heap.objs.size+1) scope.names cl) qual none .none (some env) builtinsNs) { s with heap:=pushCells (s.heap.push { cls:=.type "dict",data:=.dict #[] }) scope.names }) :
  wpAny M A (newFunctionEnv scope g cl [] qual none .none (some env)) Q E s:=by
 simp only[newFunctionEnv,Option.isSome_some,if_true];refine wpAny_bind (wpAny_alloc ?_);refine wpAny_bind (wpAny_layCells _ (λname kind cells=>by cases hkc:kind == NameKind.cell <;> simp [hkc]) _ _ _ _ ?_);rw[show ({ s with heap:=s.heap.push { cls:=.type "dict",data:=.dict #[] } }:Shared).heap.objs.size=s.heap.objs.size+1 from Heap.size_push ..];rw[List.forIn_nil];exact wpAny_bind (wpAny_pure (wpAny_pure h))
theorem nT {scope:Scope} {env:Env} {x:Str}:∀{k:NameKind},(relabel scope env).names.lookup x=some k->∃k0,scope.names.lookup x=some k0/\(k=k0\/(k0=.free/\k=.cell)):=by
 unfold relabel;show ∀{k:NameKind},(scope.names.map λ(n,k)=>if (k == NameKind.free && env.scope.kind == .function && env.kindOf n == some .cell) then (n,NameKind.cell) else (n,k)).lookup x=some k->_
 induction scope.names with
 | nil=>intro k h;cases h
 | cons y r ih =>
  intro k h;obtain ⟨n,k1⟩:=y;rw[cJ,gS] at h;rw[gS];by_cases hc:(k1 == NameKind.free && env.scope.kind == .function && env.kindOf n == some .cell)=true
  ·simp only[hc,if_true] at h;cases hb:x == n with
   | true =>
    simp only[hb] at h
    have e1:k1=.free:=by
     rw[cY,cY] at hc;simpa using hc.1.1
    cases h;exact ⟨k1,rfl,.inr ⟨e1,rfl⟩⟩
   | false=>simp only[hb] at h;exact ih h
  ·have hc':(k1 == NameKind.free && env.scope.kind == .function && env.kindOf n == some .cell)=false:=by simpa using hc
   simp only[hc',v7,if_false] at h;cases hb:x == n with
   | true=>simp only[hb] at h;cases h;exact ⟨_,rfl,.inl rfl⟩
   | false=>simp only[hb] at h;exact ih h
theorem vo {scope:Scope} {env:Env} {x:Str}:scope.names.lookup x=some .free->(relabel scope env).names.lookup x=some .cell\/(relabel scope env).names.lookup x=some .free:=by
 unfold relabel;show _->(scope.names.map λ(n,k)=>if (k == NameKind.free && env.scope.kind == .function && env.kindOf n == some .cell) then (n,NameKind.cell) else (n,k)).lookup x=some .cell\/(scope.names.map λ(n,k)=>if (k == NameKind.free && env.scope.kind == .function && env.kindOf n == some .cell) then (n,NameKind.cell) else (n,k)).lookup x=some .free
 induction scope.names with
 | nil=>intro h;cases h
 | cons y r ih =>
  intro h;obtain ⟨n,k1⟩:=y;rw[gS] at h;rw[cJ];by_cases hc:(k1 == NameKind.free && env.scope.kind == .function && env.kindOf n == some .cell)=true
  ·simp only[hc,if_true,gS];cases hb:x == n with
   | true=>exact .inl rfl
   | false=>rw[hb] at h;exact ih h
  ·have hc':(k1 == NameKind.free && env.scope.kind == .function && env.kindOf n == some .cell)=false:=by simpa using hc
   simp only[hc',v7,if_false,gS];cases hb:x == n with
   | true=>rw[hb] at h;cases h;exact .inr rfl
   | false=>rw[hb] at h;exact ih h
structure Bz where
 s:Shared
 H:Hp
 fp:List Addr
 C:Addr
def jK (X:Cx) (own capN:List Str) (scope:Scope) (Z:Bz):Cx where
 prog:=X.prog
 w:=X.w
 K:=X.K
 mg:=X.mg
 base:=X.base
 A:=X.A
 N:=own++capN
 s₀:=Z.s
 H₀:=Z.H
 env:=lK X.env scope Z.C
 outer:=X.stack
 stack:=X.stack
 ex:=Z.fp
 fn:=λx=>own.contains x
 calm:=true
 pn:=[]
 xe:=λ_ _=>False
section
variable {X:Cx} {pins:List (Addr×Obj)} {σ:St} {own capN:List Str} {scope:Scope} {Z:Bz}
theorem eO (B:Bk X.env scope own capN) (I:Inv X pins σ Z.H Z.s) {x:Str} {c:Addr} (h:(lK X.env scope Z.C).cells.lookup x=some c) :
  (x∈own/\(x,c)∈cellsFrom (Z.C+1) scope.names [])\/(x∈capN/\x∉own/\X.env.cells.lookup x=some c):=by
 have h':(cellsFrom (Z.C+1) scope.names (cw X.env scope.names [])).lookup x=some c:=h;rw[dq] at h';rcases aO.mp (mem_of_lookup h') with m | m
 ·exact .inl ⟨(B.cells _ (gP _ _ m) rfl).1,m⟩
 ·obtain ⟨m1,e⟩:=ks _ _ m;obtain ⟨q1,q2⟩:=B.frees _ m1 rfl;obtain ⟨d,hd⟩:=I.ok.has x (B.caps x q1);rw[hd] at e;exact .inr ⟨q1,q2,by rw[hd,e];rfl⟩
theorem BV (B:Bk X.env scope own capN) (I:Inv X pins σ Z.H Z.s) {x:Str} {c:Addr} (hx:x∈capN) (h:X.env.cells.lookup x=some c):(lK X.env scope Z.C).cells.lookup x=some c:=by
 have hm:(x,NameKind.free)∈scope.names:=mem_of_lookup (B.capf x hx);obtain ⟨c1,m1⟩:=ku X.env scope.names hm
 have hs:∃d,(lK X.env scope Z.C).cells.lookup x=some d:=by
  show ∃d,(cellsFrom (Z.C+1) scope.names (cw X.env scope.names [])).lookup x=some d
  rw[dq];exact fo (aT _ m1)
 obtain ⟨d,hd⟩:=hs;rcases eO B I hd with ⟨q,m⟩ | ⟨_,_,q⟩
 ·exact absurd hx (B.cells _ (gP _ _ m) rfl).2
 ·rw[h] at q;cases q;exact hd
theorem tw (h:Heap) (C:Addr) (hC:h.objs.size=C+1) (names:List (Str×NameKind)):CellsOk (pushCells h names) (C+1) (cellsFrom (C+1) names []):=by
 have q:=cellsFrom_ok names h (C+1) [] ⟨λ_ _ hm=>(nomatch hm),List.Pairwise.nil⟩ (by rw[hC];exact ax _);rwa [hC] at q
theorem qE (I:Inv X pins σ Z.H Z.s) {x:Str} {c:Addr} (h:X.env.cells.lookup x=some c):@LT.lt Nat instLTNat c Z.s.heap.objs.size:=by
 obtain ⟨v,q⟩:=I.cell x c h;exact q.lt
theorem D4 {h1:Heap} (I:Inv X pins σ Z.H Z.s) (hc:X.calm=true) (B:Bk X.env scope own capN) (hC:Z.s.heap.objs.size<=Z.C) (hcl:CellsOk h1 (Z.C+1) (cellsFrom (Z.C+1) scope.names []))
  (hf:∀b∈Z.fp,jN X pins Z.H b/\@LT.lt Nat instLTNat b Z.s.heap.objs.size):(jK X own capN scope Z).Ok:=by
 refine ⟨I.ok.mod,B.kind,I.ok.glob,I.ok.blt,hC,λx y c h1 h2=>?_,λx hx=>?_,λx c hx h=>?_,λ_=>I.ok.hd hc,I.ok.frames,.inl rfl,λb hb=>⟨?_,λx c h=>?_⟩,I.bs,ar I.ok.bsz I.sz,λb o e hb=>?_,λb hb hz=>?_,I.stack,I.stkFree⟩
 ·rcases eO B I h1 with ⟨q1,m1⟩ | ⟨q1,n1,m1⟩ <;> rcases eO B I h2 with ⟨q2,m2⟩ | ⟨q2,n2,m2⟩
  ·exact name_of_addr hcl.apart m1 m2
  ·have l1:=(hcl.empty _ _ m1).2;have l2:=qE I m2
   lia
  ·have l1:=(hcl.empty _ _ m2).2;have l2:=qE I m1
   lia
  ·exact I.ok.inj x y c m1 m2
 ·have hx':(relabel scope X.env).names.lookup x=some .cell\/(relabel scope X.env).names.lookup x=some .free:=hx
  have hk:scope.names.lookup x=some .cell\/scope.names.lookup x=some .free:=by
   rcases hx' with h | h
   ·obtain ⟨k0,e,q | ⟨q,_⟩⟩:=nT h
    ·exact .inl (by rw[e,<- q])
    ·exact .inr (by rw[e,q])
   ·obtain ⟨k0,e,q | ⟨_,q⟩⟩:=nT h
    ·exact .inr (by rw[e,<- q])
    ·cases q
  show ∃c,(cellsFrom (Z.C+1) scope.names (cw X.env scope.names [])).lookup x=some c
  rcases hk with h | h
  ·exact oM.mp (qG scope.names (Z.C+1) _ (.inl h))
  ·obtain ⟨c,m⟩:=ku X.env scope.names (mem_of_lookup h);rw[dq];exact fo (aT _ m)
 ·have ho:x∈own:=by have hx':own.contains x=true:=hx;simpa using hx'
  rcases eO B I h with ⟨_,m⟩ | ⟨_,n,_⟩
  ·have:=(hcl.empty _ _ m).2;have hC':Z.s.heap.objs.size<=Z.C:=hC;show Z.s.heap.objs.size<=c
   lia
  ·exact absurd ho n
 ·intro e;have e':@Eq Nat b Z.C:=e;have:=(hf b hb).2
  lia
 ·have l:=(hf b hb).2;rcases eO B I h with ⟨_,m⟩ | ⟨_,_,m⟩
  ·intro e;have e':@Eq Nat c b:=e;have:=(hcl.empty _ _ m).2
   lia
  ·exact (hf b hb).1.2.2.2.2.1 x c m
 ·obtain ⟨_,_,_,f3,_⟩:=(hf b hb).1;rcases f3 with f3 | f3
  ·exact I.ok.noex b o e f3
  ·exact absurd (av (Heap.lt_size e) (ar I.ok.bsz f3)) (bA _)
 ·obtain ⟨_,f1,f2,_⟩:=(hf b hb).1;rcases az.mp (I.stkSub b hz) with e | e
  ·exact f1 e
  ·exact f2 e
def vX (k:Nat) (cap:List Nat) (σ:St):St:=List.replicate k none++cap.map λj=>(σ[j]?).join
def mL (X:Cx) (capN:List Str) (cap:List Nat):Prop:=cap.map (λj=>X.N[j]?)=capN.map some
theorem mL.get {cap:List Nat} (h:mL X capN cap) {i:Nat} {x:Str} (e:capN[i]?=some x):∃j,cap[i]?=some j/\X.N[j]?=some x:=by
 have q:=congrArg (λl=>l[i]?) h;simp only[bH,e,Option.map_some] at q;cases hc:cap[i]? with
 | none=>rw[hc] at q;cases q
 | some j=>rw[hc] at q;exact ⟨j,rfl,by simpa using q⟩
theorem vR {cap:List Nat} {h':Heap} {m:Str->Option Value} (I:Inv X pins σ Z.H Z.s) (B:Bk X.env scope own capN) (hcap:mL X capN cap)
  (kc:∀x c,X.env.cells.lookup x=some c->∀v,Z.s.heap.IsCell c v->h'.IsCell c v) {i:Nat} {x:Str} {v:V} (e1:(own++capN)[i]?=some x) (e2:(vX own.length cap σ)[i]?=some (some v)) :
  ∃u,RelV v u/\Look (lK X.env scope Z.C) h' m x u:=by
 have hi:own.length<=i:=by
  by_cases hi:own.length<=i
  ·exact hi
  ·exfalso
   unfold vX at e2;rw[dP (by simpa using hi),qj] at e2
   split at e2 <;> cases e2
 rw[dC hi] at e1;unfold vX at e2;rw[dC (by simpa using hi),dG,bH] at e2;obtain ⟨j,hj,hN⟩:=hcap.get e1;rw[hj] at e2;have e3:(σ[j]?).join=some v:=by simpa using e2
 have e4:σ[j]?=some (some v):=by
  cases q:σ[j]? with
  | none=>rw[q] at e3;cases e3
  | some o=>rw[q] at e3;simp at e3;rw[e3]
 have hx:x∈capN:=au e1;have hk:=B.caps x hx;obtain ⟨m0,_,hl⟩:=I.loc;obtain ⟨u,r,l⟩:=hl j x v hN e4 (.inr hk);refine ⟨u,r,.inr ⟨vo (B.capf x hx),?_⟩⟩;rcases l with ⟨hk2,_⟩ | ⟨_,c,hc,z⟩
 ·rcases hk with hk | hk
  ·rw[hk] at hk2;cases hk2
  ·rw[hk] at hk2;cases hk2
 ·exact ⟨c,BV B I hx hc,kc x c hc _ z⟩
theorem CD (I:Inv X pins σ Z.H Z.s) {b:Addr} (h:b∈jd X.stack):@LT.lt Nat instLTNat b Z.s.heap.objs.size:=by
 obtain ⟨_,o,ho,_⟩:=I.stack.mem h;exact Heap.lt_size ho
theorem xU {cap:List Nat} {h1:Heap} {D:Addr} {oD:Obj} {t1:Nat} (I:Inv X pins σ Z.H Z.s) (hc:X.calm=true) (B:Bk X.env scope own capN) (hcap:mL X capN cap) (hC:Z.s.heap.objs.size<=Z.C)
  (hcl:CellsOk h1 (Z.C+1) (cellsFrom (Z.C+1) scope.names [])) (hf:∀b∈Z.fp,jN X pins Z.H b/\@LT.lt Nat instLTNat b Z.s.heap.objs.size)
  (hk:∀b o,Z.s.heap.get? b=some o->h1.get? b=some o) (hn:h1.Ns Z.C λ_=>none) (hD:Z.s.heap.objs.size<=D) (hDC:D≠Z.C) (hoD:h1.get? D=some oD) (hdD:∀v,oD.data≠.cell v) :
  Inv (jK X own capN scope Z) [(D,oD)] (vX own.length cap σ) Z.H { Z.s with heap:=h1,toks:=t1 }:=by
 refine ⟨D4 I hc B hC hcl hf,rfl,I.bare,Un.kept hk,⟨_,hn,λi x v e1 e2 _=>vR I B hcap (λx c _ v z=>z.keeps hk) e1 e2⟩,λx c h=>?_,I.hok.fresh hC,λx c h=>?_,λp hp=>?_,I.hok.kept hk,?_⟩
 ·rcases eO B I h with ⟨_,m⟩ | ⟨_,_,m⟩
  ·exact ⟨none,(hcl.empty _ _ m).1⟩
  ·obtain ⟨v,q⟩:=I.cell x c m;exact ⟨v,q.keeps hk⟩
 ·rcases eO B I h with ⟨_,m⟩ | ⟨_,_,m⟩
  ·exact I.hok.fresh (by have:=(hcl.empty _ _ m).2;lia)
  ·exact I.freeC x c m
 ·have e:p=(D,oD):=by simpa [jK] using hp
  subst e;exact ⟨hoD,I.hok.fresh hD,hDC,λz=>bA _ (av (CD I z) hD),hdD⟩
 ·show (vX own.length cap σ).length=(own++capN).length
  have:=congrArg List.length hcap;simp only[ay] at this;unfold vX;simp [this]
theorem vS {cap:List Nat} {pins':List (Addr×Obj)} {σ':St} {H':Hp} {s':Shared} (I:Inv X pins σ Z.H Z.s) (B:Bk X.env scope own capN) (hcap:mL X capN cap) (hf:∀b∈Z.fp,jN X pins Z.H b/\@LT.lt Nat instLTNat b Z.s.heap.objs.size)
  (J:Inv (jK X own capN scope Z) pins' σ' H' s'):Inv (jK X own capN scope Z) pins' (vX own.length cap σ) H' s':=by
 refine ⟨J.ok,J.os,J.bare,J.base,?_,J.cell,J.free,J.freeC,J.pin,J.hok,?_⟩
 ·obtain ⟨m,hn,_⟩:=J.loc;refine ⟨m,hn,λi x v e1 e2 _=>vR I B hcap (λx c hx v z=>?_) e1 e2⟩;obtain ⟨o,ho,hd⟩:=z;obtain ⟨sl,e⟩:=J.base.any ho (I.freeC x c hx) λz=>(hf c z).1.2.2.2.2.1 x c hx rfl
  exact ⟨_,e,hd⟩
 ·show (vX own.length cap σ).length=(own++capN).length
  have:=congrArg List.length hcap;simp only[ay] at this;unfold vX;simp [this]
theorem xV {σ':St} {H':Hp} {s':Shared} {D:Addr} {its:List Value} {n:Nat} {ys:List V} (I:Inv X pins σ Z.H Z.s) (hf:∀b∈Z.fp,jN X pins Z.H b/\@LT.lt Nat instLTNat b Z.s.heap.objs.size) (hD:Z.s.heap.objs.size<=D)
  (J:Inv (jK X own capN scope Z) [(D,{ cls:=.type "list",data:=.seq its.toArray n })] σ' H' s') (r:bO ys its) (hz:ys.length<=sizeLine) :
  Inv X pins σ (upd H' D (.lst ys)) s':=by
 have pD:=J.pin (D,{ cls:=.type "list",data:=.seq its.toArray n }) (by simp);have ne:∀{b:Addr} {o:Obj},Z.s.heap.get? b=some o->b≠D:=λe z=>by subst z;exact bA _ (av (Heap.lt_size e) hD)
 have nt:∀{b:Addr} {u:HO},H' b=some u->b≠D:=λe z=>by rw[z,pD.2.1] at e;cases e
 refine I.call' (ch:=Z.fp) J.os ⟨J.base.keep,J.base.slot,λb o e h hx=>?_,J.base.there,λb xs e=>?_,λb o u e=>?_,λb ps e=>?_⟩ (λb u e=>?_) J.bare λb hb=>?_
 ·rw[aU (ne e)];exact J.base.free b o e h hx
 ·have q:=J.base.tups b xs e;rw[aU (nt q)];exact q
 ·have q:=J.base.frzs b o u e;rw[aU (nt q)];exact q
 ·obtain ⟨more,q⟩:=J.base.tbls b ps e;exact ⟨more,by rw[aU (nt q)];exact q⟩
 ·by_cases hb:b=D
  ·subst hb;rw[aA] at e;cases e;exact ⟨hz,its,n,r,pD.1⟩
  ·rw[aU hb] at e;exact (J.hok b u e).stay (λc v _ q=>q) (λc q=>by rw[aU (nt q)];exact q) λc xs q=>by rw[aU (nt q)];exact q
 ·obtain ⟨_,f1,_,f3,f4,f5⟩:=(hf b hb).1;exact ⟨f3,f1,f4,f5⟩
end
theorem y7 {α:Type} {t:Sem α} {Q Q':α->Shared->Prop} {M:Model} {A:Around} {E:Value->Shared->Prop} {s:Shared} (h:wpAny M A t Q (λ_ _=>False) s) (hQ:∀a s,Q a s->Q' a s):wpAny M A t Q' E s :=
 wpAny_mono h hQ λ_ _ z=>False.elim z
theorem uM {prog:Program} {w:World} {A:Around} {R:Result->Shared->Prop} {s:Shared} {elt target iter:Expr} {ifs:List Expr} {scope:Scope} {pos:Pos} {it acc:Value} {env:Env} (I:Nat->Shared->Prop)
  (turn:∀(E:Value->Shared->Prop) n s,I n s->wpAny (model prog w) A (pyNext it) (λr s₁=>match r with
   | none=>R (.ok .next) s₁
   | some v=>wpAny (model prog w) A (letOwnedTupleGo target it v) (λ_ s₂=>wpAny (model prog w) A (assign target env v) (λ_ s₃ =>
     wpAny (model prog w) A (forIn ifs true λc r=>if r=true then do let ok <- isTrue c env (eval c env);pure (ForInStep.yield ok) else pure (ForInStep.yield r)) (λok s₄ =>
      if ok=true then wpAny (model prog w) A (eval elt env) (λx s₅=>wpAny (model prog w) A (call (.builtin "list.append") [acc,x]) (λ_ s₆=>∃m,m < n/\I m s₆) E s₅) E s₄
      else ∃m,m < n/\I m s₄) E s₃) E s₂) E s₁) E s)
  (n:Nat) (h:I n s):codeAny (model prog w) A (.compLoop (.ListComp elt [⟨target,iter,ifs,0⟩] scope pos) 0 it acc env) R s:=by
 refine codeAny_loop rfl I (λn s hI=>?_) n h;show wpAny _ A ((compTurn (.ListComp elt [⟨target,iter,ifs,0⟩] scope pos) 0 it acc env).onRaise (λx=>do noteFrame x env;theTreesLotGoes x)) _ _ s
 refine wpAny_noted ?_;rw[compTurn_list];refine wpAny_bind (wpAny_standAt (wpAny_bind (wpAny_mono (turn _ n s hI) (λr s₁ h₁=>?_) λ_ _ h'=>h')));cases r with
 | none=>exact wpAny_pure h₁
 | some v =>
  refine wpAny_bind (wpAny_mono h₁ (λ_ s₂ h₂=>wpAny_bind (wpAny_mono h₂ (λ_ s₃ h₃=>wpAny_bind (wpAny_mono h₃ (λok s₄ h₄=>?_) λ_ _ h'=>h')) λ_ _ h'=>h')) λ_ _ h'=>h');cases ok with
  | false=>exact wpAny_pure ⟨rfl,h₄⟩
  | true =>
   exact wpAny_bind (wpAny_bind (wpAny_mono h₄ (λx s₅ h₅=>wpAny_bind (wpAny_mono h₅ (λ_ s₆ h₆=>wpAny_pure (wpAny_pure ⟨rfl,h₆⟩)) λ_ _ h'=>h')) λ_ _ h'=>h'))
def PF (X:Cx) (ifs:List Expr) (t:TT):Prop :=
 ∀(pins:List (Addr×Obj)) (s:Shared) (σ:St) (H:Hp) (Q:Bool->Hp->Prop),Inv X pins σ H s->t σ H Q →
  wpAny (model X.prog X.w) X.A (forIn ifs true λc r=>if r=true then do let ok <- isTrue c X.env (eval c X.env);pure (ForInStep.yield ok) else pure (ForInStep.yield r)) (TP X pins σ Q) X.xe s
def Em:TT:=λ_ H Q=>Q true H
theorem c8 {X:Cx}:PF X [] Em:=λ_ _ _ H _ I h=>wpAny_tests_nil ⟨H,I,h⟩
def nK (σ₀:St) (g:TG) (tf:TT) (te:TE) (x:V) (H:Hp) (NY:V->Hp->Prop) (NN:Hp->Prop):Prop :=
 g x σ₀ H λσ2 H2=>tf σ2 H2 λb H3=>if b=true then te σ2 H3 NY else NN H3
def oI (J:It) (σ₀:St) (g:TG) (tf:TT) (te:TE) (Q:VK) (H1:Hp):Prop :=
 ∃W:Nat->Nat->List V->Hp->Prop,(∃m,W 0 m [] H1)/\∀i m ys H,W i m ys H →
  (J.stop i H/\ys.length<=sizeLine/\∀p,H p=none->Q (.ref p) (upd H p (.lst ys))) \/
  (J.go i H/\ys.length < sizeLine/\∃(NY:V->Hp->Prop) (NN:Hp->Prop),(∀y H',NY y H'->∃m',m' < m/\W (i+1) m' (ys++[y]) H')/\(∀H',NN H'->∃m',m' < m/\W (i+1) m' ys H') /\
   ∀x H',J.yld i H x H'->nK σ₀ g tf te x H' NY NN)
def qO (wi:TI) (k:Nat) (cap:List Nat) (g:TG) (tf:TT) (te:TE):TE:=λσ H Q=>wi σ H λJ H1=>oI J (vX k cap σ) g tf te Q H1
abbrev lobj (its:List Value) (n:Nat):Obj:={ cls:=.type "list",data:=.seq its.toArray n }
section
variable {X:Cx} {own capN:List Str} {cap:List Nat} {scope:Scope} {elt tg iter:Expr} {ifs:List Expr} {pos:Pos} {wi:TI} {g:TG} {tf:TT} {te:TE}
theorem tP {use:Option (Value->Sem Unit)} {Qe:Value->Shared->Prop} {fpos:Pos} (hc:X.calm=true) (B:Bk X.env scope own capN) (hcap:mL X capN cap)
  (hi:PI X tg iter wi) (hg:∀Z,PG (jK X own capN scope Z) tg g) (hf:∀Z,PF (jK X own capN scope Z) ifs tf) (he:∀Z,PE (jK X own capN scope Z) elt te)
  (hs:∀x,foldedSetIterable iter X.env x=pure x) {pins:List (Addr×Obj)} {s:Shared} {σ:St} {H:Hp} {Q:VK} (I:Inv X pins σ H s) (h:qO wi own.length cap g tf te σ H Q)
  (fin:∀(D C:Addr) (s':Shared) (H':Hp),Inv X pins σ H' s'->jN X pins H' C->(∃m,s'.heap.Ns C m)->Q (.ref D) H'->compPost (model X.prog X.w) X.A X.xe use Qe (.ref D) C (.ok .next) s') :
  wpAny (model X.prog X.w) X.A (comprehension (.ListComp elt [⟨tg,iter,ifs,0⟩] scope pos) scope X.env fpos (newList []) false (eval iter X.env) use) Qe X.xe s:=by
 refine wpAny_comprehension_free (use:=use) rfl hs (lI λy hy hk=>I.ok.has y.1 (B.caps _ (B.frees y hy hk).1)) B.kind B.locs ?_;refine dz (hi pins s σ H _ I h) λv s1 h1=>dz h1 λitv s2 h2=>?_
 obtain ⟨it,fp,tn,J,H2,e,I2,T,st2,f2,W,⟨m0,w0⟩,turn⟩:=h2;subst e;have hfp:∀b∈fp,jN X pins H2 b/\@LT.lt Nat instLTNat b s2.heap.objs.size:=λb hb=>⟨f2 b hb,let ⟨_,e,_⟩:=T.obj _ _ st2 b hb;Heap.lt_size e⟩
 refine wpAny_newObj_type (pK ?_) (bf _);have es:(s2.heap.push { cls:=.type "list",data:=.seq ([]:List Value).toArray }).objs.size=s2.heap.objs.size+1:=Heap.size_push ..
 show codeAny _ _ (.compStart _ 0 (.ref it) (.ref s2.heap.objs.size) { newEnv scope (s2.heap.push { cls:=.type "list",data:=.seq ([]:List Value).toArray }).objs.size X.env.globals (cellsFrom ((s2.heap.push { cls:=.type "list",data:=.seq ([]:List Value).toArray }).objs.size+1) scope.names (cw X.env scope.names [])) X.env.qual none .none (some X.env) builtinsNs with scope:=relabel scope X.env })
  (compPost (model X.prog X.w) X.A X.xe use Qe (.ref s2.heap.objs.size) (s2.heap.push { cls:=.type "list",data:=.seq ([]:List Value).toArray }).objs.size)
  { s2 with heap:=pushCells ((s2.heap.push { cls:=.type "list",data:=.seq ([]:List Value).toArray }).push { cls:=.type "dict",data:=.dict #[] }) scope.names }
 have hk1:∀b o,(s2.heap.push { cls:=.type "list",data:=.seq ([]:List Value).toArray }).get? b=some o->(pushCells ((s2.heap.push { cls:=.type "list",data:=.seq ([]:List Value).toArray }).push { cls:=.type "dict",data:=.dict #[] }) scope.names).get? b=some o :=
  λb o e=>pushCells_keeps _ _ _ _ (Heap.get?_push_of_some _ e)
 have hk:∀b o,s2.heap.get? b=some o->(pushCells ((s2.heap.push { cls:=.type "list",data:=.seq ([]:List Value).toArray }).push { cls:=.type "dict",data:=.dict #[] }) scope.names).get? b=some o:=λb o e=>hk1 b o (Heap.get?_push_of_some _ e)
 have hoD:=hk1 s2.heap.objs.size _ (Heap.get?_push_size s2.heap (o:={ cls:=.type "list",data:=.seq ([]:List Value).toArray }) rfl);have hn:=(Heap.Ns.new (s2.heap.push { cls:=.type "list",data:=.seq ([]:List Value).toArray }) (.type "dict")).keeps (pushCells_keeps scope.names _);have hcl:=tw ((s2.heap.push { cls:=.type "list",data:=.seq ([]:List Value).toArray }).push { cls:=.type "dict",data:=.dict #[] }) (s2.heap.objs.size+1) (by rw[Heap.size_push,es]) scope.names;rw[es] at hn ⊢;generalize pushCells ((s2.heap.push { cls:=.type "list",data:=.seq ([]:List Value).toArray }).push { cls:=.type "dict",data:=.dict #[] }) scope.names=h3 at hk hoD hn hcl ⊢;have Z:Bz:=⟨s2,H2,fp,s2.heap.objs.size+1⟩
 have I3:Inv (jK X own capN scope ⟨s2,H2,fp,s2.heap.objs.size+1⟩) [(s2.heap.objs.size,lobj [] 0)] (vX own.length cap σ) H2 { s2 with heap:=h3 } :=
  xU (Z:=⟨s2,H2,fp,s2.heap.objs.size+1⟩) (t1:=s2.toks) I2 hc B hcap (kB _) hcl hfp hk hn (ax _) (bq (gQ _)) hoD (λv z=>nomatch z)
 have st3:tn 0 h3:=T.keep _ _ _ st2 λb _ o e=>hk b o e
 have loop:codeAny (model X.prog X.w) X.A (.compLoop (.ListComp elt [⟨tg,iter,ifs,0⟩] scope pos) 0 (.ref it) (.ref s2.heap.objs.size) (lK X.env scope (s2.heap.objs.size+1))) (compPost (model X.prog X.w) X.A X.xe use Qe (.ref s2.heap.objs.size) (s2.heap.objs.size+1)) { s2 with heap:=h3 }:=by
  refine uM (λm s'=>∃i ys σ' H' its n,Inv (jK X own capN scope ⟨s2,H2,fp,s2.heap.objs.size+1⟩) [(s2.heap.objs.size,lobj its n)] σ' H' s'/\tn i s'.heap/\(∀b∈fp,H' b=none)/\bO ys its/\W i m ys H') ?_ m0
   ⟨0,[],_,H2,[],0,I3,st3,λb hb=>(f2 b hb).1,.nil,w0⟩
  rintro E n s4 ⟨i,ys,σ4,H4,its,k,I4,st4,fr4,rv,w4⟩
  have fpo:∀{pp:List (Addr×Obj)} {H':Hp},(∀p∈pp,p.1=s2.heap.objs.size)->(∀b∈fp,H' b=none)->∀b∈fp,jN (jK X own capN scope ⟨s2,H2,fp,s2.heap.objs.size+1⟩) pp H' b:=λ{pp H'} hpp hn b hb=>by
   obtain ⟨e1,e2⟩:=I4.ok.exf b hb;refine ⟨hn b hb,e1,I4.ok.exfs b hb,.inl hb,e2,λp hp=>?_⟩;have hp':p∈pp:=by simpa [jK] using hp
   have l:=(hfp b hb).2;rw[hpp p hp'];exact λz=>bA _ (by rw[<- z] at l;exact l)
  have pinD:∀{its:List Value} {n:Nat},∀p∈[(s2.heap.objs.size,lobj its n)],p.1=s2.heap.objs.size:=λp hp=>by simp at hp;rw[hp]
  rcases turn i n ys H4 w4 with ⟨stop,hz,q⟩ | ⟨go,hlt,NY,NN,hNY,hNN,step⟩
  ·refine dz (T.done (jK X own capN scope ⟨s2,H2,fp,s2.heap.objs.size+1⟩) rfl rfl rfl rfl i _ s4 σ4 H4 E I4 (fpo pinD fr4) st4 stop) λr s5 ⟨hr,I5⟩=>?_
   subst hr;have pD:=I5.pin (s2.heap.objs.size,lobj its k) (by simp);have I6:=xV (Z:=⟨s2,H2,fp,s2.heap.objs.size+1⟩) I2 hfp (ax _) I5 rv hz
   have hC:upd H4 s2.heap.objs.size (.lst ys) (s2.heap.objs.size+1)=none:=by
    rw[aU (yd (gQ _))];exact I5.free
   obtain ⟨m,hm,_⟩:=I5.loc;exact fin _ _ s5 _ I6 (I2.fpOk (kB _) hC) ⟨m,hm⟩ (q _ pD.2.1)
  ·refine dz (T.item (jK X own capN scope ⟨s2,H2,fp,s2.heap.objs.size+1⟩) rfl rfl rfl rfl i _ s4 σ4 H4 E I4 (fpo pinD fr4) st4 go) λr s5 ⟨u,hr,h5⟩=>?_
   subst hr;refine dz h5 λ_ s6 ⟨x,H6,I6,r6,y6,st6,fr6⟩=>?_
   have I6':=(vS (Z:=⟨s2,H2,fp,s2.heap.objs.size+1⟩) I2 B hcap hfp I6).pinned (fpo pinD fr6) (T.obj _ _ st6)
   have back:∀{σ7:St} {H7:Hp} {s7:Shared},Inv (jK X own capN scope ⟨s2,H2,fp,s2.heap.objs.size+1⟩) ([(s2.heap.objs.size,lobj its k)]++oX fp s6.heap) σ7 H7 s7 →
     Inv (jK X own capN scope ⟨s2,H2,fp,s2.heap.objs.size+1⟩) [(s2.heap.objs.size,lobj its k)] σ7 H7 s7/\tn (i+1) s7.heap/\∀b∈fp,H7 b=none:=λ{σ7 H7 s7} I7=>by
    refine ⟨I7.unpinned,T.keep _ _ _ st6 λb hb o e=>(I7.pin (b,o) (aT _ (aT _ (gG hb e)))).1,λb hb=>?_⟩;obtain ⟨o,e,d⟩:=T.obj _ _ st6 b hb;exact (I7.pin (b,o) (aT _ (aT _ (gG hb e)))).2.1
   refine y7 (hg _ _ s6 _ H6 x u _ I6' r6 (step x H6 y6)) λ_ s7 ⟨σ7,H7,I7,q7⟩=>?_
   refine y7 (hf _ _ s7 σ7 H7 _ I7 q7) λok s8 ⟨H8,I8,q8⟩=>?_
   cases ok with
   | false =>
    rw[if_neg aP] at q8 ⊢;obtain ⟨m',hm,w8⟩:=hNN H8 q8;obtain ⟨J1,J2,J3⟩:=back I8;exact ⟨m',hm,i+1,ys,σ7,H8,its,k,J1,J2,J3,rv,w8⟩
   | true =>
    rw[if_pos rfl] at q8 ⊢;refine y7 (he _ _ s8 σ7 H8 _ I8 q8) λz s9 ⟨y,H9,I9,r9,q9⟩=>?_
    obtain ⟨J1,J2,J3⟩:=back I9;obtain ⟨m',hm,w9⟩:=hNY y H9 q9;have pD:=J1.pin (s2.heap.objs.size,lobj its k) (by simp);have hl:=rv.length;refine call_meets F.slot_list_append ⟨_,pD.1,rfl⟩ F.entry_list_append (F.args_list_append_2 _ _) (yc s2.heap.objs.size its.toArray k z (by rw[aw];lia)) ⟨pD.1,?_⟩;have e9:=yR pD.1 (λa=>a.push z);have e9':(its.toArray.push z)=(its++[z]).toArray:=by simp
    rw[e9'] at e9;obtain ⟨n',e9⟩:∃n',(s9.heap.update s2.heap.objs.size (Obj.mapSeq λa=>a.push z)).get? s2.heap.objs.size=some (lobj (its++[z]) n'):=⟨_,e9⟩
    have J4:Inv (jK X own capN scope ⟨s2,H2,fp,s2.heap.objs.size+1⟩) [] σ7 H9 { s9 with heap:=s9.heap.update s2.heap.objs.size (Obj.mapSeq λa=>a.push z),toks:=s9.toks } :=
     (J1.pins_of (pins':=[]) λp hp=>nomatch hp).turned (λb o hb e=>(Heap.get?_update_other s9.heap _ (Ne.symm hb)).trans e) pD.2.1 pD.2.2.1 (.inr (ax _)) (λx c hx z=>by
      rcases eO (Z:=⟨s2,H2,fp,s2.heap.objs.size+1⟩) B I2 hx with ⟨_,m⟩ | ⟨_,_,m⟩
      ·have:=(hcl.empty _ _ m).2;have z':@Eq Nat c s2.heap.objs.size:=z
       lia
      ·have:=qE (Z:=⟨s2,H2,fp,s2.heap.objs.size+1⟩) I2 m;rw[z] at this;exact bA _ this) λp hp=>by simp [jK] at hp
    have nfp:∀b∈fp,b≠s2.heap.objs.size:=λb hb z=>by have:=(hfp b hb).2;rw[z] at this;exact bA _ this
    refine ⟨m',hm,i+1,ys++[y],σ7,H9,its++[z],n',J4.pins_of λp hp=>?_,T.keep _ _ _ J2 λb hb o e=>(Heap.get?_update_other s9.heap _ (Ne.symm (nfp b hb))).trans e,J3,rv.append (.cons r9 .nil),w9⟩;have ep:p=(s2.heap.objs.size,lobj (its++[z]) n'):=by simpa using hp
    rw[ep];exact ⟨e9,pD.2.1,pD.2.2.1,pD.2.2.2.1,λv z=>nomatch z⟩
 exact codeAny_compStart_list loop (T.self _ _ _ _ _ st3 loop)
theorem du (own capN:List Str) (cap:List Nat) (hi:PI X tg iter wi) (hg:∀Z,PG (jK X own capN scope Z) tg g) (hf:∀Z,PF (jK X own capN scope Z) ifs tf) (he:∀Z,PE (jK X own capN scope Z) elt te)
  (h1:Fk scope own capN=true:=by decide +kernel) (h2:rW X.env capN=true:=by rfl) (hcap:mL X capN cap:=by rfl) (hc:X.calm=true:=by rfl) (hs:∀x,foldedSetIterable iter X.env x=pure x:=by intro _;rfl) :
  PE X (.ListComp elt [⟨tg,iter,ifs,0⟩] scope pos) (qO wi own.length cap g tf te):=by
 intro pins s σ H Q I h;rw[eval_ListComp];refine tP (use:=none) hc (Bk.of h1 h2) hcap hi hg hf he hs I h λD C s' H' I' fC hm q=>?_
 obtain ⟨m,hm⟩:=hm;refine ⟨m,hm,λh' hs'=>?_⟩;obtain ⟨f0,f1,f2,f3,f4,f5⟩:=fC;exact ⟨.ref D,H',I'.turned (t':=s'.toks) (λb o hb e=>(hs'.2 b hb).trans e) f0 f1 f3 f4 f5,rfl,q⟩
theorem qA (i:Nat) (own capN:List Str) (cap:List Nat) {x:Str} {pos' spos:Pos} (hN:X.N.Nodup) (hi':X.N[i]?=some x) (hx:X.env.scope.names.lookup x=some .local) (hi:PI X tg iter wi) (hg:∀Z,PG (jK X own capN scope Z) tg g) (hf:∀Z,PF (jK X own capN scope Z) ifs tf) (he:∀Z,PE (jK X own capN scope Z) elt te)
  (h1:Fk scope own capN=true:=by decide +kernel) (h2:rW X.env capN=true:=by rfl) (hcap:mL X capN cap:=by rfl) (hc:X.calm=true:=by rfl) (hs:∀x,foldedSetIterable iter X.env x=pure x:=by intro _;rfl)
  (hsw:swapsWith (.ListComp elt [⟨tg,iter,ifs,0⟩] scope pos) (some (.Name x pos')) spos.line X.env=pure true:=by rfl) :
  PS X (.Assign [.Name x pos'] (.ListComp elt [⟨tg,iter,ifs,0⟩] scope pos) spos) (AQ (qO wi own.length cap g tf te) (xM i)):=by
 intro pins s σ H D I h;rw[exec_Assign_Name_used _ _ _ _ hsw];refine wpAny_bind (wpAny_standAt (wpAny_bind ?_));rw[arm_evalThenUse_ListComp];refine wpAny_bind (tP (Q:=λv H1=>D.nx (σ.set i (some v)) H1) (use:=some _) hc (Bk.of h1 h2) hcap hi hg hf he hs I h λL C s' H' I' fC hm q=>?_);obtain ⟨m,hm⟩:=hm;obtain ⟨f0,f1,f2,f3,f4,f5⟩:=fC;refine wpAny_assign_Name (sW I' hN hi' (.inl hx) (v:=.ref L) rfl (λs'' I'' ⟨a,sb,ha⟩=>?_) (.inr hx))
 have hCa:C≠a:=by
  rcases ha with e | e
  ·rw[e];exact f1
  ·exact (f4 x a e).symm
 refine ⟨m,hm.at' λo e=>(sb.2 C hCa).trans e,λh' hs'=>?_⟩;have I3:=I''.turned (h':=h') (t':=s''.toks) (λb o hb e=>(hs'.2 b hb).trans e) f0 f1 f3 f4 f5;exact wpAny_pure (wpAny_pure ⟨_,H',I3,q⟩)
end
section
variable {K:FG9} {a:Addr} {xs:List V} {g:TG} {tf:TT} {te:TE} {Q:VK} {σ₀:St} {H:Hp}
theorem de (Pv:Nat->List V->Hp->Prop) (hz:xs.length<=sizeLine) (h0:Pv 0 [] H) (hl:∀i ys H,i<=xs.length->Pv i ys H->bD K H a xs)
  (hs:∀i x ys H,xs[i]?=some x->ys.length<=i->Pv i ys H->nK σ₀ g tf te x H (λy H'=>Pv (i+1) (ys++[y]) H') (λH'=>Pv (i+1) ys H'))
  (hd:∀ys H,ys.length<=xs.length->Pv xs.length ys H->∀p,H p=none->Q (.ref p) (upd H p (.lst ys))):oI (CM K a) σ₀ g tf te Q H:=by
 refine ⟨λi m ys H=>m=xs.length - i/\i<=xs.length/\ys.length<=i/\Pv i ys H,⟨xs.length,by simp,bf _,bf _,h0⟩,?_⟩;rintro i m ys H ⟨rfl,hi,hy,p⟩;have q:=hl i ys H hi p;by_cases hlt:i < xs.length
 ·refine .inr ⟨⟨xs,xs[i],q,by simp [hlt]⟩,by lia,λy H'=>Pv (i+1) (ys++[y]) H',λH'=>Pv (i+1) ys H',λy H' p'=>⟨xs.length - (i+1),by lia,rfl,hlt,by rw[ai,bQ];lia,p'⟩,λH' p'=>⟨xs.length - (i+1),by lia,rfl,hlt,by lia,p'⟩,λx H' y=>?_⟩;obtain ⟨e,y⟩:=y;subst e;exact hs i x ys _ (y xs q) hy p
 ·have e:i=xs.length:=by lia
  subst e;exact .inl ⟨⟨xs,q,ax _⟩,by lia,hd ys H hy p⟩
theorem nH {lo:Int} {n:Nat} (Pv:Nat->List V->Hp->Prop) (hz:n<=sizeLine) (h0:Pv 0 [] H)
  (hs:∀i ys H,i < n->ys.length<=i->Pv i ys H->nK σ₀ g tf te (.int (lo+i)) H (λy H'=>Pv (i+1) (ys++[y]) H') (λH'=>Pv (i+1) ys H'))
  (hd:∀ys H,ys.length<=n->Pv n ys H->∀p,H p=none->Q (.ref p) (upd H p (.lst ys))):oI (yb lo n) σ₀ g tf te Q H:=by
 refine ⟨λi m ys H=>m=n - i/\i<=n/\ys.length<=i/\Pv i ys H,⟨n,by simp,bf _,bf _,h0⟩,?_⟩;rintro i m ys H ⟨rfl,hi,hy,p⟩;by_cases hlt:i < n
 ·refine .inr ⟨hlt,by lia,λy H'=>Pv (i+1) (ys++[y]) H',λH'=>Pv (i+1) ys H',λy H' p'=>⟨n - (i+1),by lia,rfl,hlt,by rw[ai,bQ];lia,p'⟩,λH' p'=>⟨n - (i+1),by lia,rfl,hlt,by lia,p'⟩,λx H' y=>?_⟩;obtain ⟨e,y⟩:=y;subst e y;exact hs i ys _ hlt hy p
 ·have e:i=n:=by lia
  subst e;exact .inl ⟨ax _,by lia,hd ys H hy p⟩
end
open Nm
def mM (i j:Int):Prop:=Ea i j\/∃m n,Sz m i/\Sz n j/\m+n<=1000000
def vW (i j:Int):Prop:=j≠0/\Sz 8999 j
theorem rY {k:Nat} {i:Int} (h:Sz k i):Builtin.Int.intBits i<=k:=by
 unfold Builtin.Int.intBits;by_cases e:i=0
 ·subst e;simp
 ·have e':(i == 0)=false:=by simpa using e
  rw[e'];have hn:i.natAbs≠0:=by lia
  have:=(Nat.log2_lt hn).mpr h;simp only[v7,if_false]
  lia
theorem mM.ok {i j:Int} (h:mM i j):IntMulOk i j:=by
 rcases h with h | ⟨m,n,h1,h2,h3⟩
 ·exact h.ok
 ·have e:(2:Nat)^20=1048576:=by decide
  exact .of_bits (by have:=rY h1;lia) (by have:=rY h2;lia)
section
variable {X:Cx} {a b:Expr} {ta tb:TE} {pos:Pos}
theorem cp:qt X (binaryOp .Mult) (rI mM λi j=>.int (i*j)):=Fw λ_ _ _ _ _ _ _ hc q=>mul_int q hc.ok
theorem nV:qt X (binaryOp .FloorDiv) (rI vW λi j=>.int (i.fdiv j)):=Fw λi j _ _ _ _ _ hc q=>by
 refine floordiv_int hc.1 q (.inl (PyProof.noPylong_of_log2 ?_));have hn:j.natAbs≠0:=by have:=hc.1;lia
 have:=(Nat.log2_lt hn).mpr hc.2
 lia
def Ep (t u:TS):TS:=λD σ H=>∃N:St->Hp->Prop,t { D with nx:=N } σ H/\∀σ' H',N σ' H'->u D σ' H'
theorem eJ {st:Stmt} {rest:List Stmt} {t u:TS} (h1:PS X st t) (h2:uR X rest u):uR X (st :: rest) (Ep t u):=by
 intro pins s σ H D I h;obtain ⟨N,h,k⟩:=h;refine wpAny_execs_cons (dz (h1 pins s σ H { D with nx:=N } I h) λf s1 q=>?_);cases f with
 | next =>
  obtain ⟨σ',H',I',q⟩:=q;exact h2 pins s1 σ' H' D I' (k _ _ q)
 | ret v=>exact q
 | brk=>exact q
 | cont=>exact q
def Cr (K:FG9):V->V->Hp->VK->Prop:=λo i H Q=>∃p xs k v,o=.ref p/\i=.int k/\bD K H p xs/\yN xs k=some v/\Q v H
theorem Ah:Fm X (Cr X.K):=by
 intro pins s σ H o i ov iv Q I ro ri h;obtain ⟨p,xs,k,z,rfl,rfl,hq,he,q⟩:=h;cases ro;obtain ⟨t,rfl⟩:=ri;obtain ⟨its,r,pl,hz⟩:=I.list hq;obtain ⟨j,h1,h2,h3,h4,h5⟩:=qF he;obtain ⟨w,ew,rw'⟩:=r.get h2;have hl:=r.length;have hn:=nB;have fin:EP X pins σ Q w s:=⟨z,H,I,rw',q⟩;by_cases h0:0<=k
 ·have hj:k.toNat=j:=by
   rw[seqIndex_of h0 h5] at h1;exact aQ h1
  exact wpAny_getItem_list pl.isList h0 (by lia) (by rw[hj];simpa using ew) fin
 ·have hj:(k+(its.toArray.size:Int)).toNat=j:=by
   rw[seqIndex_neg (by lia) h4] at h1;rw[aw,<- hl];exact aQ h1
  exact wpAny_getItem_list_neg pl.isList (by lia) (by rw[aw] <;> lia) (by lia) (by rw[hj];simpa using ew) fin
def wx (K:FG9) (T:String):V->Hp->VK->Prop:=λx H Q=>∃t b,nI K H x t/\PySem.W.kitOne K t (.type T)=some b/\Q (.bl b) H
theorem kf {c:Str} {T:String} {p p2:Pos} (hg:Gl X "isinstance") (hm:X.mg "isinstance"=none) (hb:bootBuiltins c=some (.type T)) (hmc:X.mg c=none) (ha:PE X a ta) (hgc:Gl X c:=by rfl) (hn:c≠"__name__":=by decide)
  (hd:(c == ("__debug__":Str))=false:=by decide) (he:starEach [a,.Name c p2] X.env=[(false,eval a X.env),(false,eval (.Name c p2) X.env)]:=by rfl)
  (hpl:(backTo pos (starEach [.Name c p2] X.env)).any (·.1)=false:=by rfl) (he2:starEach [.Name c p2] X.env=[(false,eval (.Name c p2) X.env)]:=by rfl):PE X (.Call (.Name "isinstance" p) [a,.Name c p2] [] pos) (Cc (wx X.K T) ta):=by
 intro pins s σ H Q I h;refine wpAny_Call_Name_kw (jJ I hg hm PyProof.Rows.boot_isinstance ?_);have hA:PA X [a,.Name c p2] (fu ta (fu (tC (.ty T)) qN)):=aa ha (aa (uq hgc hmc hb rfl hn hd) ae he2) (by rw[he,he2])
 have hq:fu ta (fu (tC (.ty T)) qN) σ H (λvs H1=>∃x,vs=[x,.ty T]/\wx X.K T x H1 Q):=by
  show ta σ H λx H1=>∃x',[x,V.ty T]=[x',V.ty T]/\wx X.K T x' H1 Q
  have e:(λx H1=>∃x',[x,V.ty T]=[x',V.ty T]/\wx X.K T x' H1 Q)=λx H1=>wx X.K T x H1 Q:=by
   funext x H1;apply propext;constructor
   ·rintro ⟨x',e,q⟩;cases e;exact q
   ·intro q;exact ⟨x,rfl,q⟩
  rw[e];exact h
 refine PyProof.Rows.callWith_builtin1 (dz (hA pos pins s σ H _ I hq) λus s1 ⟨vs,H1,I1,r1,x,e,q1⟩=>?_) (by rw[he,he2]) hpl;subst e;obtain ⟨u,w',rfl,ru,rt⟩:=vals2 r1;cases rt;obtain ⟨t,bb,ty,ek,q⟩:=q1;exact ph I1 ru ty ek λtk=>⟨.bl bb,H1,I1.tok tk,rfl,q⟩
end
structure Kind (α:Type) [DecidableEq α] where
 R:FG9->Hp->V->α->Prop
 d:Nat
 inj:∀{X:Cx} {pins:List (Addr×Obj)} {σ:St} {H:Hp} {s:Shared} {x:V} {a b:α},Inv X pins σ H s->R X.K H x a->R X.K H x b->a=b
 rc:∀{X:Cx} {pins:List (Addr×Obj)} {σ:St} {H:Hp} {s:Shared} {x y:V} {v u:Value} {a b:α} {A:Around},Inv X pins σ H s->RelV x v->RelV y u->R X.K H x a->R X.K H y b->A.units+d < cLine->SeqAt.RcAt A s v u (decide (a=b))
 ne:∀{X:Cx} {pins:List (Addr×Obj)} {σ:St} {H:Hp} {s:Shared} {x y:V} {v u:Value} {a b:α} {A:Around},Inv X pins σ H s->RelV x v->RelV y u->R X.K H x a->R X.K H y b->A.units+d < cLine->SeqAt.RcNeAt A s v u (!decide (a=b))
 eq:∀{X:Cx} {pins:List (Addr×Obj)} {σ:St} {H:Hp} {s:Shared} {x y:V} {v u:Value} {a b:α} {A:Around},Inv X pins σ H s->RelV x v->RelV y u->R X.K H x a->R X.K H y b->A.units+d < cLine->SeqAt.EqAt A s v u (decide (a=b))
def BI:Kind Int where
 R:=λ_ _ x i=>x=.int i
 d:=0
 inj:=λ_ h1 h2=>by rw[h1] at h2;cases h2;rfl
 rc:=λ{X pins σ H s x y v u a b A} I rx ry h1 h2 _=>by
  subst h1 h2;obtain ⟨t,rfl⟩:=rx;obtain ⟨t',rfl⟩:=ry;have q:=SeqAt.RcAt.int_int (A:=A) (s:=s) a t b t';rwa [dH] at q
 ne:=λ{X pins σ H s x y v u a b A} I rx ry h1 h2 _=>by
  subst h1 h2;obtain ⟨t,rfl⟩:=rx;obtain ⟨t',rfl⟩:=ry;have q:=SeqAt.RcNeAt.int_int (A:=A) (s:=s) a t b t';rwa [dH] at q
 eq:=λ{X pins σ H s x y v u a b A} I rx ry h1 h2 _=>by
  subst h1 h2;obtain ⟨t,rfl⟩:=rx;obtain ⟨t',rfl⟩:=ry;have q:=SeqAt.EqAt.int_int (A:=A) (s:=s) a t b t';rwa [dH] at q
theorem iQ {α β:Type} {F:α->β->Prop}:∀{l1:List α} {l2:List β} {i:Nat} (_:Paired F l1 l2) (h1:i < l1.length) (h2:i < l2.length),F l1[i] l2[i]
 | _,_,_,.nil,h1,_=>absurd h1 (Nat.not_lt_zero _)
 | _,_,0,.cons r _,_,_=>r
 | _,_,i+1,.cons _ t,h1,h2=>iQ (i:=i) t (Nat.lt_of_succ_lt_succ h1) (Nat.lt_of_succ_lt_succ h2)
theorem iP {α β:Type} {F:α->β->Prop} (hF:∀a b x,F a x->F b x->a=b):∀{l1 l2:List α} {l:List β},Paired F l1 l->Paired F l2 l->l1=l2
 | _,_,_,.nil,.nil=>rfl
 | _,_,_,.cons r t,.cons r' t'=>by rw[hF _ _ _ r r',iP hF t t']
theorem oo {α:Type} [DecidableEq α] (as bs:List α) (h:as.length=bs.length):(List.range as.length).all (λj=>decide (as[j]?=bs[j]?))=decide (as=bs):=by
 rw[fz,cB,decide_eq_true_iff];constructor
 ·intro q;apply List.ext_getElem?;intro i;by_cases hi:i < as.length
  ·exact of_decide_eq_true (q i (mQ.mpr hi))
  ·rw[j2 (by lia),j2 (by lia)]
 ·rintro rfl i _;simp
section
variable {α:Type} [DecidableEq α] (k:Kind α)
theorem Kind.items {X:Cx} {pins:List (Addr×Obj)} {σ:St} {H:Hp} {s:Shared} {A:Around} (I:Inv X pins σ H s) (hA:A.units+k.d < cLine) {xs ys:List V} {us ws:List Value} {as bs:List α}
  (rx:bO xs us) (ry:bO ys ws) (ha:Paired (λa x=>k.R X.K H x a) as xs) (hb:Paired (λa x=>k.R X.K H x a) bs ys) :
  ∀j (h1:j < us.toArray.size) (h2:j < ws.toArray.size),SeqAt.EqAt A s us.toArray[j] ws.toArray[j] (decide (as[j]?=bs[j]?)):=λj h1 h2=>by
 have l1:j < us.length:=by simpa using h1
 have l2:j < ws.length:=by simpa using h2
 have e1:=rx.length;have e2:=ry.length;have e3:=ha.length;have e4:=hb.length;obtain ⟨u,hu,ru⟩:=rx.get (i:=j) (x:=xs[j]'(by lia)) (by simp);obtain ⟨w,hw,rw'⟩:=ry.get (i:=j) (x:=ys[j]'(by lia)) (by simp);have q:=k.eq (A:=A) I ru rw' (iQ ha (by lia) (by lia)) (iQ hb (by lia) (by lia)) hA
 have eu:us.toArray[j]=u:=by
  have:=hu;rw[aF l1] at this;simpa using this
 have ew:ws.toArray[j]=w:=by
  have:=hw;rw[aF l2] at this;simpa using this
 rw[eu,ew,aF (show j < as.length by lia),aF (show j < bs.length by lia)];have e5:decide (some as[j]=some bs[j])=decide (as[j]=bs[j]):=by simp
 rw[e5];exact q
theorem t4 {α:Type} [DecidableEq α] (as bs:List α) {n m:Nat} (h1:as.length=n) (h2:bs.length=m):((List.range (min n m)).all (λj=>decide (as[j]?=bs[j]?)) && n == m)=decide (as=bs):=by
 subst h1 h2;by_cases e:as.length=bs.length
 ·rw[show min as.length bs.length=as.length by lia,oo as bs e];simp [e]
 ·have h1:(as.length == bs.length)=false:=by simpa using e
  rw[h1,CW];exact (decide_eq_false λz=>e (by rw[z])).symm
def FL:Kind (List α) where
 R:=λK H x as=>∃p xs,x=.ref p/\i8 K H p xs/\Paired (λa x=>k.R K H x a) as xs
 d:=k.d+1
 inj:=λ{X pins σ H s x a b} I h1 h2=>by
  obtain ⟨p,xs,rfl,hp,pa⟩:=h1;obtain ⟨q,ys,e,hq,pb⟩:=h2;cases e;have e:=I.tuple_inj hp hq;subst e;exact iP (F:=λa x=>k.R X.K H x a) (λa b x=>k.inj I) pa pb
 rc:=λ{X pins σ H s x y v u a b A} I rx ry h1 h2 hA=>by
  obtain ⟨p,xs,rfl,hp,pa⟩:=h1;obtain ⟨q,ys,rfl,hq,pb⟩:=h2;cases rx;cases ry;obtain ⟨us,r1,t1,_⟩:=I.tuple hp;obtain ⟨ws,r2,t2,_⟩:=I.tuple hq;have z:=SeqAt.RcAt.tuples (A:=A) (e:=λj=>decide (a[j]?=b[j]?)) (show s.heap.IsTuple p us.toArray from t1) (show s.heap.IsTuple q ws.toArray from t2) (by lia) (k.items (A:=A.in1) I (by show A.units+1+k.d < cLine;lia) r1 r2 pa pb);rwa [t4 a b (by rw[pa.length,r1.length];simp) (by rw[pb.length,r2.length];simp)] at z
 ne:=λ{X pins σ H s x y v u a b A} I rx ry h1 h2 hA=>by
  obtain ⟨p,xs,rfl,hp,pa⟩:=h1;obtain ⟨q,ys,rfl,hq,pb⟩:=h2;cases rx;cases ry;obtain ⟨us,r1,t1,_⟩:=I.tuple hp;obtain ⟨ws,r2,t2,_⟩:=I.tuple hq;have z:=SeqAt.RcNeAt.tuples (A:=A) (e:=λj=>decide (a[j]?=b[j]?)) (show s.heap.IsTuple p us.toArray from t1) (show s.heap.IsTuple q ws.toArray from t2) (by lia) (k.items (A:=A.in1) I (by show A.units+1+k.d < cLine;lia) r1 r2 pa pb);rwa [t4 a b (by rw[pa.length,r1.length];simp) (by rw[pb.length,r2.length];simp)] at z
 eq:=λ{X pins σ H s x y v u a b A} I rx ry h1 h2 hA=>by
  obtain ⟨p,xs,rfl,hp,pa⟩:=h1;obtain ⟨q,ys,rfl,hq,pb⟩:=h2;cases rx;cases ry;by_cases e:p=q
  ·subst e;have e:=I.tuple_inj hp hq;subst e;rw[iP (F:=λa x=>k.R X.K H x a) (λa b x=>k.inj I) pa pb,decide_eq_true rfl];exact SeqAt.EqAt.same _
  ·obtain ⟨us,r1,t1,_⟩:=I.tuple hp;obtain ⟨ws,r2,t2,_⟩:=I.tuple hq;have z:=SeqAt.RcAt.tuples (A:=A) (e:=λj=>decide (a[j]?=b[j]?)) (show s.heap.IsTuple p us.toArray from t1) (show s.heap.IsTuple q ws.toArray from t2) (by lia) (k.items (A:=A.in1) I (by show A.units+1+k.d < cLine;lia) r1 r2 pa pb);rw[t4 a b (by rw[pa.length,r1.length];simp) (by rw[pb.length,r2.length];simp)] at z;exact .of_refs e z
theorem wK {X:Cx} {pins:List (Addr×Obj)} {σ:St} {H:Hp} {s:Shared} {p q:Addr} {xs ys:List V} {a b:List α} {A:Around} (I:Inv X pins σ H s) (hp:bD X.K H p xs) (hq:bD X.K H q ys)
  (pa:Paired (λa x=>k.R X.K H x a) a xs) (pb:Paired (λa x=>k.R X.K H x a) b ys) (hA:A.units+(k.d+1) < cLine) :
  SeqAt.RcAt A s (.ref p) (.ref q) (decide (a=b))/\SeqAt.RcNeAt A s (.ref p) (.ref q) (!decide (a=b)):=by
 obtain ⟨us,r1,t1,_⟩:=I.list hp;obtain ⟨ws,r2,t2,_⟩:=I.list hq;have l1:=r1.length;have l2:=r2.length;have l3:=pa.length;have l4:=pb.length;by_cases e:us.length=ws.length
 ·have it:=k.items (A:=A.in1) I (by show A.units+1+k.d < cLine;lia) r1 r2 pa pb;have z:=SeqAt.RcAt.lists (A:=A) (e:=λj=>decide (a[j]?=b[j]?)) t1.isList t2.isList (by simpa using e) (by lia) it;have z2:=SeqAt.RcNeAt.lists (A:=A) (e:=λj=>decide (a[j]?=b[j]?)) t1.isList t2.isList (by simpa using e) (by lia) it;have e1:us.toArray.size=a.length:=by rw[aw];lia
  rw[e1,oo a b (by lia)] at z z2;exact ⟨z,z2⟩
 ·have hne:¬a=b:=λz=>e (by have:=congrArg List.length z;lia)
  rw[decide_eq_false hne];exact ⟨SeqAt.RcAt.lists_lengths t1.isList t2.isList (by simpa using e) (by lia),SeqAt.RcNeAt.lists_lengths t1.isList t2.isList (by simpa using e) (by lia)⟩
def yB:Kind (List α) where
 R:=λK H x as=>∃p xs,x=.ref p/\bD K H p xs/\Paired (λa x=>k.R K H x a) as xs
 d:=k.d+1
 inj:=λ{X pins σ H s x a b} I h1 h2=>by
  obtain ⟨p,xs,rfl,hp,pa⟩:=h1;obtain ⟨q,ys,e,hq,pb⟩:=h2;cases e;have e:=I.list_inj hp hq;subst e;exact iP (F:=λa x=>k.R X.K H x a) (λa b x=>k.inj I) pa pb
 rc:=λ{X pins σ H s x y v u a b A} I rx ry h1 h2 hA=>by
  obtain ⟨p,xs,rfl,hp,pa⟩:=h1;obtain ⟨q,ys,rfl,hq,pb⟩:=h2;cases rx;cases ry;exact (wK k I hp hq pa pb hA).1
 ne:=λ{X pins σ H s x y v u a b A} I rx ry h1 h2 hA=>by
  obtain ⟨p,xs,rfl,hp,pa⟩:=h1;obtain ⟨q,ys,rfl,hq,pb⟩:=h2;cases rx;cases ry;exact (wK k I hp hq pa pb hA).2
 eq:=λ{X pins σ H s x y v u a b A} I rx ry h1 h2 hA=>by
  obtain ⟨p,xs,rfl,hp,pa⟩:=h1;obtain ⟨q,ys,rfl,hq,pb⟩:=h2;cases rx;cases ry;by_cases e:p=q
  ·subst e;have e:=I.list_inj hp hq;subst e;rw[iP (F:=λa x=>k.R X.K H x a) (λa b x=>k.inj I) pa pb,decide_eq_true rfl];exact SeqAt.EqAt.same _
  ·exact .of_refs e (wK k I hp hq pa pb hA).1
def Kind.via {β:Type} [DecidableEq β] (f:β->α) (fi:∀a b,f a=f b->a=b) (R':FG9->Hp->V->β->Prop) (im:∀{K H x b},R' K H x b->k.R K H x (f b)):Kind β where
 R:=R'
 d:=k.d
 inj:=λI h1 h2=>fi _ _ (k.inj I (im h1) (im h2))
 rc:=λ{X pins σ H s x y v u a b A} I rx ry h1 h2 hA=>by
  have z:=k.rc (A:=A) I rx ry (im h1) (im h2) hA;rwa [decide_eq_decide.mpr (show f a=f b↔a=b from ⟨fi a b,λe=>by rw[e]⟩)] at z
 ne:=λ{X pins σ H s x y v u a b A} I rx ry h1 h2 hA=>by
  have z:=k.ne (A:=A) I rx ry (im h1) (im h2) hA;rwa [decide_eq_decide.mpr (show f a=f b↔a=b from ⟨fi a b,λe=>by rw[e]⟩)] at z
 eq:=λ{X pins σ H s x y v u a b A} I rx ry h1 h2 hA=>by
  have z:=k.eq (A:=A) I rx ry (im h1) (im h2) hA;rwa [decide_eq_decide.mpr (show f a=f b↔a=b from ⟨fi a b,λe=>by rw[e]⟩)] at z
end
def jM (K:FG9) (H:Hp) (x:V) (n:Int×Int):Prop:=∃p,x=.ref p/\i8 K H p [.int n.1,.int n.2]
def BH:Kind (Int×Int):=(FL BI).via (λn=>[n.1,n.2]) (λa b e=>by cases a;cases b;simp at e;rw[e.1,e.2]) jM λ⟨p,e,h⟩=>⟨p,_,e,h,.cons rfl (.cons rfl .nil)⟩
def E3:Kind (List (Int×Int)):=yB BH
def FI (K:FG9):R2:=λx y H Q=>∃(α:Type) (_:DecidableEq α) (k:Kind α) (a b:α),k.d<=50/\k.R K H x a/\k.R K H y b/\Q (.bl (decide (a=b))) H
def FF (K:FG9):R2:=λx y H Q=>∃(α:Type) (_:DecidableEq α) (k:Kind α) (a b:α),k.d<=50/\k.R K H x a/\k.R K H y b/\Q (.bl (!decide (a=b))) H
theorem wA {X:Cx} (hu:X.A.units+50 < cLine):qt X (compareOp .Eq) (FI X.K):=by
 intro pins s σ H x y v u Q I rx ry h;obtain ⟨α,_,k,a,b,hd,ha,hb,q⟩:=h;exact k.rc (A:=X.A) I rx ry ha hb (by lia) _ _ _ _ ⟨.bl (decide (a=b)),H,I,rfl,q⟩
theorem ni {X:Cx} (hu:X.A.units+50 < cLine):qt X (compareOp .NotEq) (FF X.K):=by
 intro pins s σ H x y v u Q I rx ry h;obtain ⟨α,_,k,a,b,hd,ha,hb,q⟩:=h;exact k.ne (A:=X.A) I rx ry ha hb (by lia) _ _ _ _ ⟨.bl (!decide (a=b)),H,I,rfl,q⟩
theorem qr {A:Around} {k:Nat} (hr:hR k A):A.units+50 < cLine:=by have:=hr.units;lia
def Inner (H:Hp) (p q:Addr):Prop:=∃a b c:Int,H p=some (.lst [.int a,.int b,.int c,.ref q])
def bW (p:Addr) (H H':Hp):Prop:=(∀b o,H b=some o->b≠p->H' b=some o)/\∀q,Inner H p q->Inner H' p q
theorem bW.refl {p:Addr} (H:Hp):bW p H H:=⟨λ_ _ h _=>h,λ_ h=>h⟩
theorem bW.trans {p:Addr} {H H1 H2:Hp} (a:bW p H H1) (b:bW p H1 H2):bW p H H2:=⟨λc o h n=>b.1 c o (a.1 c o h n) n,λq h=>b.2 q (a.2 q h)⟩
theorem Inner.inj {H:Hp} {p q q':Addr} (h:Inner H p q) (h':Inner H p q'):q=q':=by
 obtain ⟨a,b,c,e⟩:=h;obtain ⟨a',b',c',e'⟩:=h';rw[e] at e';have:=HO.lst.inj (aQ e');simp at this;exact this.2.2.2
theorem bW.set {p q:Addr} {H:Hp} {a b c a' b' c':Int} (h:H p=some (.lst [.int a,.int b,.int c,.ref q])):bW p H (upd H p (.lst [.int a',.int b',.int c',.ref q])) :=
 ⟨λb u h n=>by rw[aU n];exact h,λq' h'=>by
  rw[(Inner.inj ⟨a,b,c,h⟩ h').symm];exact ⟨a',b',c',aA⟩⟩
theorem aD.upto {p:Addr} {H H':Hp} (h:aD H H'):bW p H H':=⟨λb o e _=>h b o e,λq ⟨a,b,c,e⟩=>⟨a,b,c,h _ _ e⟩⟩
theorem aD.new {H:Hp} {p:Addr} {o:HO} (h:H p=Option.none):aD H (upd H p o):=λb u e=>by rw[aU (cZ e h)];exact e
theorem aD.sqt {K:FG9} {H H':Hp} {a:Addr} {xs:List V} (e:aD H H') (h:i8 K H a xs):i8 K H' a xs:=by
 rcases h with (h | ⟨o,h⟩) | h
 ·exact .inl (.inl (e _ _ h))
 ·exact .inl (.inr ⟨o,e _ _ h⟩)
 ·exact .inr h
theorem aD.num {K:FG9} {H H':Hp} {x:V} {n:Int×Int} (e:aD H H') (h:jM K H x n):jM K H' x n:=by obtain ⟨p,q,r⟩:=h;exact ⟨p,q,e.sqt r⟩
section
variable {σ:St} {H:Hp} {D:Ends}
theorem aV {t:TS} {σ0 σ:St} {D:Ends} {H:Hp} (e:σ0=σ) (h:t D σ H):t D σ0 H:=by rw[e];exact h
theorem Di {t u:TS} (h:t { D with nx:=u D } σ H):Er t u D σ H:=h
theorem A5 (h:D.nx σ H):Cg D σ H:=h
theorem DC {te:TE} {g:TG} (h:te σ H λx H1=>g x σ H1 D.nx):AQ te g D σ H:=h
theorem zS {i:Nat} {v:V} {Q:St->Hp->Prop} (h:Q (σ.set i (some v)) H):xM i v σ H Q:=h
theorem Dj {te:TE} (h:te σ H D.rt):Es te D σ H:=h
theorem Dw {c:TT} {t u:TS} (h:c σ H λb H1=>if b=true then t D σ H1 else u D σ H1):Ez c t u D σ H:=h
theorem Bf {te:TE} (h:te σ H λ_ H1=>D.nx σ H1):Cj te D σ H:=h
theorem Dk {i j:Nat} {ta:TA} (h:ta σ H λvs H1=>∃v w,vs=[v,w]/\D.nx ((σ.set i (some v)).set j (some w)) H1):Et i j ta D σ H:=h
theorem Bj {to ti te:TE} {tget:V->V->Hp->VK->Prop} {tip:Fl} {tset:wZ}
  (h:to σ H λo H1=>ti σ H1 λi H2=>tget o i H2 λx H3=>te σ H3 λy H4=>tip x y H4 λz H5=>tset o i z H5 λH6=>D.nx σ H6):Ck to ti te tget tip tset D σ H:=h
theorem Dv {f:Int->Int->Int} {i j:Int} {Q:VK} (h:Q (.int (f i j)) H):ipI f (.int i) (.int j) H Q:=⟨i,j,rfl,rfl,h⟩
theorem Dx {wi:TI} {g:TG} {tb:TS} (h:wi σ H λJ H1=>∃W:Nat->Nat->St->Hp->Prop,(∃m,W 0 m σ H1)/\∀i m σ H,W i m σ H →
  (J.stop i H/\D.nx σ H)\/(J.go i H/\∃N:St->Hp->Prop,(∀σ' H',N σ' H'->∃m',m' < m/\W (i+1) m' σ' H')/\∀x H',J.yld i H x H'->g x σ H' λσ2 H2=>tb { D with nx:=N,ct:=N,bk:=D.nx } σ2 H2)):EA wi g tb D σ H:=h
variable {Q:VK} {QA:List V->Hp->Prop} {QB:Bool->Hp->Prop}
theorem Dd {i:Nat} {v:V} (e:σ[i]?=some (some v)) (h:Q v H):C0 i σ H Q:=⟨v,e,h⟩
theorem FD {v:V} (h:Q v H):tC v σ H Q:=h
theorem EN {r:R2} {ta tb:TE} (h:ta σ H λx H1=>tb σ H1 λy H2=>r x y H2 Q):Ew r ta tb σ H Q:=h
theorem EJ {r:V->Hp->VK->Prop} {ta:TE} (h:ta σ H λx H1=>r x H1 Q):Cc r ta σ H Q:=h
theorem ES {g:Int->Int->V} {i j:Int} (h:Q (g i j) H):Cq g (.int i) (.int j) H Q:=⟨i,j,rfl,rfl,h⟩
theorem gD {C:Int->Int->Prop} {g:Int->Int->V} {i j:Int} (hc:C i j) (h:Q (g i j) H):rI C g (.int i) (.int j) H Q:=⟨i,j,rfl,rfl,hc,h⟩
theorem FE {g:Int->V} {i:Int} (h:Q (g i) H):rU g (.int i) H Q:=⟨i,rfl,h⟩
theorem DA {i j:Int} (h:Q (.bl (decide (i=j))) H):FJ (.int i) (.int j) H Q:=⟨rfl,by
 have e:decide (V.int i=V.int j)=decide (i=j):=by simp
 rw[e];exact h⟩
theorem Dq {i j:Int} (h:Q (.bl (!decide (i=j))) H):FG (.int i) (.int j) H Q:=⟨rfl,by
 have e:decide (V.int i=V.int j)=decide (i=j):=by simp
 rw[e];exact h⟩
theorem Dz {i j:Str} (h:Q (.bl (decide (i=j))) H):FJ (.str i) (.str j) H Q:=⟨rfl,by
 have e:decide (V.str i=V.str j)=decide (i=j):=by simp
 rw[e];exact h⟩
theorem Dp {i j:Str} (h:Q (.bl (!decide (i=j))) H):FG (.str i) (.str j) H Q:=⟨rfl,by
 have e:decide (V.str i=V.str j)=decide (i=j):=by simp
 rw[e];exact h⟩
theorem A1 {t:TE} (h:t σ H λx H'=>∃k,x=.bl k/\QB k H'):Cd t σ H QB:=h
theorem EK {t:TE} (h:t σ H λx H'=>∃k,x=.bl k/\QB k H'):tB t σ H QB:=h
theorem DD {t u:TT} (h:t σ H λc H1=>if c=true then u σ H1 QB else QB false H1):EC t u σ H QB:=h
theorem EM {t u:TT} (h:t σ H λc H1=>if c=true then QB true H1 else u σ H1 QB):tOr t u σ H QB:=h
theorem Dm {t:TT} (h:t σ H λc H1=>QB (!c) H1):Ex t σ H QB:=h
theorem Bl {t u:TE} (h:t σ H λx H1=>∃c,x=.bl c/\if c=true then u σ H1 Q else Q (.bl false) H1):Cm t u σ H Q:=h
theorem Dl {t u:TE} (h:t σ H λx H1=>∃c,x=.bl c/\if c=true then Q (.bl true) H1 else u σ H1 Q):Eu t u σ H Q:=h
theorem A4 {t:TE} (h:t σ H λx H1=>∃c,x=.bl c/\Q (.bl (!c)) H1):Cf t σ H Q:=h
theorem Dc (h:QB true H):Em σ H QB:=h
theorem Dn (h:QA [] H):qN σ H QA:=h
theorem Bg {ta:TE} {tr:TA} (h:ta σ H λx H1=>tr σ H1 λxs H2=>QA (x :: xs) H2):fu ta tr σ H QA:=h
theorem Bi {sp:Sp} {E:XK} {t:TA} (h:t σ H λvs H1=>sp vs H1 Q E):za sp [] E t σ H Q:=by
 have e:(λvs H1=>sp (vs++[]) H1 Q E)=λvs H1=>sp vs H1 Q E:=by funext vs H1;rw[dS]
 show t σ H λvs H1=>sp (vs++[]) H1 Q E
 rw[e];exact h
theorem EO {r:List V->Hp->VK->Prop} {t:TA} (h:t σ H λvs H1=>r vs H1 Q):FC r t σ H Q:=h
theorem Dt {K:FG9} {p:Addr} {xs:List V} {i:Int} {v:V} (hx:i8 K H p xs) (e:yN xs i=some v) (h:Q v H):EV K (.ref p) (.int i) H Q:=⟨p,xs,i,v,rfl,rfl,hx,e,h⟩
theorem cF {K:FG9} {p:Addr} {xs:List V} {i:Int} (hx:bD K H p xs) {v:V} (e:yN xs i=some v) (h:Q v H):Bp K (.ref p) (.int i) H Q:=⟨p,xs,i,v,rfl,rfl,hx,e,h⟩
theorem Be {K:FG9} {p:Addr} {xs:List V} {i:Int} (hx:bD K H p xs) {v:V} (e:yN xs i=some v) (h:Q v H):Cr K (.ref p) (.int i) H Q:=⟨p,xs,i,v,rfl,rfl,hx,e,h⟩
theorem eZ {QH:Hp->Prop} {p:Addr} {xs:List V} {i:Int} {v:V} {j:Nat} {ys:List V} (hx:H p=some (.lst xs)) (e:AB xs.length i=some j) (ey:xs.set j v=ys) (h:QH (upd H p (.lst ys))):Cp (.ref p) (.int i) v H QH:=⟨p,xs,i,j,rfl,rfl,hx,e,by rw[ey];exact h⟩
theorem A9 {to ti:TE} {t:wZ} {v:V} {QS:St->Hp->Prop} (h:to σ H λo H1=>ti σ H1 λi H2=>t o i v H2 λH3=>QS σ H3):Fg to ti t v σ H QS:=h
theorem zT {t:TG} {u:BX} {v:V} {r:List V} {QS:St->Hp->Prop} (h:t v σ H λσ' H'=>u r σ' H' QS):CC t u (v :: r) σ H QS:=⟨v,r,rfl,h⟩
theorem Bc {QS:St->Hp->Prop} (h:QS σ H):Fh [] σ H QS:=⟨rfl,h⟩
theorem A8 {K:FG9} {n:Nat} {t:BX} {a:Addr} {xs:List V} {QS:St->Hp->Prop} (hx:i8 K H a xs) (hl:xs.length=n) (h:t xs σ H QS):Ff K n t (.ref a) σ H QS:=⟨a,xs,rfl,hx,hl,h⟩
theorem EL {r:V->Option Int->Option Int->Hp->VK->Prop} {te:TE} {tl th:TO} (h:te σ H λx H1=>tl σ H1 λl H2=>th σ H2 λu H3=>r x l u H3 Q):tSl r te tl th σ H Q:=h
theorem yt {QO:Option Int->Hp->Prop} (h:QO none H):xh σ H QO:=h
theorem A3 {t:TE} {QO:Option Int->Hp->Prop} (h:t σ H λx H1=>∃i,x=.int i/\QO (some i) H1):Ce t σ H QO:=h
variable {R:It->Hp->Prop} {K:FG9}
theorem zQ {tl:TE} (h:tl σ H λx H1=>∃a,x=.ref a/\(∃xs,bD K H1 a xs)/\R (CM K a) H1):Cy K tl σ H R:=h
theorem A7 {tl:TE} (h:tl σ H λx H1=>∃a,x=.ref a/\(∃xs,i8 K H1 a xs)/\R (Ed K a) H1):Fb K tl σ H R:=h
theorem zP {ta:TA} (h:ta σ H λvs H1=>∃j:Int,vs=[.int j]/\-(2^62)<=j/\j < 2^62/\R (yb 0 j.toNat) H1):Cw ta σ H R:=h
theorem Bh {wi:TI} {k:Nat} {cap:List Nat} {g:TG} {tf:TT} {te:TE} {σ₀:St} (e:vX k cap σ=σ₀) (h:wi σ H λJ H1=>oI J σ₀ g tf te Q H1):qO wi k cap g tf te σ H Q:=by
 unfold qO;rw[e];exact h
theorem A0 {g:TG} {tf:TT} {te:TE} {x:V} {NY:V->Hp->Prop} {NN:Hp->Prop} (h:g x σ H λσ2 H2=>tf σ2 H2 λb H3=>if b=true then te σ2 H3 NY else NN H3):nK σ g tf te x H NY NN:=h
theorem ER {T:String} {r:V->List V->Hp->VK->Prop} {to:TE} {t:TA} (h:to σ H λx H1=>FA K T x H1/\t σ H1 λxs H2=>r x xs H2 Q):tBM K T r to t σ H Q:=h
def Fn (Q:VK) (xs:List V) (H:Hp):Prop:=xs.length<=sizeLine/\∀p,H p=none->Q (.ref p) (upd H p (.tup xs))
def Fo (Q:VK) (xs:List V) (H:Hp):Prop:=xs.length<=sizeLine/\∀p,H p=none->Q (.ref p) (upd H p (.lst xs))
theorem De {t:TA} (h:t σ H (Fn Q)):En t σ H Q:=h
theorem Ds {t:TA} (h:t σ H (Fo Q)):Ey t σ H Q:=h
theorem qW {n:Nat} (h:Nat.ble n 1000=true):n<=sizeLine:=bR (b4 (Nat.le_of_ble_eq_true h))
theorem bz {xs:List V} (h:∀p H',aD H H'->H' p=some (.tup xs)->Q (.ref p) H') (hl:Nat.ble xs.length 1000=true:=by rfl):Fn Q xs H :=
 ⟨qW hl,λp hp=>h p _ (aD.new hp) aA⟩
theorem cE {xs:List V} (h:∀p H',aD H H'->H p=none->H' p=some (.lst xs)->Q (.ref p) H') (hl:Nat.ble xs.length 1000=true:=by rfl):Fo Q xs H :=
 ⟨qW hl,λp hp=>h p _ (aD.new hp) hp aA⟩
theorem E7 {A B:Prop} (h:B):if (!true)=true then A else B:=BJ h
theorem E8 {A B:Prop} (h:A):if (!false)=true then A else B:=E6 h
def WB (tb:TS) (D:Ends) (Pv:St->Hp->Prop) (μ:St->Hp->Nat) (n:Nat) (σ:St) (H:Hp):Prop:=∃N:St->Hp->Prop,(∀σ' H',N σ' H'->∃m',m' < n/\(m'=μ σ' H'/\Pv σ' H'))/\tb { D with nx:=N,ct:=N,bk:=D.nx } σ H
theorem EI {tb:TS} {Pv:St->Hp->Prop} {μ:St->Hp->Nat} {n:Nat} (h:tb { D with nx:=λσ' H'=>Pv σ' H'/\μ σ' H' < n,ct:=λσ' H'=>Pv σ' H'/\μ σ' H' < n,bk:=D.nx } σ H):WB tb D Pv μ n σ H :=
 ⟨_,λσ' H' ⟨p,l⟩=>⟨_,l,rfl,p⟩,h⟩
theorem xg {c:TT} {tb:TS} (Pv:St->Hp->Prop) (μ:St->Hp->Nat) (h0:Pv σ H) (hs:∀σ H,Pv σ H->c σ H λb H1=>if b=true then WB tb D Pv μ (μ σ H) σ H1 else D.nx σ H1):y8 c tb D σ H:=by
 refine ⟨λm σ H=>m=μ σ H/\Pv σ H,⟨_,rfl,h0⟩,?_⟩;rintro m σ H ⟨rfl,p⟩;exact hs σ H p
end
def fU (H:Hp) (p:Addr):Prop:=∃(q:Addr) (a b c:Int) (cs:List Int),H p=some (.lst [.int a,.int b,.int c,.ref q])/\H q=some (.lst (cs.map V.int))/\0<=a/\0<=c/\c<=(cs.length:Int)/\∀x∈cs,(0:Int)<=x
theorem yM {H:Hp} {p q:Addr} {a b c:Int} {cs:List Int} (hp:H p=some (.lst [.int a,.int b,.int c,.ref q])) (hq:H q=some (.lst (cs.map V.int))):q≠p:=λe=>by
 rw[e,hp] at hq;have h:=HO.lst.inj (aQ hq);cases cs with
 | nil=>cases h
 | cons x1 cs=>cases cs with
  | nil=>cases h
  | cons x2 cs=>cases cs with
   | nil=>cases h
   | cons x3 cs=>cases cs with
    | nil=>cases h
    | cons x4 cs=>simp at h
theorem fU.same {H H':Hp} {p:Addr} (h:fU H p) (e:aD H H'):fU H' p:=by obtain ⟨q,a,b,c,cs,h1,h2,r⟩:=h;exact ⟨q,a,b,c,cs,e _ _ h1,e _ _ h2,r⟩
theorem bW.tup {H H':Hp} {p r:Addr} {xs:List V} (u:bW p H H') (B:fU H p) (h:H r=some (.tup xs)):H' r=some (.tup xs):=by
 obtain ⟨q,a,b,c,cs,h1,_⟩:=B;exact u.1 r _ h λe=>by rw[e,h1] at h;cases h
theorem bW.other {H H':Hp} {p r:Addr} {o:HO} (u:bW p H H') (n:r≠p) (h:H r=some o):H' r=some o:=u.1 r _ h n
theorem fU.inner {H:Hp} {p:Addr} (h:fU H p):∃q,Inner H p q/\∃xs,H q=some (.lst xs):=by obtain ⟨q,a,b,c,cs,h1,h2,_⟩:=h;exact ⟨q,⟨a,b,c,h1⟩,_,h2⟩
theorem fU.upd {H:Hp} {p q r:Addr} {o:HO} (h:fU H p) (hi:Inner H p q) (n1:r≠p) (n2:r≠q):fU (L2.upd H r o) p:=by
 obtain ⟨q',a,b,c,cs,h1,h2,z⟩:=h;have e:q'=q:=Inner.inj ⟨a,b,c,h1⟩ hi;subst e;exact ⟨q',a,b,c,cs,by rw[aU n1.symm];exact h1,by rw[aU n2.symm];exact h2,z⟩
theorem Inner.upd {H:Hp} {p q r:Addr} {o:HO} (hi:Inner H p q) (n1:r≠p):Inner (L2.upd H r o) p q:=by obtain ⟨a,b,c,h⟩:=hi;exact ⟨a,b,c,by rw[aU n1.symm];exact h⟩
def AU:Sp:=λvs H Q _=>∃p n,vs=[.ref p,.int n]/\fU H p/\0 < n/\n < 2^64/\∀v H',0<=v->v < n->fU H' p->bW p H H'->Q (.int v) H'
inductive zC (K:FG9) (vs:List V) (H:Hp) (Q:VK) (E9:XK):Prop
 | mk (a:Addr) (ns:List Int):vs=[.ref a]->bD K H a (ns.map V.int)->ns.length<=63->(∀p H',H p=none->fU H' p->aD H H'->Q (.ref p) H')->zC K vs H Q E9
inductive qT (K:FG9) (vs:List V) (H:Hp) (Q:VK) (E9:XK):Prop
 | mk (a:Addr) (ns:List Int):vs=[.ref a]->bD K H a (ns.map V.int)->ns.length<=63->(∀H',Q (.bl true) H')->qT K vs H Q E9
def C2:Sp:=λvs H Q _=>∃t b,vs=[.int t,.int b]/\0 < b/\Sz 8999 b/\∀r H',aD H H'->H' r=some (.tup [.int (lo t b),.int (hi t b)])->Q (.ref r) H'
def EE:Sp:=λvs H Q _=>∃a b,vs=[.int a,.int b]/\Q (.int (g a b)) H
def CG (a b c d:Int):Int:=a*d+c*b
def Ao (a _b c _d:Int):Int:=a*c
def zD (K:FG9) (f:Int->Int->Int->Int->Int):Sp:=λvs H Q _=>∃p q a b c d,vs=[.ref p,.ref q]/\i8 K H p [.int a,.int b]/\i8 K H q [.int c,.int d]/\0 < b/\0 < d/\Sz 4000 a/\Sz 4000 b/\Sz 4000 c/\Sz 4000 d /\
 ∀r H',aD H H'->H' r=some (.tup [.int (lo (f a b c d) (b*d)),.int (hi (f a b c d) (b*d))])->Q (.ref r) H'
theorem cN {α β:Type} {F:α->β->Prop}:∀{l1 l1':List α} {l2 l2':List β},Paired F l1 l2->Paired F l1' l2'->Paired F (l1++l1') (l2++l2')
 | _,_,_,_,.nil,h=>h
 | _,_,_,_,.cons r t,h=>.cons r (cN t h)
section
variable {X:Cx}
theorem lJ (hc:X.calm=true):jY X (.builtin "all") (λxs H Q=>∃(p:Addr) (bs:List Bool),xs=[.ref p]/\bD X.K H p (bs.map V.bl)/\Q (.bl (bs.all id)) H):=by
 intro pins s σ H xs us Q I r h;obtain ⟨p,bs,rfl,hp,q⟩:=h;obtain ⟨u,rfl,ru⟩:=vals1 r;cases ru;obtain ⟨vs,rv,pl,hz⟩:=I.list hp
 have hb:PyProof.Rows.LSm.BoolsAre vs bs:=by
  clear q hp pl hz
  induction bs generalizing vs with
  | nil=>cases rv;exact .nil
  | cons b bs ih =>
   rw[cJ] at rv;cases rv with
   | cons r1 r2=>cases r1;exact .cons b (ih _ r2)
 have hlt:p < s.heap.objs.size:=by obtain ⟨_,e,_⟩:=pl.isList;exact Heap.lt_size e
 refine call_all_walk (wpAny_pyIter_list pl.isList ?_)
 refine ⟨s.heap.objs.size,[s.heap.objs.size,p],[s.heap.objs.size],vs.toArray.size,_,_,λi=>(bs[i]?).getD true,rfl,Walks.list (A:=X.A.in1) (I.ok.hd hc) _ p (bq hlt) vs.toArray,
  ⟨⟨_,Heap.get?_push_size _ rfl,rfl,rfl⟩,pl.isList.push _⟩,λi v s' Q' E' hP hQ=>?_,λh' tk hk=>?_⟩
 ·obtain ⟨b,e,rfl⟩:=hb.get i v (by simpa using hP);simp only[e,yS] at hQ;exact wpAny_truthy_bool hQ
 ·have e:((List.range vs.toArray.size).all λi=>(bs[i]?).getD true)=bs.all id:=by
   rw[aw,hb.length];exact PyProof.Rows.LSm.range_all bs
  rw[e];exact ⟨.bl _,H,I.kept (t':=tk) (PyProof.Rows.LSm.kept_iter hk),rfl,q⟩
end
section
variable {X:Cx}
theorem vI (K:FG9) (hK:X.K=K):Fp X (Bp K):=by subst hK;exact bc
theorem ve (K:FG9) (hK:X.K=K):Fx X (DF K):=by subst hK;exact je
end
section
variable {σ:St} {H:Hp} {D:Ends} {Q:VK}
theorem oV {l:Addr} {xs:List V} {y:V} (hl:H l=some (.lst xs)) (hz:xs.length < sizeLine) (h:Q .non (upd H l (.lst (xs++[y])))):xu (.ref l) [y] H Q:=⟨l,xs,y,rfl,rfl,hl,hz,h⟩
theorem DB {l b:Addr} {xs zs:List V} (h1:H l=some (.lst xs)) (h2:H b=some (.lst zs)) (hz:xs.length+zs.length<=sizeLine) (h:∀p H',aD H H'->H p=none->H' p=some (.lst (xs++zs))->Q (.ref p) H'):EY (.ref l) (.ref b) H Q :=
 ⟨l,b,xs,zs,rfl,rfl,h1,h2,hz,λp hp=>h p _ (aD.new hp) hp aA⟩
theorem nh {K:FG9} {a:Addr} {xs:List V} {lo hi:Option Int} (h1:bD K H a xs) (h:∀p H',aD H H'->H p=none->H' p=some (.lst (mi xs lo hi))->Q (.ref p) H'):DF K (.ref a) lo hi H Q :=
 ⟨a,xs,rfl,h1,λp hp=>h p _ (aD.new hp) hp aA⟩
theorem lL {α:Type} {xs:List α} {i:Int} (h0:0<=i) (h1:i < xs.length):∃v,yN xs i=some v/\v∈xs/\xs[i.toNat]?=some v:=by
 have hj:i.toNat < xs.length:=by lia
 refine ⟨xs[i.toNat],?_,j4 hj,by simp [hj]⟩;have:=c6 (xs:=xs) (j:=i.toNat) (v:=xs[i.toNat]) (by simp [hj]);rwa [Int.toNat_of_nonneg h0] at this
end
theorem dk {α β:Type} {F:α->β->Prop}:∀{l1:List α} {l2:List β} {y:β},Paired F l1 l2->y∈l2->∃x∈l1,F x y
 | _,_,_,.nil,h=>nomatch h
 | _,_,_,.cons r t,h=>by
  rcases az.mp h with rfl | h
  ·exact ⟨_,aE,r⟩
  ·obtain ⟨x,hx,q⟩:=dk t h;exact ⟨x,ao _ hx,q⟩
theorem eL {α β:Type} {F:α->β->Prop} {l1:List α} {l2:List β} {i:Nat} {y:β} (h:Paired F l1 l2) (e:l2[i]?=some y):∃x,l1[i]?=some x/\F x y:=by
 have hl:=h.length;have hi:i < l2.length:=(aK.mp e).1;refine ⟨l1[i]'(by lia),by simp,?_⟩;have:=iQ h (i:=i) (by lia) hi;have e2:l2[i]=y:=(aK.mp e).2;rwa [e2] at this
def ja (n:Int×Int):Prop:=0 < n.2/\Int.gcd n.1 n.2=1/\Sz 8000 n.1/\Sz 8000 n.2
theorem take_snoc {α:Type} {l:List α} {i:Nat} {v:α} (h:l[i]?=some v):l.take (i+1)=l.take i++[v]:=by rw[List.take_add_one,h];rfl
theorem aD.after {H H':Hp} {r:Addr} {o:HO} (s:aD H H') (h:H r=Option.none):aD H (upd H' r o):=λb u e=>by rw[aU (cZ e h)];exact s b u e
theorem bW.after {H H':Hp} {b r:Addr} {o:HO} (s:bW b H H') (h:H r=Option.none):bW b H (upd H' r o):=⟨λc u e n=>by rw[aU (cZ e h)];exact s.1 c u e n,λq hi=>(s.2 q hi).upd λz=>by obtain ⟨_,_,_,e⟩:=hi;rw[<- z,h] at e;cases e⟩
theorem bW.same {H H' H'':Hp} {b:Addr} (s:bW b H H') (e:aD H' H''):bW b H H'':=s.trans e.upto
theorem xX {α:Type} {Pr:α->Prop} {l:List α} {a:α} (h:∀n∈l,Pr n) (ha:Pr a):∀n∈l++[a],Pr n:=λn hn=>by
 rcases aO.mp hn with hn | hn
 ·exact h n hn
 ·have e:n=a:=by simpa using hn
  rw[e];exact ha
section
variable {X:Cx} {pins:List (Addr×Obj)} {σ:St} {H:Hp} {s:Shared}
theorem Inv.moved {h':Heap} {ch:List Addr} {g':Array GenState} {d':Drawn} {t':Nat} (I:Inv X pins σ H s) (fx:∀b∈ch,jN X pins H b) (up:∀b o,b∉ch->s.heap.get? b=some o->h'.get? b=some o) (hg:AllBare g') :
  Inv X pins σ H { s with heap:=h',gens:=g',drawn:=d',toks:=t' }:=by
 have nx:∀b o,H b=some o->b∉ch:=λb o e hb=>by have:=(fx b hb).1;rw[this] at e;cases e
 refine I.step (ch:=ch) (λb hb=>?_) (λb o _ _ hb e _=>up b o hb e) (λb o _ _ hb e _=>⟨o.slots,up b o hb e⟩) (λb o hb e n=>n) (λb o hb e=>⟨o,up b o hb e⟩) (λb q e=>e) (λb o q e=>e) (λb q e=>⟨#[],by rw[e];simp⟩) (λm hm=>?_) (λb o e=>?_) hg
 ·obtain ⟨_,f1,_,f3,f4,f5⟩:=fx b hb;exact ⟨f3,f1,f4,f5⟩
 ·obtain ⟨o,es,ep,ho,r⟩:=hm;exact ⟨o,es,ep,up _ o (λz=>(fx _ z).2.1 rfl) ho,r⟩
 ·refine (I.hok b o e).stay (λc v' hc q=>up c v' ?_ q) (λc q=>q) λc xs q=>q
  rcases hc with rfl | hc
  ·exact nx _ _ e
  ·exact nx _ _ hc
theorem Inv.track {p:Addr} {o:HO} (I:Inv X pins σ H s) (fp:jN X pins H p) (new:dB X.prog X.w (upd H p o) s.heap p o):Inv X pins σ (upd H p o) s:=by
 have nt:∀{b:Addr} {u:HO},H b=some u->b≠p:=λe z=>by rw[z,fp.1] at e;cases e
 refine I.step (h':=s.heap) (g':=s.gens) (d':=s.drawn) (t':=s.toks) (ch:=[p]) (λb hb=>?_) (λb o _ _ _ e _=>e) (λb o _ _ _ e _=>⟨o.slots,e⟩) (λb o hb e n=>?_) (λb o _ e=>⟨o,e⟩) (λb q e=>by rw[aU (nt e)];exact e) (λb o q e=>by rw[aU (nt e)];exact e)
  (λb q e=>⟨#[],by rw[aU (nt e),e];simp⟩) (λm hm=>hm) (λb u e=>?_) I.bare
 ·have e:b=p:=by simpa using hb
  subst e;obtain ⟨_,f1,_,f3,f4,f5⟩:=fp;exact ⟨f3,f1,f4,f5⟩
 ·rw[aU λz=>hb (by simp [z])];exact n
 ·by_cases hb:b=p
  ·subst hb;rw[aA] at e;cases e;exact new
  ·rw[aU hb] at e;exact (I.hok b u e).stay (λc v _ q=>q) (λc q=>by rw[aU (nt q)];exact q) λc xs q=>by rw[aU (nt q)];exact q
end
end L2
namespace Nm
end Nm
namespace L2
open PySem PySem.Spec PyProof.Rows Nm
def lO (K:FG9) (H:Hp) (p:Addr) (ns:List (Int×Int)):Prop:=∃xs,H p=some (.lst xs)/\Paired (λn x=>jM K H x n) ns xs
theorem lO.same {K:FG9} {H H':Hp} {p:Addr} {ns:List (Int×Int)} (h:lO K H p ns) (e:aD H H'):lO K H' p ns:=by obtain ⟨xs,g,q⟩:=h;exact ⟨xs,e _ _ g,Paired.imp' (λ_ _ z=>e.num z) q⟩
theorem lO.kind {K:FG9} {H:Hp} {p:Addr} {ns:List (Int×Int)} (h:lO K H p ns):E3.R K H (.ref p) ns:=by obtain ⟨xs,g,q⟩:=h;exact ⟨p,xs,rfl,bD.of g,q⟩
def vp (K:FG9) (T:String):V->Hp->VK->Prop:=λx H Q=>wx K T x H Q\/∃a xs b,x=.ref a/\i8 K H a xs/\PySem.W.kitOne K (.type "tuple") (.type T)=some b/\Q (.bl b) H
def yn (K:FG9):Sp:=λvs H Q _=>∃x n,vs=[x]/\jM K H x n/\ja n/\∀H',aD H H'->Q (.bl true) H'
inductive oQ (K:FG9) (vs:List V) (H:Hp) (Q:VK) (E9:XK):Prop
 | mk (p:Addr) (ns:List (Int×Int)):vs=[.ref p,.int ns.length]->lO K H p ns->ns.length<=1000->(∀n∈ns,ja n)->(∀H',aD H H'->Q (.bl true) H')->oQ K vs H Q E9
theorem qB {X:Cx} {a:Expr} {ta:TE} {pos:Pos} {c:Str} {T:String} {p p2:Pos} (hg:Gl X "isinstance") (hm:X.mg "isinstance"=none) (hb:bootBuiltins c=some (.type T)) (hmc:X.mg c=none) (ha:PE X a ta) (hgc:Gl X c:=by rfl) (hn:c≠"__name__":=by decide)
  (hd:(c == ("__debug__":Str))=false:=by decide) (he:starEach [a,.Name c p2] X.env=[(false,eval a X.env),(false,eval (.Name c p2) X.env)]:=by rfl)
  (hpl:(backTo pos (starEach [.Name c p2] X.env)).any (·.1)=false:=by rfl) (he2:starEach [.Name c p2] X.env=[(false,eval (.Name c p2) X.env)]:=by rfl):PE X (.Call (.Name "isinstance" p) [a,.Name c p2] [] pos) (Cc (vp X.K T) ta):=by
 intro pins s σ H Q I h;refine wpAny_Call_Name_kw (jJ I hg hm PyProof.Rows.boot_isinstance ?_);have hA:PA X [a,.Name c p2] (fu ta (fu (tC (.ty T)) qN)):=aa ha (aa (uq hgc hmc hb rfl hn hd) ae he2) (by rw[he,he2])
 have hq:fu ta (fu (tC (.ty T)) qN) σ H (λvs H1=>∃x,vs=[x,.ty T]/\vp X.K T x H1 Q):=by
  show ta σ H λx H1=>∃x',[x,V.ty T]=[x',V.ty T]/\vp X.K T x' H1 Q
  have e:(λx H1=>∃x',[x,V.ty T]=[x',V.ty T]/\vp X.K T x' H1 Q)=λx H1=>vp X.K T x H1 Q:=by
   funext x H1;apply propext;constructor
   ·rintro ⟨x',e,q⟩;cases e;exact q
   ·intro q;exact ⟨x,rfl,q⟩
  rw[e];exact h
 refine PyProof.Rows.callWith_builtin1 (dz (hA pos pins s σ H _ I hq) λus s1 ⟨vs,H1,I1,r1,x,e,q1⟩=>?_) (by rw[he,he2]) hpl;subst e;obtain ⟨u,w',rfl,ru,rt⟩:=vals2 r1;cases rt;rcases q1 with ⟨t,bb,ty,ek,q⟩ | ⟨ad,xs,bb,rfl,hs,ek,q⟩
 ·exact ph I1 ru ty ek λtk=>⟨.bl bb,H1,I1.tok tk,rfl,q⟩
 ·cases ru;obtain ⟨its,_,⟨o,g1,g2,_⟩,_⟩:=I1.tuple hs;exact bK PySem.W.kitx_tuple I1.kIn ⟨o,g1,g2⟩ ek (λz=>nomatch z) λtk=>⟨.bl bb,H1,I1.tok tk,rfl,q⟩
theorem vO {xs:List V} {k:Nat}:mi xs (some (k:Int)) none=xs.drop k:=by
 unfold mi;rw[HT.zJ,HT.lR];by_cases h:k<=xs.length
 ·rw[dR h,ba (by simp)]
 ·rw[qg (by lia),qK (by lia),qK (by lia)];simp
theorem fO {n a:Nat} (h:a < n):AB n (a:Int)=some a:=by
 unfold AB;rw[if_pos (by lia),if_pos (by lia),oJ]
theorem kX {α β:Type} {F:α->β->Prop}:∀{l1:List α} {l2:List β} (_:Paired F l1 l2) (k:Nat),Paired F (l1.take k) (l2.take k)
 | _,_,.nil,k=>by simp;exact .nil
 | _,_,.cons h r,0=>.nil
 | _,_,.cons h r,k+1=>.cons h (kX r k)
def Bo (K:FG9):List V->Hp->VK->Prop:=λxs H Q=>∃p ys,xs=[.ref p]/\(bD K H p ys\/i8 K H p ys)/\∀l,H l=none->Q (.ref l) (upd H l (.lst ys))
theorem sO {X:Cx} (K:FG9) (hK:X.K=K):jY X (.type "list") (Bo K):=by subst hK;exact uN
theorem aD.none {H H':Hp} {l:Addr} (s:aD H H') (h:H' l=Option.none):H l=Option.none:=by
 cases e:H l with
 | none=>rfl
 | some o=>have:=s _ _ e;rw[h] at this;cases this
def CN (K:FG9) (H:Hp) (p:Addr) (rows:List (List (Int×Int))):Prop:=∃xs,H p=some (.lst xs)/\Paired (λns x=>∃q,x=V.ref q/\lO K H q ns) rows xs
theorem zc {b:Int} (h:b.natAbs<=1000000):Sz 20 b:=a7 h (by decide)
theorem bW.none {H H':Hp} {b l:Addr} (u:bW b H H') (B:fU H' b) (h:H' l=Option.none):H l=Option.none:=by
 cases e:H l with
 | none=>rfl
 | some o =>
  by_cases z:l=b
  ·obtain ⟨_,_,_,_,_,e2,_⟩:=B;rw[<- z,h] at e2;cases e2
  ·have:=u.1 l o e z;rw[h] at this;cases this
inductive qU (K:FG9) (vs:List V) (H:Hp) (Q:VK) (E9:XK):Prop
 | mk (p:Addr) (rows:List (List (Int×Int))) (m:Nat):vs=[.ref p,.int rows.length,.int m]->CN K H p rows->rows.length<=1000->m<=1000->((∀ns∈rows,ns.length=m/\∀n∈ns,ja n))->(∀H',aD H H'->Q (.bl true) H')->qU K vs H Q E9
end L2
namespace Nm
def nm (q:Rat):Int×Int:=(q.num,(q.den:Int))
theorem o9 (q:Rat):0 < (nm q).2:=by have:=q.den_pos;show 0 < (q.den:Int);lia
theorem wD (q:Rat):Int.gcd (nm q).1 (nm q).2=1:=q.reduced
theorem z7 {p q:Rat} (h:nm p=nm q):p=q:=by
 have h1:p.num=q.num:=congrArg Prod.fst h;have h2:(p.den:Int)=q.den:=congrArg Prod.snd h;exact Rat.ext h1 (by lia)
theorem nY (q:Rat):(q.num:Rat)=q*(q.den:Rat):=by
 have h:=Rat.num_divInt_den q;rw[Rat.divInt_eq_div] at h
 have hd:((q.den:Int):Rat)≠0:=by
  intro z;have z:=qe.mp z;have:=q.den_pos
  lia
 have e:((q.den:Int):Rat)=(q.den:Rat):=cO _
 calc (q.num:Rat)=(q.num:Rat) / ((q.den:Int):Rat)*((q.den:Int):Rat):=(vZ hd).symm
  _=q*(q.den:Rat):=by rw[h,e]
theorem Ct {a b:Int} {q:Rat} (hb:0 < b) (hg:Int.gcd a b=1) (e:q*(b:Rat)=(a:Rat)):(a,b)=nm q:=by
 have h1:a*(q.den:Int)=q.num*b:=by
  apply AF.mp;rw[bE,bE,<- e,nY,cO];grind
 obtain ⟨e1,e2⟩:=uniq hb (o9 q) hg (wD q) h1;exact Prod.ext e1 e2
theorem xF {t b:Int} {q:Rat} (hb:0 < b) (e:q*(b:Rat)=(t:Rat)):(lo t b,hi t b)=nm q:=by
 refine Ct (uG hb) (nZ (by lia)) ?_;have h:=rC t b;have hb':(b:Rat)≠0:=λz=>by have:=qe.mp z;lia
 have h2:((lo t b:Int):Rat)*(b:Rat)=(t:Rat)*((hi t b:Int):Rat):=by rw[<- bE,h,bE]
 rw[<- e] at h2;have h3:(q*((hi t b:Int):Rat) - ((lo t b:Int):Rat))*(b:Rat)=0:=by grind
 rcases Rat.mul_eq_zero.mp h3 with h4 | h4
 ·grind
 ·exact absurd h4 hb'
def Fr (M V:Nat) (q:Rat):Prop:=∃z:Int,q*(M:Rat)=(z:Rat)/\z.natAbs<=V*M
theorem Fr.mono {M V V':Nat} {q:Rat} (h:Fr M V q) (l:V<=V'):Fr M V' q:=by obtain ⟨z,e,b⟩:=h;exact ⟨z,e,ar b (bY _ l)⟩
theorem Fr.scale {M V:Nat} {q:Rat} (h:Fr M V q) (k:Nat):Fr (M*k) V q:=by
 obtain ⟨z,e,b⟩:=h;refine ⟨z*k,?_,?_⟩
 ·rw[AE,bE,<- e,cO,Rat.mul_assoc]
 ·rw[jw,bZ,<- oN];exact bY _ b
theorem Fr.dvd {M N V:Nat} {q:Rat} (h:Fr M V q) (d:M∣N):Fr N V q:=by obtain ⟨k,rfl⟩:=d;exact h.scale k
theorem Fr.add {M V W:Nat} {p q:Rat} (h:Fr M V p) (h':Fr M W q):Fr M (V+W) (p+q):=by
 obtain ⟨z,e,b⟩:=h;obtain ⟨z',e',b'⟩:=h';refine ⟨z+z',by rw[Rat.intCast_add,<- e,<- e',Rat.add_mul],?_⟩;rw[Nat.add_mul];have:=Int.natAbs_add_le z z'
 lia
theorem Fr.mul {M N V W:Nat} {p q:Rat} (h:Fr M V p) (h':Fr N W q):Fr (M*N) (V*W) (p*q):=by
 obtain ⟨z,e,b⟩:=h;obtain ⟨z',e',b'⟩:=h';refine ⟨z*z',?_,?_⟩
 ·rw[AE,bE,<- e,<- e'];grind
 ·rw[jw]
  calc z.natAbs*z'.natAbs<=(V*M)*(W*N):=eS b b'
   _=V*W*(M*N):=by rw[oN,Nat.mul_left_comm M,<- oN]
theorem Fr.int {M V:Nat} {i:Int} (h:i.natAbs<=V):Fr M V (i:Rat):=⟨i*M,by rw[bE,cO],by rw[jw,bZ];exact bY _ h⟩
theorem Fr.den {M V:Nat} {q:Rat} (h:Fr M V q):(q.den:Int)∣(M:Int):=by
 obtain ⟨z,e,b⟩:=h
 have h1:q.num*(M:Int)=z*(q.den:Int):=by
  apply AF.mp;rw[bE,bE,<- e,nY,cO,cO];grind
 have h2:(q.den:Int)∣q.num*(M:Int):=⟨z,by rw[h1,gT]⟩;exact nE (by rw[jx];exact wD q) h2
theorem Fr.den_le {M V:Nat} {q:Rat} (h:Fr M V q) (hM:0 < M):q.den<=M:=Nat.le_of_dvd hM (Fu.mp h.den)
theorem Fr.num_le {M V:Nat} {q:Rat} (h:Fr M V q) (hM:0 < M):q.num.natAbs<=V*M:=by
 have hd:=h.den;obtain ⟨z,e,b⟩:=h;obtain ⟨k,hk⟩:=Fu.mp hd;have hk0:k≠0:=λz=>by rw[z,Nat.mul_zero] at hk;lia
 have h1:z=q.num*(k:Int):=by
  apply AF.mp;rw[bE,<- e,nY,cO,hk,AE];grind
 rw[h1] at b;exact ar (jF (by lia)) b
theorem Fr.own (q:Rat) {V:Nat} (h:q.num.natAbs<=V):Fr q.den V q:=⟨q.num,(nY q).symm,ar h (Ft _ q.den_pos)⟩
theorem Fr.sz {M V k j:Nat} {q:Rat} (h:Fr M V q) (hM:0 < M) (h1:M<=2^k) (h2:V<=2^j):Sz (j+k+1) (nm q).1/\Sz (k+1) (nm q).2:=by
 constructor
 ·show q.num.natAbs < 2^(j+k+1)
  have h3:=h.num_le hM;have h4:V*M<=2^j*2^k:=eS h2 h1;rw[lZ,Az];have:=Nat.two_pow_pos (j+k);rw[Az] at this
  lia
 ·show (q.den:Int).natAbs < 2^(k+1)
  have h3:=h.den_le hM;rw[bZ,lZ];have:=Nat.two_pow_pos k
  lia
end Nm
namespace Nm
def Dr (W:Nat) (x:Rat):Prop:=x.num.natAbs<=W/\x.den<=W
def tj:List Nat->Nat
 | []=>1
 | a :: r=>a*tj r
theorem sZ:∀{l:List Nat},(∀a∈l,0 < a)->0 < tj l
 | [],_=>Nat.one_pos
 | a :: r,h=>Nat.mul_pos (h a (.head _)) (sZ λb hb=>h b (.tail _ hb))
theorem td:∀{l:List Nat} {a:Nat},a∈l->a∣tj l
 | b :: r,a,h=>by
  rcases az.mp h with rfl | h
  ·exact Nat.dvd_mul_right ..
  ·exact Nat.dvd_trans (td h) (Nat.dvd_mul_left ..)
theorem vt {k:Nat}:∀{l:List Nat},(∀a∈l,a<=2^k)->tj l<=2^(k*l.length)
 | [],_=>by simp [tj]
 | a :: r,h=>by
  rw[ah,Nat.mul_succ,Az,ye (2^(k*r.length))];exact eS (h a (.head _)) (vt λb hb=>h b (.tail _ hb))
def GF (M V:Nat) (rows:LR9):Prop:=∀xs∈rows,∀x∈xs,Fr M V x
end Nm
namespace L2
open PySem PySem.Spec PyProof.Rows Nm
theorem bW.sqt {K:FG9} {H H':Hp} {b a:Addr} {xs:List V} (u:bW b H H') (B:fU H b) (h:i8 K H a xs):i8 K H' a xs:=by
 rcases h with (h | ⟨o,h⟩) | h
 ·exact .inl (.inl (u.tup B h))
 ·exact .inl (.inr ⟨o,u.other (λz=>by obtain ⟨_,_,_,_,_,e,_⟩:=B;rw[z,e] at h;cases h) h⟩)
 ·exact .inr h
theorem zg {K:FG9} {H:Hp} {a l:Addr} {xs ys:List V} {o:HO} (h:i8 K H a xs) (hl:H l=some (.lst ys)):i8 K (upd H l o) a xs:=by
 rcases h with (h | ⟨o,h⟩) | h
 ·exact .inl (.inl (by rw[aU λz=>by rw[z,hl] at h;cases h];exact h))
 ·exact .inl (.inr ⟨o,by rw[aU λz=>by rw[z,hl] at h;cases h];exact h⟩)
 ·exact .inr h
def cg (K:FG9) (H:Hp) (q:Rat) (x:V):Prop:=jM K H x (nm q)
section
variable {K:FG9} {H H':Hp} {q:Rat} {x:V} {b l p:Addr} {qs:List Rat}
theorem cg.same (h:cg K H q x) (e:aD H H'):cg K H' q x:=e.num h
theorem cg.upto (h:cg K H q x) (u:bW b H H') (B:fU H b):cg K H' q x:=by obtain ⟨p,e,s⟩:=h;exact ⟨p,e,u.sqt B s⟩
theorem cg.updL {ys:List V} {o:HO} (h:cg K H q x) (hl:H l=some (.lst ys)):cg K (upd H l o) q x:=by obtain ⟨p,e,s⟩:=h;exact ⟨p,e,zg s hl⟩
theorem cg.mk {r:Addr} {a c:Int} (h:H r=some (.tup [.int a,.int c])) (e:(a,c)=nm q):cg K H q (.ref r):=⟨r,rfl,by rw[<- e];exact i8.of h⟩
def fY (K:FG9) (H:Hp) (p:Addr) (qs:List Rat):Prop:=∃xs,H p=some (.lst xs)/\Paired (cg K H) qs xs
theorem fY.same (h:fY K H p qs) (e:aD H H'):fY K H' p qs:=by obtain ⟨xs,g,r⟩:=h;exact ⟨xs,e _ _ g,Paired.imp' (λ_ _ z=>z.same e) r⟩
theorem fY.upto (h:fY K H p qs) (u:bW b H H') (B:fU H b) (n:p≠b):fY K H' p qs:=by obtain ⟨xs,g,r⟩:=h;exact ⟨xs,u.other n g,Paired.imp' (λ_ _ z=>z.upto u B) r⟩
theorem fY.updL {ys:List V} {o:HO} (h:fY K H p qs) (hl:H l=some (.lst ys)) (n:p≠l):fY K (upd H l o) p qs:=by obtain ⟨xs,g,r⟩:=h;exact ⟨xs,by rw[aU n];exact g,Paired.imp' (λ_ _ z=>z.updL hl) r⟩
theorem kY {α β γ:Type} {F:α->β->Prop} {f:γ->α}:∀{l:List γ} {l2:List β},Paired (λc x=>F (f c) x) l l2->Paired F (l.map f) l2
 | _,_,.nil=>.nil
 | _,_,.cons r t=>.cons r (kY t)
theorem fY.rowK (h:fY K H p qs):lO K H p (qs.map nm):=by obtain ⟨xs,g,r⟩:=h;exact ⟨xs,g,kY (F:=λn x=>jM K H x n) r⟩
def jL (K:FG9) (H0 H:Hp) (qs:List Rat) (x:V):Prop:=∃q,x=V.ref q/\H0 q=none/\fY K H q qs
def c7 (K:FG9) (H0 H:Hp) (p:Addr) (rows:LR9):Prop:=∃xs,H p=some (.lst xs)/\Paired (jL K H0 H) rows xs/\V.ref p∉xs
theorem vE {H0:Hp} {K:FG9} {p:Addr} {rows:LR9} {ys:List V} (h:∃H2,H2 p=none/\Paired (jL K H0 H2) rows ys):V.ref p∉ys:=λhm=>by
 obtain ⟨H2,e,pr⟩:=h;obtain ⟨qs,_,q,z,_,xs,g,_⟩:=dk pr hm;cases z;rw[e] at g;cases g
variable {H0:Hp} {rows:LR9}
theorem jL.same (h:jL K H0 H qs x) (e:aD H H'):jL K H0 H' qs x:=by obtain ⟨q,a,b,c⟩:=h;exact ⟨q,a,b,c.same e⟩
theorem jL.upto (h:jL K H0 H qs x) (u:bW b H H') (B:fU H b) (nb:H0 b≠none):jL K H0 H' qs x:=by obtain ⟨q,a,c,d⟩:=h;exact ⟨q,a,c,d.upto u B λz=>nb (by rw[<- z];exact c)⟩
theorem jL.weak (h:jL K H0 H qs x) {H1:Hp} (e:aD H1 H0):jL K H1 H qs x:=by obtain ⟨q,a,b,c⟩:=h;exact ⟨q,a,e.none b,c⟩
theorem c7.same (h:c7 K H0 H p rows) (e:aD H H'):c7 K H0 H' p rows:=by obtain ⟨xs,g,r,n⟩:=h;exact ⟨xs,e _ _ g,Paired.imp' (λ_ _ z=>z.same e) r,n⟩
theorem c7.weak (h:c7 K H0 H p rows) {H1:Hp} (e:aD H1 H0):c7 K H1 H p rows:=by obtain ⟨xs,g,r,n⟩:=h;exact ⟨xs,g,Paired.imp' (λ_ _ z=>z.weak e) r,n⟩
theorem c7.gridK (h:c7 K H0 H p rows):CN K H p (rows.map (List.map nm)):=by obtain ⟨xs,g,r,_⟩:=h;exact ⟨xs,g,kY (F:=λns x=>∃q,x=V.ref q/\lO K H q ns) (Paired.imp' (λ_ _ ⟨q,a,_,c⟩=>⟨q,a,c.rowK⟩) r)⟩
end
def E5:Kind Rat:=BH.via nm (λ_ _ e=>z7 e) (λK H x q=>cg K H q x) id
def Cv:Kind (List Rat):=yB E5
def uC:Kind (LR9):=yB Cv
theorem fY.kind {K:FG9} {H:Hp} {p:Addr} {qs:List Rat} (h:fY K H p qs):Cv.R K H (.ref p) qs:=by obtain ⟨xs,g,q⟩:=h;exact ⟨p,xs,rfl,bD.of g,q⟩
theorem c7.kind {K:FG9} {H0 H:Hp} {p:Addr} {rows:LR9} (h:c7 K H0 H p rows):uC.R K H (.ref p) rows:=by obtain ⟨xs,g,q,_⟩:=h;exact ⟨p,xs,rfl,bD.of g,Paired.imp' (λ_ _ ⟨q,a,_,c⟩=>by rw[a];exact c.kind) q⟩
def Aw (x:Rat):Prop:=Sz 4000 (nm x).1/\Sz 4000 (nm x).2
theorem wV {M V:Nat} {x:Rat} (h0:0 < M) (h1:M<=2^1800) (h2:V<=2^1810) (h:Fr M V x):Aw x:=by
 obtain ⟨a,b⟩:=h.sz h0 h1 h2;exact ⟨a.mono (by decide),b.mono (by decide)⟩
inductive oP (K:FG9) (f:Rat->Rat->Rat) (vs:List V) (H:Hp) (Q:VK) (E9:XK):Prop
 | mk (u v:V) (x y:Rat):vs=[u,v]->cg K H x u->cg K H y v->Aw x->Aw y->(∀r H',aD H H'->cg K H' (f x y) (.ref r)->Q (.ref r) H')->oP K f vs H Q E9
section
variable {K:FG9} {vs:List V} {H:Hp} {Q:VK} {E:XK}
theorem z5 {f:Rat->Rat->Rat} {F:Int->Int->Int->Int->Int} (hf:∀x y:Rat,(f x y)*(((nm x).2*(nm y).2:Int):Rat)=((F (nm x).1 (nm x).2 (nm y).1 (nm y).2:Int):Rat)) (h:oP K f vs H Q E):zD K F vs H Q E:=by
 obtain ⟨u,v,x,y,rfl,⟨p,rfl,hp⟩,⟨q,rfl,hq⟩,⟨s1,s2⟩,⟨s3,s4⟩,k⟩:=h;refine ⟨p,q,_,_,_,_,rfl,hp,hq,o9 x,o9 y,s1,s2,s3,s4,λr H' s g=>k r H' s (cg.mk g ?_)⟩;exact xF (Int.mul_pos (o9 x) (o9 y)) (hf x y)
theorem uz (x:Rat):(((nm x).1:Int):Rat)=x*(((nm x).2:Int):Rat):=by
 show (x.num:Rat)=x*(((x.den:Nat):Int):Rat)
 rw[nY,cO]
theorem x9 (h:oP K (λx y=>x+y) vs H Q E):zD K CG vs H Q E:=z5 (λx y=>by
 unfold CG;rw[Rat.intCast_add,bE,bE,bE,uz,uz];grind) h
theorem xB (h:oP K (λx y=>x*y) vs H Q E):zD K Ao vs H Q E:=z5 (λx y=>by
 unfold Ao;rw[bE,bE,uz,uz];grind) h
end
inductive qS (K:FG9) (vs:List V) (H:Hp) (Q:VK) (E9:XK):Prop
 | mk (b:Addr) (w:Nat):vs=[.ref b,.int w]->fU H b->1<=w->w<=1000000->(∀r x H',Dr (max w 6) x->cg K H' x (.ref r)->fU H' b->bW b H H'->Q (.ref r) H')->qS K vs H Q E9
inductive vc (K:FG9) (vs:List V) (H:Hp) (Q:VK) (E9:XK):Prop
 | mk (b:Addr) (m w:Nat):vs=[.ref b,.int m,.int w]->fU H b->m<=1000->1<=w->w<=1000000->(∀r xs H',H r=none->fY K H' r xs->xs.length=m->(∀x∈xs,Dr (max w 6) x)->fU H' b->bW b H H'->Q (.ref r) H')->vc K vs H Q E9
inductive va (K:FG9) (vs:List V) (H:Hp) (Q:VK) (E9:XK):Prop
 | mk (p q:Addr) (xs ys:List Rat):vs=[.ref p,.ref q]->fY K H p xs->fY K H q ys->ys.length=xs.length->xs.length<=1000->(∀x∈xs,Aw x)->(∀y∈ys,Aw y)->(∀r H',H r=none->aD H H'->fY K H' r (List.zipWith (λx y=>x+y) xs ys)->Q (.ref r) H')->va K vs H Q E9
inductive zB (K:FG9) (vs:List V) (H:Hp) (Q:VK) (E9:XK):Prop
 | mk (u:V) (q:Addr) (c:Rat) (ys:List Rat):vs=[u,.ref q]->cg K H c u->Aw c->fY K H q ys->ys.length<=1000->(∀y∈ys,Aw y)->(∀r H',H r=none->aD H H'->fY K H' r (ys.map λy=>c*y)->Q (.ref r) H')->zB K vs H Q E9
section
variable {K:FG9} {a:Addr} {xs:List V} {g:TG} {tf:TT} {te:TE} {Q:VK} {σ₀:St} {H:Hp} {α β:Type}
theorem tO {as:List α} {F:Hp->α->V->Prop} (G:Hp->β->V->Prop) (f:α->β) (hx:H a=some (.lst xs)) (pf:Paired (F H) as xs) (hl:as.length<=1000)
  (hF:∀{H H' c x},F H c x->aD H H'->F H' c x) (hG:∀{H H' c x},G H c x->aD H H'->G H' c x)
  (hs:∀(i:Nat) c x H' NY NN,as[i]?=some c->aD H H'->F H' c x->(∀y H2,aD H' H2->G H2 (f c) y->NY y H2)->nK σ₀ g tf te x H' NY NN)
  (hd:∀ys H' p,H p=none->aD H H'->H' p=some (.lst ys)->Paired (G H') (as.map f) ys->(∃H2,H2 p=none/\Paired (G H2) (as.map f) ys)->Q (.ref p) H'):oI (CM K a) σ₀ g tf te Q H:=by
 have lx:=pf.length;refine de (K:=K) (xs:=xs) (λi ys H'=>aD H H'/\Paired (G H') ((as.take i).map f) ys) (bR (b4 (by lia))) ⟨aD.refl _,.nil⟩ (λi ys H' _ ⟨s,_⟩=>bD.of (s _ _ hx)) ?_ ?_
 ·rintro i x ys H' hx' hlen ⟨s,pr⟩;obtain ⟨c,ec,hc⟩:=eL pf hx';refine hs i c x H' _ _ ec s (hF hc s) λy H2 s2 gy=>⟨s.trans s2,?_⟩
  rw[take_snoc ec,bw];exact cN (Paired.imp' (λ_ _ z=>hG z s2) pr) (.cons gy .nil)
 ·rintro ys H' hy ⟨s,pr⟩ p hp;rw[ba (by lia)] at pr;exact hd ys _ p (s.none hp) (s.trans (aD.new hp)) aA (Paired.imp' (λ_ _ z=>hG z (aD.new hp)) pr) ⟨H',hp,pr⟩
theorem pA {n:Nat} (G:Hp->β->V->Prop) (f:Nat->β) (hl:n<=1000) (hG:∀{H H' c x},G H c x->aD H H'->G H' c x)
  (hs:∀(i:Nat) H' NY NN,i < n->aD H H'->(∀y H2,aD H' H2->G H2 (f i) y->NY y H2)->nK σ₀ g tf te (.int i) H' NY NN)
  (hd:∀ys H' p,H p=none->aD H H'->H' p=some (.lst ys)->Paired (G H') ((List.range n).map f) ys->(∃H2,H2 p=none/\Paired (G H2) ((List.range n).map f) ys)->Q (.ref p) H'):oI (yb 0 n) σ₀ g tf te Q H:=by
 refine nH (λi ys H'=>aD H H'/\Paired (G H') ((List.range i).map f) ys) (bR (b4 (by lia))) ⟨aD.refl _,.nil⟩ ?_ ?_
 ·rintro i ys H' hi hlen ⟨s,pr⟩;rw[yf];refine hs i H' _ _ hi s λy H2 s2 gy=>⟨s.trans s2,?_⟩
  rw[List.range_succ,bw];exact cN (Paired.imp' (λ_ _ z=>hG z s2) pr) (.cons gy .nil)
 ·rintro ys H' hy ⟨s,pr⟩ p hp;exact hd ys _ p (s.none hp) (s.trans (aD.new hp)) aA (Paired.imp' (λ_ _ z=>hG z (aD.new hp)) pr) ⟨H',hp,pr⟩
theorem tQ {n:Nat} {b:Addr} (G:Hp->β->V->Prop) (C:β->Prop) (hB:fU H b) (hl:n<=1000) (hG:∀{H' H'' c x},G H' c x->bW b H' H''->fU H' b->G H'' c x)
  (hs:∀(i:Nat) H' NY NN,i < n->bW b H H'->fU H' b->(∀y c H2,bW b H' H2->fU H2 b->C c->G H2 c y->NY y H2)->nK σ₀ g tf te (.int i) H' NY NN)
  (hd:∀ys cs H' p,H p=none->bW b H H'->fU H' b->H' p=some (.lst ys)->cs.length=n->(∀c∈cs,C c)->Paired (G H') cs ys->(∃H2,H2 p=none/\Paired (G H2) cs ys)->Q (.ref p) H'):oI (yb 0 n) σ₀ g tf te Q H:=by
 refine nH (λi ys H'=>bW b H H'/\fU H' b/\∃cs,cs.length=i/\(∀c∈cs,C c)/\Paired (G H') cs ys) (bR (b4 (by lia))) ⟨(aD.refl _).upto,hB,[],rfl,(λ_ z=>nomatch z),.nil⟩ ?_ ?_
 ·rintro i ys H' hi hlen ⟨u,B,cs,lc,hc,pr⟩;rw[yf];refine hs i H' _ _ hi u B λy c H2 u2 B2 cc gy=>⟨u.trans u2,B2,cs++[c],by simp [lc],xX hc cc,cN (Paired.imp' (λ_ _ z=>hG z u2 B) pr) (.cons gy .nil)⟩
 ·rintro ys H' hy ⟨u,B,cs,lc,hc,pr⟩ p hp;have s:aD H' (upd H' p (.lst ys)):=aD.new hp;exact hd ys cs _ p (u.none B hp) (u.same s) (B.same s) aA lc hc (Paired.imp' (λ_ _ z=>hG z s.upto B) pr) ⟨H',hp,pr⟩
end
section
variable {X:Cx}
theorem eF {n:Nat} {g:TG} {tb:TS} {D:Ends} {σ:St} {H:Hp} (Pv:Nat->St->Hp->Prop) (h0:Pv 0 σ H)
  (hs:∀(i:Nat) σ H,i < n->Pv i σ H->g (.int i) σ H λσ2 H2=>tb { D with nx:=Pv (i+1),ct:=Pv (i+1),bk:=D.nx } σ2 H2) (hd:∀σ H,Pv n σ H->D.nx σ H) :
  ∃W:Nat->Nat->St->Hp->Prop,(∃m,W 0 m σ H)/\∀i m σ H,W i m σ H →
   ((yb 0 n).stop i H/\D.nx σ H)\/((yb 0 n).go i H/\∃N:St->Hp->Prop,(∀σ' H',N σ' H'->∃m',m' < m/\W (i+1) m' σ' H')/\∀x H',(yb 0 n).yld i H x H'->g x σ H' λσ2 H2=>tb { D with nx:=N,ct:=N,bk:=D.nx } σ2 H2) :=
 yH (lo:=0) Pv h0 (λi σ H hi p=>by rw[yf];exact hs i σ H hi p) hd
theorem pB:jY X (.type "int") (λxs H Q=>∃b:Bool,xs=[.bl b]/\Q (.int (if b=true then 1 else 0)) H):=by
 intro pins s σ H xs us Q I r h;obtain ⟨b,rfl,q⟩:=h;obtain ⟨u,rfl,ru⟩:=vals1 r;cases ru;exact call_int_bool ⟨.int _,H,I.tok _,⟨_,rfl⟩,q⟩
theorem xv {st:Stmt}:PS X st (λ_ _ _=>False):=λ_ _ _ _ _ _ h=>h.elim
end
theorem z9 {t b:Int} {W:Nat} (hb:0 < b) (h1:t.natAbs<=W) (h2:b.natAbs<=W):∃q:Rat,(lo t b,hi t b)=nm q/\Dr W q/\q*(b:Rat)=(t:Rat):=by
 have hb':(b:Rat)≠0:=λz=>by have:=qe.mp z;lia
 have e:(t:Rat) / (b:Rat)*(b:Rat)=t:=vZ hb';have h:=xF hb e;refine ⟨_,h,⟨?_,?_⟩,e⟩
 ·have:=congrArg Prod.fst h;have z:=lo_le (t:=t) (b:=b) (by lia);show ((nm ((t:Rat) / (b:Rat))).1).natAbs<=W
  rw[<- this];exact ar z h1
 ·have:=congrArg Prod.snd h;have z:=CA (t:=t) (b:=b) (by lia);have hd:(((t:Rat) / (b:Rat)).den:Int)=hi t b:=this.symm;have hp:=uG (t:=t) hb
  lia
theorem Eb {K:FG9} {H:Hp} {qs:List Rat} {xs:List V} (h:Paired (cg K H) qs xs) {j:Nat} (hj:j < qs.length):∃v,yN xs (j:Int)=some v/\cg K H (qs.getD j 0) v:=by
 have hl:=h.length;refine ⟨xs[j]'(by lia),c6 (by simp),?_⟩;have:=iQ h (i:=j) hj (by lia);rwa [mR,aF hj]
theorem getD_mem {xs:List Rat} {i:Nat} (h:i < xs.length):xs.getD i 0∈xs:=by
 rw[mR,aF h];exact j4 h
theorem yh {xs ys:List Rat} (h:ys.length=xs.length):List.zipWith (λx y=>x+y) xs ys=(List.range xs.length).map λi=>xs.getD i 0+ys.getD i 0:=by
 apply List.ext_getElem?;intro i;rw[List.getElem?_zipWith,bH];by_cases hi:i < xs.length
 ·rw[List.getElem?_range hi,aF hi,aF (show i < ys.length by lia)];simp [mR,aF hi,aF (show i < ys.length by lia)]
 ·rw[j2 (show (List.range xs.length).length<=i by simp;lia),j2 (show xs.length<=i by lia)];rfl
theorem fU.at {H:Hp} {b:Addr} (B:fU H b):H b≠none:=by obtain ⟨_,_,_,_,_,e,_⟩:=B;rw[e];simp
theorem Inner.at {H:Hp} {b q:Addr} (B:fU H b) (i:Inner H b q):H q≠none:=by
 obtain ⟨q',i',xs,e⟩:=B.inner;rw[<- Inner.inj i' i,e];simp
section
variable {α β:Type} [DecidableEq α] [DecidableEq β] (k1:Kind α) (k2:Kind β)
theorem oO {X:Cx} {pins:List (Addr×Obj)} {σ:St} {H:Hp} {s:Shared} {A:Around} (I:Inv X pins σ H s) (h1:A.units+k1.d < cLine) (h2:A.units+k2.d < cLine) {x y z w:V} {us ws:List Value} {a b:α×β}
  (rx:bO [x,y] us) (ry:bO [z,w] ws) (a1:k1.R X.K H x a.1) (a2:k2.R X.K H y a.2) (b1:k1.R X.K H z b.1) (b2:k2.R X.K H w b.2) :
  ∀j (h1:j < us.toArray.size) (h2:j < ws.toArray.size),SeqAt.EqAt A s us.toArray[j] ws.toArray[j] (if j=0 then decide (a.1=b.1) else decide (a.2=b.2)):=λj l1 l2=>by
 obtain ⟨u1,u2,rfl,r1,r2⟩:=vals2 rx;obtain ⟨w1,w2,rfl,q1,q2⟩:=vals2 ry;have hj:j < 2:=by simpa using l1
 rcases md j 1 with h | h
 ·have e:j=0:=by lia
  subst e;exact k1.eq (A:=A) I r1 q1 a1 b1 h1
 ·have e:j=1:=by lia
  subst e;exact k2.eq (A:=A) I r2 q2 a2 b2 h2
theorem tZ {a b:α×β}:(List.range 2).all (λj=>if j=0 then decide (a.1=b.1) else decide (a.2=b.2))=decide (a=b):=by
 have e:List.range 2=[0,1]:=rfl;rw[e];simp only[List.all_cons,List.all_nil,Bool.and_true,if_true,Nat.one_ne_zero,if_false];rw[<- Bool.decide_and];exact decide_eq_decide.mpr ⟨λ⟨h1,h2⟩=>Prod.ext h1 h2,λh=>by rw[h];exact ⟨rfl,rfl⟩⟩
def E4:Kind (α×β) where
 R:=λK H x a=>∃p u v,x=.ref p/\i8 K H p [u,v]/\k1.R K H u a.1/\k2.R K H v a.2
 d:=max k1.d k2.d+1
 inj:=λ{X pins σ H s x a b} I h1 h2=>by
  obtain ⟨p,u,v,rfl,hp,a1,a2⟩:=h1;obtain ⟨q,u',v',e,hq,b1,b2⟩:=h2;cases e;have e:=I.tuple_inj hp hq;cases e;exact Prod.ext (k1.inj I a1 b1) (k2.inj I a2 b2)
 rc:=λ{X pins σ H s x y v u a b A} I rx ry h1 h2 hA=>by
  obtain ⟨p,x1,x2,rfl,hp,a1,a2⟩:=h1;obtain ⟨q,y1,y2,rfl,hq,b1,b2⟩:=h2;cases rx;cases ry;obtain ⟨us,r1,t1,_⟩:=I.tuple hp;obtain ⟨ws,r2,t2,_⟩:=I.tuple hq;have l1:=r1.length;have l2:=r2.length;have z:=SeqAt.RcAt.tuples (A:=A) (e:=λj=>if j=0 then decide (a.1=b.1) else decide (a.2=b.2)) (show s.heap.IsTuple p us.toArray from t1) (show s.heap.IsTuple q ws.toArray from t2) (by lia) (oO k1 k2 (A:=A.in1) I (by show A.units+1+k1.d < cLine;lia) (by show A.units+1+k2.d < cLine;lia) r1 r2 a1 a2 b1 b2);have e1:us.toArray.size=2:=by rw[aw,<- l1];rfl
  have e2:ws.toArray.size=2:=by rw[aw,<- l2];rfl
  rw[e1,e2,Nat.min_self,tZ] at z;simpa using z
 ne:=λ{X pins σ H s x y v u a b A} I rx ry h1 h2 hA=>by
  obtain ⟨p,x1,x2,rfl,hp,a1,a2⟩:=h1;obtain ⟨q,y1,y2,rfl,hq,b1,b2⟩:=h2;cases rx;cases ry;obtain ⟨us,r1,t1,_⟩:=I.tuple hp;obtain ⟨ws,r2,t2,_⟩:=I.tuple hq;have l1:=r1.length;have l2:=r2.length;have z:=SeqAt.RcNeAt.tuples (A:=A) (e:=λj=>if j=0 then decide (a.1=b.1) else decide (a.2=b.2)) (show s.heap.IsTuple p us.toArray from t1) (show s.heap.IsTuple q ws.toArray from t2) (by lia) (oO k1 k2 (A:=A.in1) I (by show A.units+1+k1.d < cLine;lia) (by show A.units+1+k2.d < cLine;lia) r1 r2 a1 a2 b1 b2);have e1:us.toArray.size=2:=by rw[aw,<- l1];rfl
  have e2:ws.toArray.size=2:=by rw[aw,<- l2];rfl
  rw[e1,e2,Nat.min_self,tZ] at z;simpa using z
 eq:=λ{X pins σ H s x y v u a b A} I rx ry h1 h2 hA=>by
  obtain ⟨p,x1,x2,rfl,hp,a1,a2⟩:=h1;obtain ⟨q,y1,y2,rfl,hq,b1,b2⟩:=h2;cases rx;cases ry;by_cases e:p=q
  ·subst e;have e:=I.tuple_inj hp hq;cases e;have e2:a=b:=Prod.ext (k1.inj I a1 b1) (k2.inj I a2 b2);rw[decide_eq_true e2];exact SeqAt.EqAt.same _
  ·obtain ⟨us,r1,t1,_⟩:=I.tuple hp;obtain ⟨ws,r2,t2,_⟩:=I.tuple hq;have l1:=r1.length;have l2:=r2.length;have z:=SeqAt.RcAt.tuples (A:=A) (e:=λj=>if j=0 then decide (a.1=b.1) else decide (a.2=b.2)) (show s.heap.IsTuple p us.toArray from t1) (show s.heap.IsTuple q ws.toArray from t2) (by lia) (oO k1 k2 (A:=A.in1) I (by show A.units+1+k1.d < cLine;lia) (by show A.units+1+k2.d < cLine;lia) r1 r2 a1 a2 b1 b2);have e1:us.toArray.size=2:=by rw[aw,<- l1];rfl
   have e2:ws.toArray.size=2:=by rw[aw,<- l2];rfl
   rw[e1,e2,Nat.min_self,tZ] at z;exact .of_refs e (by simpa using z)
end
theorem fQ {i j:Int} (h1:-(2^64) < i) (h2:i < 2^64):mM i j:=.inl (.inl ⟨h1,h2⟩)
theorem xT {i j:Int} (h1:-(2^64) < j) (h2:j < 2^64):mM i j:=.inl (.inr ⟨h1,h2⟩)
def Ef (K : FG9) (l : Addr) : It :=
  ⟨λi H => ∃ xs x, bD K H l xs /\ xs[i]? = some x,
   λi H v H' => ∃ p x, v = .ref p /\ H p = none /\ H' = upd H p (.tup [.int i, x]) /\ ∀ xs, bD K H l xs → xs[i]? = some x,
   λi H => ∃ xs, bD K H l xs /\ xs.length ≤ i⟩
def tnE (e it l:Addr) (i:Nat) (h:Heap):Prop:=(∃old,IsEnum h e it i old)/\h.IsListIter it l i
theorem yj {P:Program} {w:World} {K:FG9} {elts:List Expr} {kk:Nat} {tpos:Pos} (e it l:Addr) (hei:e≠it):Turn P w K (.Tuple elts kk tpos) (Ef K l) [e,it] e (tnE e it l) where
 mem:=by simp
 obj:=λi h st b hb=>by
  obtain ⟨⟨old,he⟩,⟨o1,g1,c1,d1⟩⟩:=st;simp only[az,bg,or_false] at hb;rcases hb with rfl | rfl
  ·exact ⟨_,he,λv q=>nomatch q⟩
  ·exact ⟨o1,g1,λv q=>by rw[d1] at q;cases q⟩
 keep:=λi h h' st k=>by
  obtain ⟨⟨old,he⟩,h1⟩:=st;exact ⟨⟨old,k e (by simp) _ he⟩,h1.at λo q=>k it (by simp) o q⟩
 item:=by
  intro X hP hw hK hc i pins s σ H E I hf st hg;subst hP hw hK;obtain ⟨⟨old,he⟩,h1⟩:=st;obtain ⟨xs,x,qx,ex⟩:=hg;obtain ⟨us,rx,px,_⟩:=I.list qx;obtain ⟨u,eu,ru⟩:=rx.get ex;refine wpAny_pyNext_enum_item he h1 px.isList (x:=u) (by simpa using eu) hei λh' a1 a2 a3 a4 hk=>?_
  refine ⟨_,rfl,wpAny_letOwnedTupleGo_enum a1 λh'' he'' hs=>?_⟩;have hT0:H s.heap.objs.size=none:=I.hok.fresh (ax _);have ene:s.heap.objs.size≠e:=yd (Heap.lt_size he)
  have up:∀b o,b∉[e,it]->s.heap.get? b=some o->h''.get? b=some o:=λb o hb q=>by
   simp only[az,bg,or_false,not_or] at hb;exact (hs.2 b hb.1).trans (hk b o hb.1 hb.2 q)
  have tup:h''.get? s.heap.objs.size=some { cls:=.type "tuple",data:=.seq #[.int i s.toks,u] }:=(hs.2 _ ene).trans a3;have I1:Inv X pins σ H { s with heap:=h'',toks:=s.toks+1 }:=I.moved (g':=s.gens) (d':=s.drawn) (t':=s.toks+1) (ch:=[e,it]) hf up I.bare;have fT:jN X pins H s.heap.objs.size:=I.fpOk (ax _) hT0;have I2:=I1.track (o:=.tup [.int i,x]) fT ⟨qW rfl,[.int i s.toks,u],.cons ⟨_,rfl⟩ (.cons ru .nil),⟨_,tup,rfl,_,rfl⟩⟩;refine ⟨.ref s.heap.objs.size,_,I2,rfl,⟨_,x,rfl,hT0,rfl,λxs' q=>by rw[I.list_inj q qx];exact ex⟩,?_,λb hb=>?_⟩
  ·exact ⟨⟨_,by simpa using he''⟩,a2.at λo q=>(hs.2 _ hei.symm).trans q⟩
  ·rw[aU]
   ·exact (hf b hb).1
   ·obtain ⟨o1,g1,_⟩:=h1;simp only[az,bg,or_false] at hb;rcases hb with rfl | rfl
    ·exact ene.symm
    ·exact bq (Heap.lt_size g1)
 done:=by
  intro X hP hw hK hc i pins s σ H E I hf st hg;subst hP hw hK;obtain ⟨⟨old,he⟩,h1⟩:=st;obtain ⟨xs,qx,hend⟩:=hg;obtain ⟨us,rx,px,_⟩:=I.list qx;have lx:=rx.length;refine wpAny_pyNext_enum_end (I.ok.hd hc) he h1 px.isList (by simp;lia) λh' hk=>⟨rfl,?_⟩
  exact I.moved (g':=s.gens) (d':=s.drawn) (t':=s.toks) (ch:=[e,it]) hf (λb o hb q=>hk b o (λz=>hb (by simp [z])) q) I.bare
 self:=λ_ _ _ _ _ st h=>let ⟨⟨_,he⟩,_⟩:=st;wpAny_pyIter_enum he h
section
variable {X:Cx}
def Cz (K:FG9) (ta:TA):TI:=λσ H R=>ta σ H λvs H1=>∃l,vs=[.ref l]/\(∃xs,bD K H1 l xs)/\R (Ef K l) H1
theorem Bt {a:Expr} {ta:TA} {p pos tpos:Pos} {elts:List Expr} {kk:Nat} (hg:Gl X "enumerate") (hm:X.mg "enumerate"=none) (ha:PA X [a] ta) (hs:starEach [a] X.env=[(false,eval a X.env)]:=by rfl) :
  PI X (.Tuple elts kk tpos) (.Call (.Name "enumerate" p) [a] [] pos) (Cz X.K ta):=by
 intro pins s σ H R I h;refine Call_ (jJ I hg hm boot_enumerate (PyProof.Rows.callWith_type1 (dz (ha pos pins s σ H _ I h) λus s1 ⟨vs,H1,I1,r1,q1⟩=>?_) (by rw[hs];rfl) rfl));obtain ⟨l,e,⟨xs,qx⟩,q⟩:=q1;subst e;obtain ⟨u,rfl,ru⟩:=vals1 r1;cases ru;obtain ⟨us,rx,px,_⟩:=I1.list qx;refine call_enumerate_list px.isList λh' a1 a2 a3 hk=>wpAny_pyIter_enum a1 ?_
 have I2:Inv X pins σ H1 { s1 with heap:=h' }:=I1.kept (t':=s1.toks) hk;refine ⟨_,[s1.heap.objs.size+1,s1.heap.objs.size],_,_,H1,rfl,I2,yj (s1.heap.objs.size+1) s1.heap.objs.size l (Nat.succ_ne_self _),⟨⟨_,a1⟩,a2⟩,λb hb=>?_,q⟩
 have hb':s1.heap.objs.size<=b:=by
  simp only[az,bg,or_false] at hb;rcases hb with rfl | rfl <;> first | exact kB _ | exact ax _
 exact I1.fpOk hb' (I1.hok.fresh hb')
end
theorem zR {K:FG9} {ta:TA} {R:It->Hp->Prop} {σ:St} {H:Hp} (h:ta σ H λvs H1=>∃l,vs=[.ref l]/\(∃xs,bD K H1 l xs)/\R (Ef K l) H1):Cz K ta σ H R:=h
theorem Am {K:FG9} {l:Addr} {xs:List V} {g:TG} {tb:TS} {D:Ends} {σ:St} {H:Hp} (Pv:Nat->St->Hp->Prop) (h0:Pv 0 σ H) (hl:∀i σ H,i<=xs.length->Pv i σ H->bD K H l xs)
  (hs:∀i x σ H p,xs[i]?=some x->Pv i σ H->H p=none->g (.ref p) σ (upd H p (.tup [.int i,x])) λσ2 H2=>tb { D with nx:=Pv (i+1),ct:=Pv (i+1),bk:=D.nx } σ2 H2) (hd:∀σ H,Pv xs.length σ H->D.nx σ H) :
  ∃W:Nat->Nat->St->Hp->Prop,(∃m,W 0 m σ H)/\∀i m σ H,W i m σ H →
   ((Ef K l).stop i H/\D.nx σ H)\/((Ef K l).go i H/\∃N:St->Hp->Prop,(∀σ' H',N σ' H'->∃m',m' < m/\W (i+1) m' σ' H')/\∀x H',(Ef K l).yld i H x H'->g x σ H' λσ2 H2=>tb { D with nx:=N,ct:=N,bk:=D.nx } σ2 H2):=by
 refine ⟨λi m σ H=>m=xs.length - i/\i<=xs.length/\Pv i σ H,⟨xs.length,by simp,bf _,h0⟩,?_⟩;rintro i m σ H ⟨rfl,hi,p⟩;have q1:=hl i σ H hi p;by_cases hlt:i < xs.length
 ·refine .inr ⟨⟨xs,xs[i],q1,by simp [hlt]⟩,Pv (i+1),λσ' H' p'=>⟨xs.length - (i+1),by lia,rfl,hlt,p'⟩,λx H' y=>?_⟩;obtain ⟨r,x',rfl,hr,rfl,e1⟩:=y;exact hs i x' σ _ r (e1 xs q1) p hr
 ·have e:i=xs.length:=by lia
  subst e;exact .inl ⟨⟨xs,q1,ax _⟩,hd σ H p⟩
section
variable {X:Cx}
theorem Av (hc:X.calm=true):jY X (.builtin "any") (λxs H Q=>∃(p:Addr) (bs:List Bool),xs=[.ref p]/\bD X.K H p (bs.map V.bl)/\Q (.bl (bs.any id)) H):=by
 intro pins s σ H xs us Q I r h;obtain ⟨p,bs,rfl,hp,q⟩:=h;obtain ⟨u,rfl,ru⟩:=vals1 r;cases ru;obtain ⟨vs,rv,pl,hz⟩:=I.list hp
 have hb:PyProof.Rows.LSm.BoolsAre vs bs:=by
  clear q hp pl hz
  induction bs generalizing vs with
  | nil=>cases rv;exact .nil
  | cons b bs ih =>
   rw[cJ] at rv;cases rv with
   | cons r1 r2=>cases r1;exact .cons b (ih _ r2)
 have hlt:p < s.heap.objs.size:=by obtain ⟨_,e,_⟩:=pl.isList;exact Heap.lt_size e
 refine call_any_walk (wpAny_pyIter_list pl.isList ?_)
 refine ⟨s.heap.objs.size,[s.heap.objs.size,p],[s.heap.objs.size],vs.toArray.size,_,_,λi=>(bs[i]?).getD true,rfl,Walks.list (A:=X.A.in1) (I.ok.hd hc) _ p (bq hlt) vs.toArray,
  ⟨⟨_,Heap.get?_push_size _ rfl,rfl,rfl⟩,pl.isList.push _⟩,λi v s' Q' E' hP hQ=>?_,λh' tk hk=>?_⟩
 ·obtain ⟨b,e,rfl⟩:=hb.get i v (by simpa using hP);simp only[e,yS] at hQ;exact wpAny_truthy_bool hQ
 ·have e:((List.range vs.toArray.size).any λi=>(bs[i]?).getD true)=bs.any id:=by
   rw[aw,hb.length,fz,List.any_eq_true,List.any_eq_true];constructor
   ·rintro ⟨i,hi,z⟩;have hi:=mQ.mp hi;rw[aF hi] at z;exact ⟨_,j4 hi,z⟩
   ·rintro ⟨b,hb',z⟩;obtain ⟨i,hi,rfl⟩:=List.getElem_of_mem hb';exact ⟨i,mQ.mpr hi,by rw[aF hi];exact z⟩
  rw[e];exact ⟨.bl _,H,I.kept (t':=tk) (PyProof.Rows.LSm.kept_iter hk),rfl,q⟩
def zV (K:FG9) (C:Addr):V->Hp->VK->Prop:=λx H Q=>∃t b,nI K H x t/\PySem.W.kitOne K t (.ref C)=some b/\Q (.bl b) H
theorem DL {a:Expr} {ta:TE} {pos:Pos} {c:Str} {C:Addr} {p p2:Pos} (hg:Gl X "isinstance") (hm:X.mg "isinstance"=none) (hgc:Gl X c) (hmc:X.mg c=some (.ref C)) (ha:PE X a ta)
  (hd:(c == ("__debug__":Str))=false:=by decide) (he:starEach [a,.Name c p2] X.env=[(false,eval a X.env),(false,eval (.Name c p2) X.env)]:=by rfl)
  (hpl:(backTo pos (starEach [.Name c p2] X.env)).any (·.1)=false:=by rfl) (he2:starEach [.Name c p2] X.env=[(false,eval (.Name c p2) X.env)]:=by rfl):PE X (.Call (.Name "isinstance" p) [a,.Name c p2] [] pos) (Cc (zV X.K C) ta):=by
 intro pins s σ H Q I h;refine wpAny_Call_Name_kw (jJ I hg hm PyProof.Rows.boot_isinstance ?_);have hA:PA X [a,.Name c p2] (fu ta (fu (tC (.ref C)) qN)):=aa ha (aa (bX hgc hmc rfl hd) ae he2) (by rw[he,he2])
 have hq:fu ta (fu (tC (.ref C)) qN) σ H (λvs H1=>∃x,vs=[x,.ref C]/\zV X.K C x H1 Q):=by
  show ta σ H λx H1=>∃x',[x,V.ref C]=[x',V.ref C]/\zV X.K C x' H1 Q
  have e:(λx H1=>∃x',[x,V.ref C]=[x',V.ref C]/\zV X.K C x' H1 Q)=λx H1=>zV X.K C x H1 Q:=by
   funext x H1;apply propext;constructor
   ·rintro ⟨x',e,q⟩;cases e;exact q
   ·intro q;exact ⟨x,rfl,q⟩
  rw[e];exact h
 refine PyProof.Rows.callWith_builtin1 (dz (hA pos pins s σ H _ I hq) λus s1 ⟨vs,H1,I1,r1,x,e,q1⟩=>?_) (by rw[he,he2]) hpl;subst e;obtain ⟨u,w',rfl,ru,rt⟩:=vals2 r1;cases rt;obtain ⟨t,bb,ty,ek,q⟩:=q1;exact ph I1 ru ty ek λtk=>⟨.bl bb,H1,I1.tok tk,rfl,q⟩
end
theorem Dy {K:FG9} {ta:TE} {f:Str} {σ:St} {H:Hp} {Q:VK} (h:ta σ H λx H1=>∃a C dx fs v,x=.ref a/\H1 a=some (.ins C dx fs)/\AD K C/\fS K C f/\fs.lookup f=some v/\Q v H1):EB K ta f σ H Q:=h
theorem A2 {K:FG9} {ta tv:TE} {f:Str} {D:Ends} {σ:St} {H:Hp} (h:tv σ H λy H1=>ta σ H1 λx H2=>∃a C dx fs,x=.ref a/\H2 a=some (.ins C dx fs)/\AD K C/\fS K C f/\fs.length < 1000 /\
 D.nx σ (upd H2 a (.ins C dx (bp f y fs)))):EG K ta tv f D σ H:=h
theorem A6 {C:Addr} {sp:Sp} {E:XK} {t:TA} {σ:St} {H:Hp} {Q:VK} (h:t σ H λvs H1=>∀x dx,H1 x=none->H1 dx=none->dx≠x →
 sp (.ref x :: vs) (upd (upd H1 dx (.own x)) x (.ins C dx [])) (λv H2=>v=.non/\Q (.ref x) H2) E):Ci C sp [] E t σ H Q:=by
 have e:(λvs (H1:Hp)=>∀x dx,H1 x=none->H1 dx=none->dx≠x->sp (.ref x :: (vs++[])) (upd (upd H1 dx (.own x)) x (.ins C dx [])) (λv H2=>v=.non/\Q (.ref x) H2) E)=λvs H1=>∀x dx,H1 x=none->H1 dx=none->dx≠x->sp (.ref x :: vs) (upd (upd H1 dx (.own x)) x (.ins C dx [])) (λv H2=>v=.non/\Q (.ref x) H2) E:=by
  funext vs H1;simp only[dS]
 show t σ H (λvs (H1:Hp)=>∀x dx,H1 x=none->H1 dx=none->dx≠x->sp (.ref x :: (vs++[])) (upd (upd H1 dx (.own x)) x (.ins C dx [])) (λv H2=>v=.non/\Q (.ref x) H2) E)
 rw[e];exact h
def uQ (x:Addr) (H H':Hp):Prop:=∀b o,H b=some o->b≠x->H' b=some o
theorem uQ.upd {x:Addr} {H:Hp} {o:HO}:uQ x H (L2.upd H x o):=λb u h n=>by rw[aU n];exact h
def mK (H:Hp) (x:Addr):Prop:=∃C dx fs,H x=some (.ins C dx fs)
section
variable {K:FG9} {H H' H0:Hp} {q:Rat} {v:V} {x p:Addr} {qs:List Rat} {rows:LR9}
theorem cg.exc (h:cg K H q v) (e:uQ x H H') (hx:mK H x):cg K H' q v:=by
 obtain ⟨C,dx,fs,hx⟩:=hx;obtain ⟨r,er,s⟩:=h;refine ⟨r,er,?_⟩;rcases s with (h | ⟨o,h⟩) | h
 ·exact .inl (.inl (e _ _ h λz=>by rw[z,hx] at h;cases h))
 ·exact .inl (.inr ⟨o,e _ _ h λz=>by rw[z,hx] at h;cases h⟩)
 ·exact .inr h
theorem fY.exc (h:fY K H p qs) (e:uQ x H H') (hx:mK H x):fY K H' p qs:=by
 obtain ⟨xs,g,r⟩:=h;have hx':=hx;obtain ⟨C,dx,fs,hx⟩:=hx;exact ⟨xs,e _ _ g (λz=>by rw[z,hx] at g;cases g),Paired.imp' (λ_ _ z=>z.exc e hx') r⟩
theorem jL.exc (h:jL K H0 H qs v) (e:uQ x H H') (hx:mK H x):jL K H0 H' qs v:=by obtain ⟨q,a,b,c⟩:=h;exact ⟨q,a,b,c.exc e hx⟩
theorem c7.exc (h:c7 K H0 H p rows) (e:uQ x H H') (hx:mK H x):c7 K H0 H' p rows:=by
 obtain ⟨xs,g,r,n⟩:=h;have hx':=hx;obtain ⟨C,dx,fs,hx⟩:=hx;exact ⟨xs,e _ _ g (λz=>by rw[z,hx] at g;cases g),Paired.imp' (λ_ _ z=>z.exc e hx') r,n⟩
end
def jO (a b c:Addr) (n i o:Nat):List (Str×V):=bp "outs" (.int o) (bp "look" (.ref c) (bp "ins" (.int i) (bp "put" (.ref b) (bp "states" (.int n) (bp "move" (.ref a) [])))))
section
variable {a b c:Addr} {n i o:Nat}
theorem zd:(jO a b c n i o).lookup ("outs":Str)=some (.int o):=by
 unfold jO;rw[aX,if_pos rfl]
theorem uZ:(jO a b c n i o).lookup ("look":Str)=some (.ref c):=by
 unfold jO;rw[aX,if_neg (by decide +kernel),aX,if_pos rfl]
theorem AR:(jO a b c n i o).lookup ("ins":Str)=some (.int i):=by
 unfold jO;rw[aX,if_neg (by decide +kernel),aX,if_neg (by decide +kernel),aX,if_pos rfl]
theorem xj:(jO a b c n i o).lookup ("put":Str)=some (.ref b):=by
 unfold jO;rw[aX,if_neg (by decide +kernel),aX,if_neg (by decide +kernel),aX,if_neg (by decide +kernel),aX,if_pos rfl]
theorem wa:(jO a b c n i o).lookup ("states":Str)=some (.int n):=by
 unfold jO;rw[aX,if_neg (by decide +kernel),aX,if_neg (by decide +kernel),aX,if_neg (by decide +kernel),aX,if_neg (by decide +kernel),aX,if_pos rfl]
theorem uY:(jO a b c n i o).lookup ("move":Str)=some (.ref a):=by
 unfold jO;rw[aX,if_neg (by decide +kernel),aX,if_neg (by decide +kernel),aX,if_neg (by decide +kernel),aX,if_neg (by decide +kernel),aX,if_neg (by decide +kernel),aX,if_pos rfl]
end
theorem cQ {k:Str} {v:V}:∀{l:List (Str×V)},(bp k v l).length<=l.length+1
 | []=>ax _
 | (x,y) :: r=>by
  unfold bp
  split
  ·simp
  ·have:=cQ (k:=k) (v:=v) (l:=r);simp only[ah]
   lia
structure kE (mv pt lk:LR9):Prop where
 n8:mv.length<=8
 i4:pt.length<=4
 o4:lk.length<=4
 mw:∀xs∈mv,xs.length=mv.length
 pw:∀xs∈pt,xs.length=mv.length
 lw:∀xs∈lk,xs.length=mv.length
def sP (K:FG9) (H0 H:Hp) (C p:Addr) (mv pt lk:LR9):Prop:=∃dx a b c,H p=some (.ins C dx (jO a b c mv.length pt.length lk.length))/\H0 a=none/\H0 b=none/\H0 c=none/\c7 K H0 H a mv/\c7 K H0 H b pt/\c7 K H0 H c lk
section
variable {K:FG9} {H H' H0 H1:Hp} {C p b:Addr} {mv pt lk:LR9}
theorem sP.same (h:sP K H0 H C p mv pt lk) (e:aD H H'):sP K H0 H' C p mv pt lk:=by obtain ⟨dx,a,b,c,g,n1,n2,n3,g1,g2,g3⟩:=h;exact ⟨dx,a,b,c,e _ _ g,n1,n2,n3,g1.same e,g2.same e,g3.same e⟩
theorem sP.weak (h:sP K H0 H C p mv pt lk) (e:aD H1 H0):sP K H1 H C p mv pt lk:=by obtain ⟨dx,a,b,c,g,n1,n2,n3,g1,g2,g3⟩:=h;exact ⟨dx,a,b,c,g,e.none n1,e.none n2,e.none n3,g1.weak e,g2.weak e,g3.weak e⟩
end
def yl:Sp:=λvs H Q _=>∃i:Int,vs=[.int i]/\Q (.bl true) H
def ym (K:FG9):Sp:=λvs H Q _=>∃x n,vs=[x]/\jM K H x n/\ja n/\∀H',aD H H'->Q (.bl true) H'
inductive xn (vs:List V) (H:Hp) (Q:VK) (E9:XK):Prop
 | mk (p:Addr) (xs:List V) (a m:Int):vs=[.ref p,.int a,.int m]->H p=some (.lst xs)->(xs.length:Int)<=m->Q .non H->xn  vs H Q E9
inductive xt (K:FG9) (vs:List V) (H:Hp) (Q:VK) (E9:XK):Prop
 | mk (p:Addr) (H0:Hp) (rows:LR9) (w:Nat):vs=[.ref p,.int w]->c7 K H0 H p rows->rows.length<=1000->w<=1000->((∀xs∈rows,xs.length=w/\∀x∈xs,ja (nm x)))->(∀r H',H r=none->aD H H'->c7 K H H' r rows->Q (.ref r) H')->xt K vs H Q E9
def sG (rows:LR9):Prop:=∀xs∈rows,∀x∈xs,ja (nm x)
inductive xo (K:FG9) (C:Addr) (vs:List V) (H:Hp) (Q:VK) (E9:XK):Prop
 | mk (x dx p q r:Addr) (Hb H0 H1 H2:Hp) (mv pt lk:LR9):vs=[.ref x,.ref p,.ref q,.ref r]->Hb x=none->Hb dx=none->dx≠x->H=upd (upd Hb dx (.own x)) x (.ins C dx [])->c7 K H0 Hb p mv->c7 K H1 Hb q pt->c7 K H2 Hb r lk->kE mv pt lk->sG mv->sG pt->sG lk->(∀H',aD Hb H'->sP K Hb H' C x mv pt lk->Q .non H')->xo K C vs H Q E9
def fq (K:FG9) (A:Addr->Prop) (H:Hp) (n:Nat) (C:Rat->Prop) (x:V):Prop:=∃q qs,x=V.ref q/\A q/\fY K H q qs/\qs.length=n/\∀y∈qs,C y
section
variable {K:FG9} {A A':Addr->Prop} {H H' H0:Hp} {n:Nat} {C C':Rat->Prop} {x v:V} {q b l p:Addr} {xs zs:List V} {y:Rat} {o:HO}
theorem fq.same (h:fq K A H n C x) (e:aD H H'):fq K A H' n C x:=by obtain ⟨q,qs,a,c,r,z⟩:=h;exact ⟨q,qs,a,c,r.same e,z⟩
theorem fq.upto (h:fq K A H n C x) (u:bW b H H') (B:fU H b) (nb:¬A b):fq K A H' n C x:=by obtain ⟨q,qs,a,c,r,z⟩:=h;exact ⟨q,qs,a,c,r.upto u B (λe=>nb (by rw[<- e];exact c)),z⟩
theorem fq.other (h:fq K A H n C x) (hl:H l=some (.lst zs)) (nl:¬A l):fq K A (upd H l o) n C x:=by obtain ⟨q,qs,a,c,r,z⟩:=h;exact ⟨q,qs,a,c,r.updL hl (λe=>nl (by rw[<- e];exact c)),z⟩
theorem fq.weak (h:fq K A H n C x) (w:∀q,A q->A' q) (wc:∀y,C y->C' y):fq K A' H n C' x:=by obtain ⟨q,qs,a,c,r,l,z⟩:=h;exact ⟨q,qs,a,w q c,r,l,λy hy=>wc y (z y hy)⟩
theorem rf {α β:Type} {F:α->β->Prop} {a:α} {b:β} (h:F a b):∀{l1:List α} {l2:List β} (j:Nat),Paired F l1 l2->Paired F (l1.set j a) (l2.set j b)
 | _,_,_,.nil=>.nil
 | _,_,0,.cons _ t=>.cons h t
 | _,_,j+1,.cons r t=>.cons r (rf h j t)
theorem fq.put (h:fq K A H n C x) (hq:H q=some (.lst zs)) (hv:cg K H y v) (hc:C y) (j:Nat):fq K A (upd H q (.lst (zs.set j v))) n C x:=by
 obtain ⟨q1,qs,rfl,a,⟨zs1,g1,pr⟩,l1,c1⟩:=h;by_cases e:q1=q
 ·subst e;rw[hq] at g1;cases g1;refine ⟨q1,qs.set j y,rfl,a,⟨_,aA,rf (hv.updL hq) j (Paired.imp' (λ_ _ z=>z.updL hq) pr)⟩,by rw[AH];exact l1,λz hz=>?_⟩;rcases hZ hz with hz | rfl
  ·exact c1 z hz
  ·exact hc
 ·exact ⟨q1,qs,rfl,a,⟨zs1,by rw[aU e];exact g1,Paired.imp' (λ_ _ z=>z.updL hq) pr⟩,l1,c1⟩
theorem fq.at (h:fq K A H n C x):∃q zs qs,x=V.ref q/\A q/\H q=some (.lst zs)/\zs.length=n/\Paired (cg K H) qs zs/\qs.length=n/\∀y∈qs,C y:=by obtain ⟨q,qs,a,c,⟨zs,g,pr⟩,l,z⟩:=h;exact ⟨q,zs,qs,a,c,g,by rw[<- pr.length];exact l,pr,l,z⟩
end
theorem lA {W:Nat} {i:Int} (h:i.natAbs<=W) (hW:1<=W):Dr W (i:Rat):=⟨h,hW⟩
def Fq (K:FG9) (A:Addr->Prop) (H:Hp) (n:Nat) (C:Rat->Prop) (p:Addr) (m:Nat):Prop:=∃us,H p=some (.lst us)/\us.length=m/\¬A p/\∀x∈us,fq K A H n C x
structure xc (A:Addr->Prop) (m p l b q0:Addr):Prop where
 am:¬A m
 ap:¬A p
 al:¬A l
 ab:¬A b
 aq:¬A q0
 mb:m≠b
 pb:p≠b
 lb:l≠b
 mp:m≠p
 ml:m≠l
 mq:m≠q0
theorem xN {M:Nat} {z:Int} (h:z.natAbs<=2):Fr 1 2 (z:Rat):=Fr.int h
theorem uI {M W:Nat} {a c:Rat} {z:Int} (hz:z.natAbs<=2) (ha:Fr M W a) (hc:Fr M W c):Fr M (3*W) (a+(z:Rat)*c):=by
 have h:=(xN (M:=M) hz).mul hc;rw[tX] at h;exact (ha.add h).mono (by lia)
theorem t5 {z:Int} (h:z.natAbs<=1000):Aw (z:Rat):=wV (M:=1) (V:=1000) (by decide) (Nat.one_le_two_pow) (ar (show 1000<=2^10 by decide) (aG (by decide) (by decide))) (Fr.int h)
theorem qP {M W:Nat} {c:Rat} {z:Int} (hz:z.natAbs<=2) (hc:Fr M W c) (h0:0 < M) (h1:M<=2^800) (hW:W<=2^140):Aw ((z:Rat)*c):=by
 have h:=(xN (M:=M) hz).mul hc;rw[tX] at h;refine wV h0 (ar h1 (aG (by decide) (by decide))) (ar (Nat.mul_le_mul_left 2 hW) ?_) h;rw[show 2*2^140=2^141 by rw[lZ,ye]];exact aG (by decide) (by decide)
def eQ (A:Addr->Prop) (b m:Addr) (H H':Hp):Prop:=∀c u,H c=some u->c≠b->¬A c->c≠m->H' c=some u
theorem eQ.same {A:Addr->Prop} {b m:Addr} {H H1 H2:Hp} (h:eQ A b m H H1) (s:aD H1 H2):eQ A b m H H2:=λc u e n1 n2 n3=>s _ _ (h c u e n1 n2 n3)
theorem eQ.upto {A:Addr->Prop} {b m:Addr} {H H1 H2:Hp} (h:eQ A b m H H1) (s:bW b H1 H2):eQ A b m H H2:=λc u e n1 n2 n3=>s.1 _ _ (h c u e n1 n2 n3) n1
theorem eQ.upd {A:Addr->Prop} {b m q:Addr} {H H1:Hp} {o:HO} (h:eQ A b m H H1) (hq:A q\/q=m):eQ A b m H (L2.upd H1 q o):=λc u e n1 n2 n3=>by
 rw[aU]
 ·exact h c u e n1 n2 n3
 ·rintro rfl;rcases hq with hq | hq
  ·exact n2 hq
  ·exact n3 hq
theorem eQ.new {A:Addr->Prop} {b m r:Addr} {H H1:Hp} (h:eQ A b m H H1) (hA:∀q,H q=none->A q) (B:fU H1 b) (hm:H1 m≠none) (hr:H1 r=none):A r:=by
 by_cases z:A r
 ·exact z
 ·cases e:H r with
  | none=>exact hA r e
  | some u =>
   have:=h r u e (λy=>B.at (by rw[<- y];exact hr)) z (λy=>hm (by rw[<- y];exact hr));rw[hr] at this;cases this
structure ya (K:FG9) (A:Addr->Prop) (n:Nat) (C:Rat->Prop) (r p b q0:Addr) (us:List V) (H0 H:Hp):Prop where
 gr:H r=some (.lst us)
 ru:∀x∈us,fq K A H n C x
 rp:fq K A H n C (.ref p)
 bag:fU H b
 inn:Inner H b q0
 up:bW b H0 H
section
variable {K:FG9} {A:Addr->Prop} {n:Nat} {C:Rat->Prop} {r p b q0:Addr} {us:List V} {H0 H H':Hp} {y:Rat} {v:V}
theorem ya.same (h:ya K A n C r p b q0 us H0 H) (e:aD H H'):ya K A n C r p b q0 us H0 H':=⟨e _ _ h.gr,λx hx=>(h.ru x hx).same e,h.rp.same e,h.bag.same e,(e.upto (p:=b)).2 _ h.inn,h.up.same e⟩
theorem ya.upto (h:ya K A n C r p b q0 us H0 H) (u:bW b H H') (B:fU H' b) (nb:¬A b) (rb:r≠b):ya K A n C r p b q0 us H0 H':=⟨u.other rb h.gr,λx hx=>(h.ru x hx).upto u h.bag nb,h.rp.upto u h.bag nb,B,u.2 _ h.inn,h.up.trans u⟩
theorem ya.put (h:ya K A n C r p b q0 us H0 H) (ap:A p) (nr:¬A r) (nb:¬A b) (nq:¬A q0) (hp:H0 p=none) (hv:cg K H y v) (hc:C y) (j:Nat):∃zs,H p=some (.lst zs)/\zs.length=n/\ya K A n C r p b q0 us H0 (upd H p (.lst (zs.set j v))):=by
 obtain ⟨q,zs,qs,e,a,g,l,_⟩:=h.rp.at;cases e;have ne:∀{z},¬A z->z≠p:=λh e=>h (by rw[e];exact ap)
 exact ⟨zs,g,l,by rw[aU (ne nr)];exact h.gr,λx hx=>(h.ru x hx).put g hv hc j,h.rp.put g hv hc j,h.bag.upd h.inn (ne nb).symm (ne nq).symm,h.inn.upd (ne nb).symm,h.up.after hp⟩
end
theorem qZ {K:FG9} {A:Addr->Prop} {H:Hp} {n:Nat} {C:Rat->Prop} {us:List V} (h:∀x∈us,fq K A H n C x):∃rows:LR9,Paired (λqs x=>∃q,x=V.ref q/\A q/\fY K H q qs) rows us/\rows.length=us.length/\∀qs∈rows,qs.length=n/\∀y∈qs,C y:=by
 induction us with
 | nil=>exact ⟨[],.nil,rfl,λ_ z=>nomatch z⟩
 | cons u us ih =>
  obtain ⟨rows,pr,l,hr⟩:=ih λx hx=>h x (.tail _ hx)
  obtain ⟨q,qs,e,a,r,l1,c⟩:=h u (.head _);refine ⟨qs :: rows,.cons ⟨q,e,a,r⟩ pr,by simp [l],λzs hz=>?_⟩;rcases az.mp hz with rfl | hz
  ·exact ⟨l1,c⟩
  ·exact hr zs hz
theorem wu {K:FG9} {A:Addr->Prop} {H:Hp} {n:Nat} {C:Rat->Prop} {us:List V} {rows:LR9} (pr:Paired (λqs x=>∃q,x=V.ref q/\A q/\fY K H q qs) rows us) (h:∀qs∈rows,qs.length=n/\∀y∈qs,C y):∀x∈us,fq K A H n C x:=λx hx=>by
 obtain ⟨qs,hq,q,e,a,r⟩:=dk pr hx;exact ⟨q,qs,e,a,r,(h qs hq).1,(h qs hq).2⟩
theorem tL {n:Nat}:∀{rows:LR9},(∀xs∈rows,xs.length=n)->rows.flatten.length=rows.length*n
 | [],_=>by simp
 | xs :: rows,h=>by
  rw[jv,ai,h xs (.head _),tL λys hy=>h ys (.tail _ hy),ah,d6,cM]
theorem AY {c n:Nat} {rows:LR9} (h:∀qs∈rows,qs.length=n/\∀y∈qs,Dr (2^c) y):∃M:Nat,0 < M/\M<=2^(c*(rows.length*n))/\∀qs∈rows,∀y∈qs,Fr M (2^c) y:=by
 have fl:rows.flatten.length=rows.length*n:=tL λys hy=>(h ys hy).1
 have hm:∀a∈rows.flatten.map (·.den),0 < a/\a<=2^c:=λa ha=>by
  obtain ⟨y,hy,rfl⟩:=be.mp ha;obtain ⟨qs,hq,hy⟩:=gR.mp hy;exact ⟨y.den_pos,((h qs hq).2 y hy).2⟩
 refine ⟨tj (rows.flatten.map (·.den)),sZ λa ha=>(hm a ha).1,?_,λqs hq y hy=>?_⟩
 ·have:=vt (k:=c) (l:=rows.flatten.map (·.den)) λa ha=>(hm a ha).2
  rwa [ay,fl] at this
 ·exact (Fr.own y ((h qs hq).2 y hy).1).dvd (td (be.mpr ⟨y,gR.mpr ⟨qs,hq,hy⟩,rfl⟩))
theorem nD {K:FG9} {A:Addr->Prop} {H H0:Hp} {n m:Nat} {C:Rat->Prop} {p:Addr} (h:Fq K A H n C p m) (w:∀q,A q->H0 q=none):∃rows,c7 K H0 H p rows/\rows.length=m/\∀qs∈rows,qs.length=n/\∀y∈qs,C y:=by
 obtain ⟨us,g,l,a,r⟩:=h;obtain ⟨rows,pr,lr,hr⟩:=qZ r;refine ⟨rows,⟨us,g,Paired.imp' (λ_ _ ⟨q,e,aq,rq⟩=>⟨q,e,w q aq,rq⟩) pr,λhm=>?_⟩,by rw[lr,l],hr⟩;obtain ⟨q,_,e,aq,_⟩:=r _ hm;cases e;exact a aq
theorem eQ.trans {A:Addr->Prop} {b m:Addr} {H H1 H2:Hp} (h:eQ A b m H H1) (h':eQ A b m H1 H2):eQ A b m H H2:=λc u e n1 n2 n3=>h' c u (h c u e n1 n2 n3) n1 n2 n3
theorem zM {K:FG9} {A:Addr->Prop} {H0 H:Hp} {n:Nat} {C:Rat->Prop} {us:List V} {rows:LR9} (pr:Paired (jL K H0 H) rows us) (h:∀qs∈rows,qs.length=n/\∀y∈qs,C y) (w:∀q,V.ref q∈us->H0 q=none->H q≠none->A q):∀x∈us,fq K A H n C x:=λx hx=>by
 obtain ⟨qs,hq,q,e,a,r⟩:=dk pr hx;subst e;exact ⟨q,qs,rfl,w q hx a (by obtain ⟨_,g,_⟩:=r;rw[g];simp),r,(h qs hq).1,(h qs hq).2⟩
def iu (K:FG9) (H0 H:Hp) (r:Addr) (mv pt lk:LR9):Prop:=∃m p l,H r=some (.tup [.ref m,.ref p,.ref l])/\H0 m=none/\H0 p=none/\H0 l=none/\c7 K H0 H m mv/\c7 K H0 H p pt/\c7 K H0 H l lk
section
variable {K:FG9} {H H' H0 H1:Hp} {r b:Addr} {mv pt lk:LR9}
theorem iu.same (h:iu K H0 H r mv pt lk) (e:aD H H'):iu K H0 H' r mv pt lk:=by obtain ⟨m,p,l,g,n1,n2,n3,g1,g2,g3⟩:=h;exact ⟨m,p,l,e _ _ g,n1,n2,n3,g1.same e,g2.same e,g3.same e⟩
theorem iu.weak (h:iu K H0 H r mv pt lk) (e:∀q,H0 q=none->H1 q=none):iu K H1 H r mv pt lk:=by
 obtain ⟨m,p,l,g,n1,n2,n3,⟨x1,y1,z1,w1⟩,⟨x2,y2,z2,w2⟩,⟨x3,y3,z3,w3⟩⟩:=h;exact ⟨m,p,l,g,e _ n1,e _ n2,e _ n3,⟨x1,y1,Paired.imp' (λ_ _ ⟨q,a,b,c⟩=>⟨q,a,e _ b,c⟩) z1,w1⟩,⟨x2,y2,Paired.imp' (λ_ _ ⟨q,a,b,c⟩=>⟨q,a,e _ b,c⟩) z2,w2⟩,⟨x3,y3,Paired.imp' (λ_ _ ⟨q,a,b,c⟩=>⟨q,a,e _ b,c⟩) z3,w3⟩⟩
end
theorem xx {X:Cx} (K:FG9) {a:Expr} {ta:TE} {pos:Pos} {c:Str} {T:String} {p p2:Pos} (hg:Gl X "isinstance") (hm:X.mg "isinstance"=none) (hb:bootBuiltins c=some (.type T)) (hmc:X.mg c=none) (ha:PE X a ta) (hK:X.K=K:=by rfl) (hgc:Gl X c:=by rfl) (hn:c≠"__name__":=by decide)
  (hd:(c == ("__debug__":Str))=false:=by decide) (he:starEach [a,.Name c p2] X.env=[(false,eval a X.env),(false,eval (.Name c p2) X.env)]:=by rfl)
  (hpl:(backTo pos (starEach [.Name c p2] X.env)).any (·.1)=false:=by rfl) (he2:starEach [.Name c p2] X.env=[(false,eval (.Name c p2) X.env)]:=by rfl):PE X (.Call (.Name "isinstance" p) [a,.Name c p2] [] pos) (Cc (wx K T) ta):=by
 subst hK;exact kf hg hm hb hmc ha hgc hn hd he hpl he2
theorem Ab {K:FG9} {C:Addr}:PySem.W.kitOne K (.ref C) (.ref C)=some true:=by
 unfold PySem.W.kitOne;rw[if_pos (by simp)]
def BG:Kind Str where
 R:=λ_ _ x i=>x=.str i
 d:=0
 inj:=λ_ h1 h2=>by rw[h1] at h2;cases h2;rfl
 rc:=λ{X pins σ H s x y v u a b A} I rx ry h1 h2 _=>by
  subst h1 h2;obtain ⟨t,rfl⟩:=rx;obtain ⟨t',rfl⟩:=ry;have q:=SeqAt.RcAt.str_str (A:=A) (s:=s) a t b t';rwa [dH] at q
 ne:=λ{X pins σ H s x y v u a b A} I rx ry h1 h2 _=>by
  subst h1 h2;obtain ⟨t,rfl⟩:=rx;obtain ⟨t',rfl⟩:=ry;have q:=SeqAt.RcNeAt.str_str (A:=A) (s:=s) a t b t';rwa [dH] at q
 eq:=λ{X pins σ H s x y v u a b A} I rx ry h1 h2 _=>by
  subst h1 h2;obtain ⟨t,rfl⟩:=rx;obtain ⟨t',rfl⟩:=ry;have q:=SeqAt.EqAt.str_str (A:=A) (s:=s) a t b t';rwa [dH] at q
def Ee (x:Str):It:=⟨λi _=>i < x.cps.toList.length,λi H v H'=>H'=H/\∃c,x.cps.toList[i]?=some c/\v=.str ⟨#[c]⟩,λi _=>i=x.cps.toList.length⟩
theorem uX {P:Program} {w:World} {K:FG9} {tg:Expr} (it:Addr) (x:Str) (t:Tok) (ty:String)
  (hn:["enumerate","zip","dict_itemiterator","dict_reverseitemiterator","odict_iterator","itertools.zip_longest","itertools.pairwise"].contains ty=false)
  (W:∀A':Around,A'.handled=none->Walks P w A' it [it] [it] x.cps.size (SignAt x) (λi h=>h.IsStrIter it ty x t i))
  (S:∀(A:Around) (i:Nat) (s:Shared) (Q:Value->Shared->Prop) (E:Value->Shared->Prop),s.heap.IsStrIter it ty x t i->Q (.ref it) s->wpAny (model P w) A (pyIter (.ref it)) Q E s) :
  Turn P w K tg (Ee x) [it] it (λi h=>h.IsStrIter it ty x t i) where
 mem:=by simp
 obj:=λi h st b hb=>by
  have e:b=it:=by simpa using hb
  subst e;obtain ⟨o,ho,_,hd⟩:=st;exact ⟨o,ho,λv z=>by rw[hd] at z;cases z⟩
 keep:=λi h h' ⟨o,ho,r⟩ k=>⟨o,k it (by simp) _ ho,r⟩
 item:=by
  intro X hP hw hK hc i pins s σ H E I hf st hg;subst hP hw hK;obtain ⟨f0,f1,f2,f3,f4,f5⟩:=hf it (by simp);have hg':i < x.cps.size:=by simpa using (show i < x.cps.toList.length from hg)
  refine (W X.A (I.ok.hd hc)).item i s _ _ hg' st λv h' tk hv st' kk=>?_
  obtain ⟨c,u,ec,rfl⟩:=hv;have I1:Inv X pins σ H { s with heap:=h',toks:=tk }:=I.turned (λb o hb e=>kk b o (by simpa using hb) e) f0 f1 f3 f4 f5;obtain ⟨o,ho,hcl,hd⟩:=id st';refine ⟨_,rfl,xJ (s:={ s with heap:=h',toks:=tk }) (n:=ty) ho hcl hd hn ⟨.str ⟨#[c]⟩,H,I1,⟨u,rfl⟩,⟨rfl,c,by simpa using ec,rfl⟩,st',λb hb=>(hf b hb).1⟩⟩
 done:=by
  intro X hP hw hK hc i pins s σ H E I hf st hg;subst hP hw hK;obtain ⟨f0,f1,f2,f3,f4,f5⟩:=hf it (by simp);have e:i=x.cps.size:=by simpa using (show i=x.cps.toList.length from hg)
  subst e;exact (W X.A (I.ok.hd hc)).done s _ _ st λh' tk kk=>⟨rfl,I.turned (t':=tk) (λb o hb e=>kk b o (by simpa using hb) e) f0 f1 f3 f4 f5⟩
 self:=S
def FN (tl:TE):TI:=λσ H R=>tl σ H λx H1=>∃y,x=.str y/\R (Ee y) H1
theorem wz {X : Cx} {tg l : Expr} {tl : TE} (hl : PE X l tl) : PI X tg l (FN tl) := by
  intro pins s σ H R I h;refine dz (hl pins s σ H _ I h) λv s1 ⟨x, H1, I1, r1, q1⟩ => ?_
  obtain ⟨y, e, q⟩ := q1;subst e;obtain ⟨t, rfl⟩ := r1;refine wpAny_pyIter_strU ?_
  have hf : ∀ b ∈ [s1.heap.objs.size], jN X pins H1 b := λb hb => by
    have e : b = s1.heap.objs.size := by simpa using hb
    subst e;exact I1.fpOk (ax _) (I1.hok.fresh (ax _))
  cases ha : y.cps.all (· < 128)
  · have et : strIterType y = "str_iterator" := by simp [strIterType, ha]
    rw [et];exact ⟨s1.heap.objs.size, [s1.heap.objs.size], _, _, H1, rfl, I1.kept (t' := s1.toks) λb o e => Heap.get?_push_of_some _ e, uX _ y t _ (by decide) (λA' hA => Walks.strWide hA _ y t) (λ_ _ _ _ _ st h => wpAny_pyIter_striter_wide st h), ⟨_, Heap.get?_push_size _ rfl, rfl, rfl⟩, hf, q⟩
  · have et : strIterType y = "str_ascii_iterator" := by simp [strIterType, ha]
    rw [et];exact ⟨s1.heap.objs.size, [s1.heap.objs.size], _, _, H1, rfl, I1.kept (t' := s1.toks) λb o e => Heap.get?_push_of_some _ e, uX _ y t _ (by decide) (λA' hA => Walks.strAscii hA _ y t) (λ_ _ _ _ _ st h => wpAny_pyIter_striter_ascii st h), ⟨_, Heap.get?_push_size _ rfl, rfl, rfl⟩, hf, q⟩
theorem xO {x:Str} {g:TG} {tb:TS} {D:Ends} {σ:St} {H:Hp} (Pv:Nat->St->Hp->Prop) (h0:Pv 0 σ H)
  (hs:∀i c σ H,x.cps.toList[i]?=some c->Pv i σ H->g (.str ⟨#[c]⟩) σ H λσ2 H2=>tb { D with nx:=Pv (i+1),ct:=Pv (i+1),bk:=D.nx } σ2 H2) (hd:∀σ H,Pv x.cps.toList.length σ H->D.nx σ H) :
  ∃W:Nat->Nat->St->Hp->Prop,(∃m,W 0 m σ H)/\∀i m σ H,W i m σ H →
   ((Ee x).stop i H/\D.nx σ H)\/((Ee x).go i H/\∃N:St->Hp->Prop,(∀σ' H',N σ' H'->∃m',m' < m/\W (i+1) m' σ' H')/\∀v H',(Ee x).yld i H v H'->g v σ H' λσ2 H2=>tb { D with nx:=N,ct:=N,bk:=D.nx } σ2 H2):=by
 refine ⟨λi m σ H=>m=x.cps.toList.length - i/\i<=x.cps.toList.length/\Pv i σ H,⟨x.cps.toList.length,by simp,bf _,h0⟩,?_⟩;rintro i m σ H ⟨rfl,hi,p⟩;by_cases hlt:i < x.cps.toList.length
 ·refine .inr ⟨hlt,Pv (i+1),λσ' H' p'=>⟨x.cps.toList.length - (i+1),by lia,rfl,hlt,p'⟩,λv H' y=>?_⟩;obtain ⟨e,c,ec,y⟩:=y;subst e y;exact hs i c σ _ ec p
 ·have e:i=x.cps.toList.length:=by lia
  subst e;exact .inl ⟨rfl,hd σ H p⟩
theorem rV {x:Str} {g:TG} {tf:TT} {te:TE} {Q:VK} {σ₀:St} {H:Hp} (Pv:Nat->List V->Hp->Prop) (hz:x.cps.toList.length<=sizeLine) (h0:Pv 0 [] H)
  (hs:∀i c ys H,x.cps.toList[i]?=some c->ys.length<=i->Pv i ys H->nK σ₀ g tf te (.str ⟨#[c]⟩) H (λy H'=>Pv (i+1) (ys++[y]) H') λH'=>Pv (i+1) ys H')
  (hd:∀ys H,ys.length<=x.cps.toList.length->Pv x.cps.toList.length ys H->∀p,H p=none->Q (.ref p) (upd H p (.lst ys))):oI (Ee x) σ₀ g tf te Q H:=by
 refine ⟨λi m ys H=>m=x.cps.toList.length - i/\i<=x.cps.toList.length/\ys.length<=i/\Pv i ys H,⟨x.cps.toList.length,by simp,bf _,bf _,h0⟩,?_⟩;rintro i m ys H ⟨rfl,hi,hy,p⟩;by_cases hlt:i < x.cps.toList.length
 ·refine .inr ⟨hlt,by lia,λy H'=>Pv (i+1) (ys++[y]) H',λH'=>Pv (i+1) ys H',λy H' p'=>⟨x.cps.toList.length - (i+1),by lia,rfl,hlt,by rw[ai,bQ];lia,p'⟩,λH' p'=>⟨x.cps.toList.length - (i+1),by lia,rfl,hlt,by lia,p'⟩,λv H' y=>?_⟩;obtain ⟨e,c,ec,y⟩:=y;subst e y;exact hs i c ys _ ec hy p
 ·have e:i=x.cps.toList.length:=by lia
  subst e;exact .inl ⟨rfl,by lia,hd ys H hy p⟩
theorem mm:∀(xs:List Str) (tk:Nat),bO (xs.map V.str) (strsFrom tk xs)
 | [],_=>.nil
 | x :: xs,tk=>.cons ⟨tk,rfl⟩ (mm xs (tk+1))
def DE:V->List V->Hp->VK->Prop:=λx vs H Q=>∃a b:Str,x=.str a/\vs=[.str b]/\a.length<=1000000/\(b.length == 0)=false/\∀p,H p=none->Q (.ref p) (upd H p (.lst ((Txt.split a b).map V.str)))
theorem bo {n:Nat} (h:n<=1000002):n<=sizeLine:=by
 have h3:(1000002:Nat)<=sizeLine:=by rw[sizeLine_eq];decide
 lia
theorem rA {X:Cx}:D9 X "str.split" DE:=by
 intro pins s σ H x vs v us Q I rx rv h;obtain ⟨a,b,rfl,rfl,ha,hb,q⟩:=h;obtain ⟨t,rfl⟩:=rx;obtain ⟨u,rfl,t',rfl⟩:=rv.one;have hl:=split_le a b
 have fin:∀(its:List Value) (tk:Nat),bO ((Txt.split a b).map V.str) its->EP X pins σ Q (.ref s.heap.objs.size) { s with heap:=s.heap.push { cls:=.type "list",data:=.seq its.toArray },toks:=tk }:=λits tk hv =>
  ⟨.ref _,_,I.laid (t':=tk) (o:=.lst ((Txt.split a b).map V.str)) (λb ob q=>Heap.get?_push_of_some _ q) (ax _) ⟨by rw[ay];exact bo (by lia),_,0,hv,Heap.get?_push_size _ rfl⟩,rfl,q _ (I.hok.fresh (ax _))⟩
 unfold Txt.split at fin;by_cases h1:(decide (a.length < b.length) || decide (Builtin.Str.strKind a < Builtin.Str.strKind b))=true
 ·rw[if_pos h1] at fin;exact call_meets F.slot_str_split (typeIs_str _ _ _) F.entry_str_split (F.args_str_split_2 _ _) (meets_str_split_cannot_occur a b t t' h1) (fin _ s.toks (.cons ⟨t,rfl⟩ .nil))
 rw[if_neg h1] at fin;have h1':=yg.mpr h1;by_cases h2:(Builtin.Str.occurrences a b 0 a.length (a.length+1)).isEmpty=true
 ·rw[if_pos h2] at fin;exact call_meets F.slot_str_split (typeIs_str _ _ _) F.entry_str_split (F.args_str_split_2 _ _) (meets_str_split_not_found a b t t' h1' hb h2) (fin _ s.toks (.cons ⟨t,rfl⟩ .nil))
 rw[if_neg h2] at fin
 have e:Txt.split a b=Builtin.Str.partsBetween a (Builtin.Str.occurrences a b 0 a.length (a.length+1)) b.length:=by
  unfold Txt.split;rw[if_neg h1,if_neg h2]
 refine call_meets F.slot_str_split (typeIs_str _ _ _) F.entry_str_split (F.args_str_split_2 _ _) (meets_str_split_sep a b t t' h1' hb (yg.mpr h2) (bo (by lia)) (by rw[<- e];exact bo (by lia))) ?_;exact fin _ _ (mm _ _)
def EU:V->List V->Hp->VK->Prop:=λx vs H Q=>∃a b:Str,x=.str a/\vs=[.str b]/\a.length<=10000/\(b.length == 0)=false/\∀p,H p=none->Q (.ref p) (upd H p (.tup [.str (Txt.partition a b).1,.str (Txt.partition a b).2.1,.str (Txt.partition a b).2.2]))
theorem xC {X:Cx}:D9 X "str.partition" EU:=by
 intro pins s σ H x vs v us Q I rx rv h;obtain ⟨a,b,rfl,rfl,ha,hb,q⟩:=h;obtain ⟨t,rfl⟩:=rx;obtain ⟨u,rfl,t',rfl⟩:=rv.one
 have fin:∀(its:List Value) (tk:Nat),bO [.str (Txt.partition a b).1,.str (Txt.partition a b).2.1,.str (Txt.partition a b).2.2] its->EP X pins σ Q (.ref s.heap.objs.size) { s with heap:=s.heap.push { cls:=.type "tuple",data:=.seq its.toArray },toks:=tk }:=λits tk hv =>
  ⟨.ref _,_,I.laid (t':=tk) (o:=.tup _) (λb ob q=>Heap.get?_push_of_some _ q) (ax _) ⟨by show 3<=sizeLine;exact bo (by lia),_,hv,⟨_,Heap.get?_push_size _ rfl,rfl,_,rfl⟩⟩,rfl,q _ (I.hok.fresh (ax _))⟩
 refine call_meets F.slot_str_partition (typeIs_str _ _ _) F.entry_str_partition (F.args_str_partition_2 _ _) (meets_str_partition a b t t' hb (bo (by lia))) ?_;unfold Txt.partition at fin;cases e:Builtin.Str.occurrences a b 0 a.length 1 with
 | nil =>
  rw[e] at fin;exact fin _ _ (.cons ⟨_,rfl⟩ (.cons ⟨_,rfl⟩ (.cons ⟨_,rfl⟩ .nil)))
 | cons i r =>
  rw[e] at fin;exact fin _ _ (.cons ⟨_,rfl⟩ (.cons ⟨_,rfl⟩ (.cons ⟨_,rfl⟩ .nil)))
def Bm:V->List V->Hp->VK->Prop:=λx vs H Q=>∃(a:Str) (c:Nat),x=.str a/\vs=[.str ⟨#[c]⟩]/\Q (.bl (decide (a.cps.toList.head?=some c))) H
theorem wd (a:Str) (c:Nat):(decide (0+(⟨#[c]⟩:Str).length<=a.length) && Builtin.Str.subAt a ⟨#[c]⟩ 0)=decide (a.cps.toList.head?=some c):=by
 obtain ⟨⟨l⟩⟩:=a;cases l with
 | nil=>rfl
 | cons d r =>
  show (decide (0+1<=(d :: r).length) && ((d :: r).toArray.extract 0 (0+1) == #[c]))=decide (some d=some c)
  rw[decide_eq_true (show 0+1<=(d :: r).length by simp),Bool.true_and,fz];simp
theorem tG {X:Cx}:D9 X "str.startswith" Bm:=by
 intro pins s σ H x vs v us Q I rx rv h;obtain ⟨a,c,rfl,rfl,q⟩:=h;obtain ⟨t,rfl⟩:=rx;obtain ⟨u,rfl,t',rfl⟩:=rv.one;refine call_meets F.slot_str_startswith (typeIs_str _ _ _) F.entry_str_startswith (F.args_str_startswith_2 _ _) (gives_str_startswith a ⟨#[c]⟩ t t').meets ?_;rw[<- wd a c] at q;exact ⟨.bl _,H,I,rfl,q⟩
def Bn:V->List V->Hp->VK->Prop:=λx vs H Q=>∃(a b:Str) (i:Nat) (r:List Nat),x=.str a/\vs=[.str b]/\Builtin.Str.occurrences a b 0 a.length 1=i :: r/\Q (.int i) H
theorem yx {X:Cx}:D9 X "str.index" Bn:=by
 intro pins s σ H x vs v us Q I rx rv h;obtain ⟨a,b,i,r,rfl,rfl,e,q⟩:=h;obtain ⟨t,rfl⟩:=rx;obtain ⟨u,rfl,t',rfl⟩:=rv.one;refine call_meets F.slot_str_index (typeIs_str _ _ _) F.entry_str_index (F.args_str_index_2 _ _) (gives_str_index a b t t' i r e).meets ?_;exact ⟨.int i,H,I.tok _,⟨_,rfl⟩,q⟩
theorem sS:∀{xs:List Str} {us:List Value},bO (xs.map V.str) us->∃l:List (Str×Tok),us=strValues l/\l.map (·.1)=xs
 | [],us,h=>by cases h;exact ⟨[],rfl,rfl⟩
 | x :: xs,us,h=>by
  cases h with
  | cons r rr =>
   obtain ⟨t,rfl⟩:=r;obtain ⟨l,rfl,e⟩:=sS rr;exact ⟨(x,t) :: l,rfl,by rw[cJ,e]⟩
def rJoin:V->List V->Hp->VK->Prop:=λx vs H Q=>∃(a:Str) (p:Addr) (xs:List Str),x=.str a/\vs=[.ref p]/\a.length<=1/\H p=some (.lst (xs.map V.str))/\xs.length<=1000/\(∀y∈xs,y.length<=10000)/\Q (.str (Str.join a xs)) H
theorem xD {X:Cx}:D9 X "str.join" rJoin:=by
 intro pins s σ H x vs v us Q I rx rv h;obtain ⟨a,p,xs,rfl,rfl,ha,hp,hx,hy,q⟩:=h;obtain ⟨t,rfl⟩:=rx;obtain ⟨u,rfl,ru⟩:=rv.one;cases ru;obtain ⟨z,its,n,r,hl,e⟩:=I.lstM hp;obtain ⟨l,rfl,el⟩:=sS r;refine call_meets F.slot_str_join (typeIs_str _ _ _) F.entry_str_join (F.args_str_join_2 _ _) (meets_str_join_list a t p l ?_) ⟨PySem.IsL.isList e,?_⟩
 ·rw[el]
  have:=PySem.StrLaws.joinFits (sep:=a) (texts:=xs) (B:=10000) hy (by
   have:xs.length*10000<=1000*10000:=bY _ hx;have:xs.length*a.length<=1000*1:=eS hx ha
   lia)
  exact this
 ·have eg:Builtin.Str.glued a (l.map (·.1))=Str.join a xs:=by rw[PySem.StrLaws.glued_eq_join,el]
  have hs:(Str.join a xs).length<=sizeLine:=by
   have h1:=PySem.StrLaws.join_length_le a xs
   have h2:∀l:List Str,(∀y∈l,y.length<=10000)->(l.map (·.length)).sum<=l.length*10000:=λl hl=>by
    induction l with
    | nil=>exact ax _
    | cons y l ih =>
     have:=ih λz hz=>hl z (ao _ hz)
     have:=hl y (aE ..);rw[cJ,List.sum_cons,ah]
     lia
   have h3:=h2 xs hy;have:xs.length*a.length<=1000*1:=eS hx ha;have h4:(10001000:Nat)<=sizeLine:=by rw[sizeLine_eq];decide
   lia
  match l,el,eg with
  | [pp],el,eg =>
   refine ⟨.str pp.1,H,I,⟨pp.2,rfl⟩,?_⟩;rw[show pp.1=Str.join a xs by rw[<- el];rfl];exact q
  | [],el,eg=>exact ⟨by rw[eg];exact hs,⟨.str _,H,I.tok _,⟨_,rfl⟩,by rw[eg];exact q⟩⟩
  | _ :: _ :: _,el,eg=>exact ⟨by rw[eg];exact hs,⟨.str _,H,I.tok _,⟨_,rfl⟩,by rw[eg];exact q⟩⟩
open PySem.NumText
def sl (l:List Nat):Str:=⟨l.toArray⟩
theorem bx (l:List Nat):(sl l).cps.toList=l:=List.toList_toArray ..
theorem aR (l:List Nat):(sl l).length=l.length:=by unfold sl Str.length;simp
theorem qV (x:Str):x=sl x.cps.toList:=by unfold sl;simp
theorem fB {a b:List Nat} (h:sl a=sl b):a=b:=by
 have:=congrArg (λx:Str=>x.cps.toList) h;simpa [bx] using this
theorem iK (a b:List Nat):sl a++sl b=sl (a++b):=by
 show (⟨a.toArray++b.toArray⟩:Str)=⟨(a++b).toArray⟩
 simp
def bJ (n:Nat):List Nat:=(Nat.toDigits 10 n).map Char.toNat
def dn (i:Int):List Nat:=if i < 0 then 45 :: bJ i.natAbs else bJ i.natAbs
theorem zF (n:Nat):Str.ofString (toString ((n:Nat):Int))=sl (bJ n):=by
 rw[qV (Str.ofString _),PySem.W.KIN.signs_num];rfl
theorem C3 (i:Int):Str.ofString (toString i)=sl (dn i):=by
 unfold dn;by_cases h:i < 0
 ·rw[if_pos h,toString_neg h,show 0 - i=((i.natAbs:Nat):Int) by lia];rw[qV (Str.ofString _),signs_ofString,String.toList_append,bw];have:=congrArg (λx:Str=>x.cps.toList) (zF i.natAbs);simp only[bx,signs_ofString] at this;rw[this];rfl
 ·rw[if_neg h];have e:i=((i.natAbs:Nat):Int):=by lia
  rw[e,zF];simp
theorem hJ (n:Nat):AllDigits (bJ n):=λc hc=>by
 obtain ⟨ch,hch,rfl⟩:=be.mp hc;exact digit_range (Nat.isDigit_of_mem_toDigits (by decide) (by decide) hch)
theorem oj (n:Nat):digitsVal (bJ n)=n:=PySem.W.KIN.val_back n
theorem eG {n:Nat} (h:n < 10):bJ n=[48+n]:=by
 unfold bJ;rw[Nat.toDigits_of_lt_base h];have:∀d:Nat,d < 10->(Nat.digitChar d).toNat=48+d:=by decide
 rw[List.map_singleton,this n h]
theorem rJ {n:Nat} (h:10<=n):bJ n=bJ (n / 10)++bJ (n % 10):=by
 unfold bJ;have hm:n % 10 < 10:=Nat.mod_lt n (by decide);have t:Nat.toDigits 10 (n / 10)++Nat.toDigits 10 (n % 10)=Nat.toDigits 10 (10*(n / 10)+n % 10):=Nat.toDigits_append_toDigits (by decide) (by lia) hm;rw[Nat.div_add_mod] at t;rw[<- t,bw]
theorem iH (n:Nat):∃c r,bJ n=c :: r/\(n≠0->c≠48):=by
 induction n using Nat.strongRecOn with
 | _ n ih =>
  by_cases h:n < 10
  ·exact ⟨48+n,[],eG h,λz=>by lia⟩
  ·obtain ⟨c,r,e,hc⟩:=ih (n / 10) (by lia);exact ⟨c,r++bJ (n % 10),by rw[rJ (by lia),e];rfl,λ_=>hc (by lia)⟩
theorem jR:∀(k n:Nat),n < 10^(k+1)->(bJ n).length<=k+1
 | 0,n,h=>by rw[eG (by simpa using h)];simp
 | k+1,n,h=>by
  by_cases h1:n < 10
  ·rw[eG h1];simp
  ·have h2:n / 10 < 10^(k+1):=by
    rw[Nat.div_lt_iff_lt_mul (by decide)];rwa [lZ] at h
   have:=jR k (n / 10) h2;rw[rJ (by lia),ai,eG (Nat.mod_lt n (by decide))];simp only[bQ]
   lia
def yQ (l:List Nat) (n:Nat):Prop:=l≠[]/\AllDigits l/\(l.head?=some 48->l=[48])/\digitsVal l=n
theorem ed (n:Nat):yQ (bJ n) n:=by
 obtain ⟨c,r,e,hc⟩:=iH n;refine ⟨by rw[e];exact yT _ _,hJ n,λz=>?_,oj n⟩;rw[e] at z;have z':c=48:=by simpa using z
 have n0:n=0:=Classical.byContradiction λh=>hc h z'
 rw[n0];exact eG (by decide)
theorem lX {c n:Nat} (h:c < 48):c∉bJ n:=λz=>by have:=hJ n c z;lia
def bM (n:Int×Int):List Nat:=dn n.1++(if n.2=1 then [] else 47 :: bJ n.2.natAbs)
theorem lV {c:Nat} {i:Int} (h:c < 48) (h':c≠45):c∉dn i:=λz=>by
 unfold dn at z
 split at z
 ·rcases az.mp z with z | z
  ·exact h' z
  ·exact lX h z
 ·exact lX h z
theorem tE {n:Int×Int}:32∉bM n:=λz=>by
 unfold bM at z;rcases aO.mp z with z | z
 ·exact lV (by decide) (by decide) z
 ·split at z
  ·exact nomatch z
  ·rcases az.mp z with z | z
   ·exact absurd z (by decide)
   ·exact lX (by decide) z
theorem xA (n:Int×Int):bM n≠[]:=λz=>by
 unfold bM dn at z;obtain ⟨c,r,e,_⟩:=iH n.1.natAbs
 split at z
 ·cases z
 ·rw[e] at z;cases z
theorem tq {l:List Nat} {c:Nat} (h:c∉l):Txt.partition (sl l) (sl [c])=(sl l,sl [],sl []):=by
 rcases partition_whole (sl l) (sl [c]) with ⟨e,_⟩ | ⟨i,_,hi,_⟩
 ·rw[e];rfl
 ·refine absurd ?_ h;have:=(Fs (sl l) c i).mp hi;rw[bx] at this;exact au this
theorem tm {a b:List Nat} {c:Nat} (h:c∉a):Txt.partition (sl (a++c :: b)) (sl [c])=(sl a,sl [c],sl b):=by
 have at_:∀i,PySem.StrLaws.At (sl (a++c :: b)) (sl [c]) (sl (a++c :: b)).length i↔(a++c :: b)[i]?=some c:=λi=>by
  have:=Fs (sl (a++c :: b)) c i;rwa [bx] at this
 rcases partition_whole (sl (a++c :: b)) (sl [c]) with ⟨_,no⟩ | ⟨i,e,hi,no⟩
 ·exact absurd ((at_ a.length).mpr (by simp)) (no _)
 ·have hi':=(at_ i).mp hi
  have ei:i=a.length:=by
   rcases Nat.lt_trichotomy i a.length with z | z | z
   ·rw[dP z] at hi';exact absurd (au hi') h
   ·exact z
   ·exact absurd ((at_ a.length).mpr (by simp)) (no _ z)
  subst ei;rw[e]
  have e1:Builtin.Str.strSub (sl (a++c :: b)) 0 a.length=sl a:=by
   rw[qV (Builtin.Str.strSub _ _ _)];congr 1;show ((a++c :: b).toArray.extract 0 a.length).toList=a
   simp
  have e2:Builtin.Str.strSub (sl (a++c :: b)) (a.length+(sl [c]).length) (sl (a++c :: b)).length=sl b:=by
   rw[qV (Builtin.Str.strSub _ _ _)];congr 1;rw[aR,aR];show ((a++c :: b).toArray.extract (a.length+1) (a++c :: b).length).toList=b
   simp;exact ba (by lia)
  rw[e1,e2]
def bU (c:Nat):List (List Nat)->List Nat
 | []=>[]
 | [x]=>x
 | x :: y :: r=>x++c :: bU c (y :: r)
theorem nO (c:Nat):∀ws:List (List Nat),Str.join (sl [c]) (ws.map sl)=sl (bU c ws)
 | []=>rfl
 | [x]=>rfl
 | x :: y :: r=>by
  show sl x++sl [c]++Str.join (sl [c]) ((y :: r).map sl)=sl (x++c :: bU c (y :: r))
  rw[nO c (y :: r),iK,iK,br];rfl
theorem oA {c:Nat}:∀{a b x y:List Nat},c∉a->c∉b->a++c :: x=b++c :: y->a=b/\x=y
 | [],[],x,y,_,_,h=>⟨rfl,by simpa using h⟩
 | [],b :: bs,x,y,_,hb,h=>by
  simp only[kF,yU,AI] at h;exact absurd (az.mpr (.inl h.1)) hb
 | a :: as,[],x,y,ha,_,h=>by
  simp only[kF,yU,AI] at h;exact absurd (az.mpr (.inl h.1.symm)) ha
 | a :: as,b :: bs,x,y,ha,hb,h=>by
  simp only[yU,AI] at h;obtain ⟨e1,e2⟩:=oA (λz=>ha (ao _ z)) (λz=>hb (ao _ z)) h.2;exact ⟨by rw[h.1,e1],e2⟩
theorem rE {c:Nat}:∀{ws ps:List (List Nat)},ws≠[]->ps≠[]->(∀w∈ws,c∉w)->(∀w∈ps,c∉w)->bU c ws=bU c ps->ws=ps
 | [],_,h,_,_,_,_=>absurd rfl h
 | _,[],_,h,_,_,_=>absurd rfl h
 | [x],[y],_,_,_,_,h=>by rw[show x=y from h]
 | [x],y :: z :: r,_,_,hw,_,h=>by
  have h':x=y++c :: bU c (z :: r):=h;exact absurd (by rw[h'];simp) (hw x (by simp))
 | x :: z :: r,[y],_,_,_,hp,h=>by
  have h':x++c :: bU c (z :: r)=y:=h;exact absurd (by rw[<- h'];simp) (hp y (by simp))
 | x :: z :: r,y :: u :: v,_,_,hw,hp,h=>by
  obtain ⟨e1,e2⟩:=oA (hw x (by simp)) (hp y (by simp)) h;have:=rE (yT _ _) (yT _ _) (λw m=>hw w (ao _ m)) (λw m=>hp w (ao _ m)) e2;rw[e1,this]
theorem qR {c:Nat} {ws:List (List Nat)} (h0:ws≠[]) (h:∀w∈ws,c∉w):Txt.split (sl (bU c ws)) (sl [c])=ws.map sl:=by
 have e:=Ej (sl (bU c ws)) (sl [c]);have f:∀p∈Txt.split (sl (bU c ws)) (sl [c]),c∉p.cps.toList:=Ei (sl (bU c ws)) c;have l1:=split_pos (sl (bU c ws)) (sl [c]);generalize Txt.split (sl (bU c ws)) (sl [c])=ps at e f l1 ⊢
 have ep:ps=(ps.map λp=>p.cps.toList).map sl:=by
  rw[d7];exact (List.map_id _).symm.trans (ij λp _=>qV p)
 rw[ep,nO] at e;have:=rE (λz=>?_) h0 (λw hw=>?_) h (fB e)
 ·rw[ep,this]
 ·rw[uT] at z;rw[z] at l1;exact absurd l1 (by decide)
 ·obtain ⟨p,hp,rfl⟩:=be.mp hw;exact f p hp
theorem wO (l:List Nat) (c:Nat):(!(Builtin.Str.occurrences (sl l) ⟨#[c]⟩ 0 (sl l).length 1).isEmpty)=decide (c∈l):=by
 rw[PySem.StrLaws.found_one,bx]
theorem xP:∀c,48<=c->c<=57->∃r,Builtin.Str.occurrences (Str.ofString "0123456789") ⟨#[c]⟩ 0 (Str.ofString "0123456789").length 1=(c - 48) :: r:=by
 intro c h1 h2;have:c=48\/c=49\/c=50\/c=51\/c=52\/c=53\/c=54\/c=55\/c=56\/c=57:=by lia
 rcases this with rfl | rfl | rfl | rfl | rfl | rfl | rfl | rfl | rfl | rfl <;> exact ⟨[],by decide +kernel⟩
theorem Inv.nodig {X:Cx} {pins:List (Addr×Obj)} {σ:St} {H:Hp} {s:Shared} (I:Inv X pins σ H s):s.heap.NoDigits:=I.ok.mod.nodig.keeps I.bk
theorem gH {X:Cx} (hc:X.calm=true):jY X (.type "str") (λxs H Q=>∃i,xs=[.int i]/\i.natAbs < 10^4300/\Q (.str (sl (dn i))) H):=by
 intro pins s σ H xs us Q I r h;obtain ⟨i,rfl,hz,q⟩:=h;obtain ⟨u,rfl,t,rfl⟩:=vals1 r;refine str_of_int_or (I.ok.hd hc) I.nodig (λ_=>⟨.str _,H,I.tok _,⟨_,rfl⟩,?_⟩) λz=>absurd hz (Nat.not_lt.mpr z)
 rw[C3];exact q
theorem zX (l:List Nat) (a b:Nat) (hb:b<=l.length):((List.range (b - a)).map λk=>a+k).filterMap (l[·]?)=(l.drop a).take (b - a):=by
 generalize hn:b - a=n;have hn':a+n<=l.length\/n=0:=by lia
 clear hn hb
 induction n with
 | zero=>simp
 | succ n ih =>
  have h1:a+n < l.length:=by lia
  rw[List.range_succ,bw,List.filterMap_append,ih (by lia),List.map_singleton];rw[show List.filterMap (λx=>l[x]?) [a+n]=[l[a+n]] by simp [aF h1],List.take_add_one];congr 1;rw[List.getElem?_drop,aF h1];rfl
def lH (l:List Nat) (lo hi:Option Int):List Nat:=(l.drop (HT.oK l.length 0 lo)).take (HT.oK l.length l.length hi - HT.oK l.length 0 lo)
theorem zK (n d:Nat) (o:Option Int) (h:d<=n):HT.oK n d o<=n:=by
 cases o with
 | none=>exact h
 | some i =>
  unfold HT.oK;simp only
  split <;> lia
theorem zf (l:List Nat) (lo hi:Option Int):(Builtin.Str.strSliceIndices lo hi 1 l.length).filterMap (l[·]?)=lH l lo hi:=by
 obtain ⟨h1,h2,h3⟩:=j6 lo hi l.length;have e:Builtin.Str.strSliceIndices lo hi 1 l.length=sliceRange (sliceBounds lo hi none l.length).1 (sliceBounds lo hi none l.length).2.1 (sliceBounds lo hi none l.length).2.2:=rfl;rw[e,h1,h2,h3,sliceRange_one];exact zX l _ _ (zK _ _ _ (ax _))
def ET:V->Option Int->Option Int->Hp->VK->Prop:=λx lo hi H Q=>∃l,x=.str (sl l)/\l.length<=10000/\Q (.str (sl (lH l lo hi))) H
theorem iC {X:Cx}:Fx X ET:=by
 intro pins s σ H x v vl vu lo hi si Q I rx hs pl pu h;obtain ⟨y,rfl,hy,q⟩:=h;obtain ⟨t,rfl⟩:=(show ∃t,v=Value.str (sl y) t from rx);refine ⟨"str",_,PySem.F.slot_str_getitem.lookup,typeIs_str _ _ _,?_⟩;obtain ⟨l,e1,e3⟩:∃l:Option (Int×Tok),vl=partValue l/\l.map (·.1)=lo:=by cases pl with | none=>exact ⟨none,rfl,rfl⟩ | int i t=>exact ⟨some (i,t),rfl,rfl⟩
 obtain ⟨u,e2,e4⟩:∃u:Option (Int×Tok),vu=partValue u/\u.map (·.1)=hi:=by cases pu with | none=>exact ⟨none,rfl,rfl⟩ | int i t=>exact ⟨some (i,t),rfl,rfl⟩
 subst e1 e2;refine wpAny_getItem_str_slice (l:=l) (u:=u) (st:=none) hs rfl ?_
 have ep:(slicePicked (sl y) l u none).filterMap ((sl y).cps[·]?)=lH y lo hi:=by
  unfold slicePicked;rw[e3,e4,aR];show (Builtin.Str.strSliceIndices lo hi 1 y.length).filterMap ((sl y).cps[·]?)=_
  rw[<- zf];congr 1;funext k;unfold sl;simp
 have lc:(lH y lo hi).length<=y.length:=by
  unfold lH;rw[dA,bu]
  lia
 unfold sliceMade
 split
 ·next hh =>
  refine ⟨.str (sl y),H,I,⟨_,rfl⟩,?_⟩
  have h1:(slicePicked (sl y) l u none).length=y.length:=by
   have:=(Bool.and_eq_true_iff.mp hh).2;rw[aR] at this;exact beq_iff_eq.mp this
  have h2:lH y lo hi=y:=by
   unfold slicePicked at h1;rw[e3,e4,aR] at h1;obtain ⟨b1,b2,b3⟩:=j6 lo hi y.length;have e:Builtin.Str.strSliceIndices lo hi 1 y.length=sliceRange (sliceBounds lo hi none y.length).1 (sliceBounds lo hi none y.length).2.1 (sliceBounds lo hi none y.length).2.2:=rfl;have h1':(Builtin.Str.strSliceIndices lo hi 1 y.length).length=y.length:=h1;rw[e,b1,b2,b3,sliceRange_one,ay,List.length_range] at h1';unfold lH;have c1:=zK y.length y.length hi (ax _);by_cases z:HT.oK y.length 0 lo=0
   ·rw[z] at h1' ⊢;exact ba (by rw[bu];lia)
   ·have:y.length=0:=by lia
    rw[qi.mp this];simp
  rw[h2] at q;exact q
 ·rw[ep];refine ⟨?_,⟨.str _,H,I.tok _,⟨_,rfl⟩,q⟩⟩;show (lH y lo hi).toArray.size<=sizeLine
  rw[aw];exact bo (by lia)
theorem lY (l:List Nat) (k:Nat):lH l (some (k:Int)) none=l.drop k:=by
 unfold lH;have e:HT.oK l.length l.length none=l.length:=rfl;rw[e];by_cases h:k<=l.length
 ·have e2:HT.oK l.length 0 (some (k:Int))=k:=by
   unfold HT.oK;simp only
   split <;> lia
  rw[e2];exact ba (by rw[bu];lia)
 ·have e2:HT.oK l.length 0 (some (k:Int))=l.length:=by
   unfold HT.oK;simp only
   split <;> lia
  rw[e2,Nat.sub_self,mP,List.drop_eq_nil_of_le (by lia)]
theorem vv:2^8000<=10^2667:=by
 refine ar (aG (by decide) (show 8000<=3*2667 by decide)) ?_;rw[Nat.pow_mul];exact Nat.pow_le_pow_left (by decide) _
theorem qv {i:Int} (h:Sz 8000 i):i.natAbs < 10^4300 :=
 av (av (show i.natAbs < 2^8000 from h) vv) (aG (by decide) (by decide))
theorem uK {i:Int} (h:Sz 8000 i):(bJ i.natAbs).length<=2667:=jR 2666 _ (av (show i.natAbs < 2^8000 from h) vv)
theorem xI {i:Int} (h:Sz 8000 i):(dn i).length<=2668:=by
 have:=uK h;unfold dn
 split
 ·rw[ah];lia
 ·lia
theorem xy {n:Int×Int} (h:ja n):(bM n).length<=5400:=by
 have h1:=xI h.2.2.1;have h2:=uK h.2.2.2;unfold bM;rw[ai]
 split
 ·simp only[fv];lia
 ·rw[ah];lia
def zh (vs:List V) (H:Hp) (Q:VK) (_:XK):Prop:=∃l:List Nat,vs=[.str (sl l)]/\l.length<=1000000/\∀p H',aD H H'->H p=none->H' p=some (.lst ((Txt.split (sl l) (sl [32])).map V.str))->Q (.ref p) H'
def zk (K:FG9) (vs:List V) (H:Hp) (Q:VK) (_:XK):Prop:=∃(x:V) (n:Int×Int),vs=[x]/\jM K H x n/\ja n/\Q (.str (sl (bM n))) H
def zj (K:FG9) (vs:List V) (H:Hp) (Q:VK) (_:XK):Prop:=∃(p:Addr) (ns:List (Int×Int)),vs=[.ref p]/\lO K H p ns/\ns.length<=100/\(∀n∈ns,ja n)/\∀H',aD H H'->Q (.str (sl (bU 32 (ns.map bM)))) H'
theorem vH (c B:Nat):∀ws:List (List Nat),(∀w∈ws,w.length<=B)->(bU c ws).length<=ws.length*(B+1)
 | [],_=>bf _
 | [x],h=>by
  have:=h x (by simp);show x.length<=1*(B+1)
  lia
 | x :: y :: r,h=>by
  have h1:=vH c B (y :: r) λw m=>h w (ao _ m)
  have h2:=h x (by simp);show (x++c :: bU c (y :: r)).length<=(r.length+1+1)*(B+1)
  rw[ai,ah,d6];rw[ah] at h1
  lia
theorem kH:Str.ofString " "=sl [32]:=by decide +kernel
theorem nN:Str.ofString "/"=sl [47]:=by decide +kernel
theorem zG:Str.ofString "-"=sl [45]:=by decide +kernel
theorem ef:Str.ofString ""=sl []:=by decide +kernel
theorem ue:Str.ofString "0"=sl [48]:=by decide +kernel
theorem uf:Str.ofString "0123456789"=sl [48,49,50,51,52,53,54,55,56,57]:=by decide +kernel
theorem uV {l:List Nat} {i c:Nat} (e:l[i]?=some c):digitsVal (l.take (i+1))=digitsVal (l.take i)*10+(c - 48):=by
 rw[take_snoc e,digitsVal_snoc]
open PySem.Calls
section
variable {M:Model} {A:Around} {E:Value->Shared->Prop} {s:Shared}
theorem CY {Q:Nat->Shared->Prop} (hn:s.heap.NoDigits) (h:Q 4300 s):wpAny M A Builtin.intMaxStrDigits Q E s:=by
 obtain ⟨mc,hns,hnone⟩:=hn;unfold Builtin.intMaxStrDigits;refine wpAny_bind (wpAny_nsGet hns ?_);rw[hnone];exact wpAny_pure h
theorem AL {Q : Value → Shared → Prop} {v : Value} {text : List Nat} {n : Int} (hn : s.heap.NoDigits)
    (hs : ¬ (text.takeWhile (· != 0)).length ≤ 640) (hr : (int_private% "readNumeral") 4300 10 (text.takeWhile (· != 0)) = (int_private% "Numeral.value") n)
    (ha : ((text.takeWhile (· != 0)).length == text.length) = true) (h : Q (.int n s.toks) { s with toks := s.toks + 1 }) :
    wpAny M A ((int_private% "intFromText") v text 10) Q E s := by
  obtain ⟨hp, g, d, tk, os⟩ := s
  repeat (any_goals (first
    | assumption
    | (with_reducible refine CY hn ?_)
    | (with_reducible refine wpAny_ite_false (decide_eq_false hs) ?_)
    | (with_reducible refine wpAny_ite_true (decide_eq_true ha) ?_)
    | wp_step))
  all_goals (try rw [hr])
  all_goals (try dsimp only)
  repeat (any_goals (first
    | assumption
    | (with_reducible refine wpAny_ite_true (decide_eq_true ha) ?_)
    | wp_step))
end
set_option maxHeartbeats 4000000 in
theorem wG {x:PySem.Str} {u:Tok} {n:Int} (hl:x.length<=4300) (had:AllDigits x.cps.toList) (hn:PySem.intText? x=some n):Meets (Builtin.«int.__new__» ⟨[.type "int",.str x u],[]⟩) (λ_ R s=>s.heap.NoDigits/\R (.ok (.ret (.int n s.toks))) { s with toks:=s.toks+1 }):=by
 by_cases h0:x.length<=640
 ·exact (PySem.W.KIN.gives_text (u:=u) h0 hn).meets.of_imp λA R s h=>h.2
 have h640:¬(numSeenOf x).length<=640:=by
  obtain ⟨e1,e2⟩:=numText_signs (x:=x) λc hc=>Or.inr (had c hc)
  rw[show numSeenOf x=x.cps.toList by first | exact e2 | exact e1,Array.length_toList];exact h0
 clear had h0;refine .of_wp λprog w A R s hh=>?_
 obtain ⟨hdg,h⟩:=hh;obtain ⟨hp,g,d,tk,os⟩:=s;have f1:=F.conv_sub_int;have f2:=F.madeHere_int;have f3:=PySem.W.KIN.str_int;have f4:=PySem.W.KIN.str_idx;have f5:=PySem.W.KIN.str_trunc;have f6:typeOf (.str x u)=pure (.type "str"):=rfl
 have hr:(int_private% "readNumeral") 4300 10 (numSeenOf x)=(int_private% "Numeral.value") n/\((numSeenOf x).length == (numTextOf x).length)=true:=by
  rcases read4300 x (by rw[sizeLine_eq];lia) with ⟨m,h1,h2,h3⟩ | ⟨h1,_⟩
  ·rw[hn] at h1;injection h1 with h1
   subst h1;exact ⟨h3,h2⟩
  ·rw[hn] at h1;cases h1
 have hk:=PySem.W.KIN.Hid.mk (And.intro h640 (And.intro hr hdg));clear hr hl hn h640 hdg
 repeat (any_goals (first
  | assumption
  | ((with_reducible show wpAny _ _ ((int_private% "intFromText") _ _ _) _ _ _);refine AL hk.out.2.2 hk.out.1 hk.out.2.1.1 hk.out.2.1.2 ?_)
  | wp_step))
 all_goals first | exact ⟨_,rfl,h⟩ | skip
theorem iI {X:Cx}:jY X (.type "int") (λxs H Q=>∃l:List Nat,xs=[.str (sl l)]/\l≠[]/\AllDigits l/\l.length<=4300/\Q (.int (digitsVal l:Nat)) H):=by
 intro pins s σ H xs us Q I r h;obtain ⟨l,rfl,h0,h1,h2,q⟩:=h;obtain ⟨u,rfl,t,rfl⟩:=vals1 r;have h1':AllDigits (sl l).cps.toList:=by rw[bx];exact h1
 have e:=intText_digits (x:=sl l) h1' (by rw[bx];exact h0) (by rw[aR];exact h2);rw[bx] at e;exact call_int_1 (wG (by rw[aR];exact h2) h1' e) ⟨I.nodig,typeIs_int _ _ _,.int _,H,I.tok _,⟨_,rfl⟩,q⟩
theorem By {X : Cx} : qt X (binaryOp .Mult) (λx y H Q => ∃ (c : Nat) (k : Nat), x = .str (sl [c]) /\ y = .int k /\ k ≤ 10000 /\ Q (.str (sl (List.replicate k c))) H) := by
  intro pins s σ H x y v u Q I rx ry h;obtain ⟨c, k, rfl, rfl, hk, q⟩ := h;obtain ⟨t, rfl⟩ := rx;obtain ⟨t', rfl⟩ := ry;have l1 : (sl [c]).length = 1 := rfl
  have e : Txt.mul (sl [c]) (k : Int) = sl (List.replicate k c) := by
    unfold Txt.mul;by_cases h0 : (k : Int) < 1
    · rw [if_pos h0, show k = 0 by lia];rfl
    rw [if_neg h0];by_cases h1 : k = 1
    · rw [h1];rfl
    rw [if_neg (by rw [l1]; simp; lia), oJ];rw [qV (⟨_⟩ : Str)];congr 1
    have : ∀ (n : Nat) (a : Array Nat), ((List.replicate n (sl [c]).cps).foldl (· ++ ·) a).toList = a.toList ++ List.replicate n c := λn => by
      induction n with
      | zero => intro a; simp
      | succ n ih =>
        intro a;rw [List.replicate_succ, List.foldl_cons, ih, List.replicate_succ];show (a ++ #[c]).toList ++ _ = _
        simp
    exact (this k #[]).trans (kF _)
  refine SB.mul ⟨?_, λh0 h1 => ?_, λh0 h1 => ?_⟩ λt'' tk => ⟨.str _, H, I.tok _, ⟨_, rfl⟩, by rw [e]; exact q⟩
  · rw [decide_eq_false (by lia), decide_eq_false (by lia)];rfl
  · rw [l1];have : (1 : Int) ≤ (2 ^ 63 - 1) / (k : Int) := (Int.le_ediv_iff_mul_le (by lia)).mpr (by lia)
    lia
  · rw [l1, oJ, tX];exact decide_eq_false (by rw [sizeLine_eq]; lia)
theorem yY {l:List Nat} (h:AllDigits l):digitsVal l < 10^l.length:=by
 have gen:∀(l:List Nat) (a:Nat),AllDigits l->l.foldl (λacc c=>acc*10+(c - 48)) a < (a+1)*10^l.length:=λl=>by
  induction l with
  | nil=>intro a _;simp
  | cons c l ih =>
   intro a h;have hc:=h.head;rw[List.foldl_cons,ah];refine av (ih _ h.tail) ?_;rw[lZ,ye (10^l.length),<- oN];exact bY _ (by lia)
 have:=gen l 0 h;rwa [Nat.zero_add,tX] at this
theorem x8 {a b:List Nat} (h:AllDigits a) (h':AllDigits b):AllDigits (a++b):=λc hc=>(aO.mp hc).elim (h c) (h' c)
theorem xZ {c k:Nat} (h:48<=c/\c<=57):AllDigits (List.replicate k c):=λd hd=>by rw[List.eq_of_mem_replicate hd];exact h
def nG (w:List Rat) (u k:Nat):LR9:=(List.range u).map λt=>(w.drop (t*k)).take k
theorem rT:∀{g:LR9} {k:Nat},(∀xs∈g,xs.length=k)->nG g.flatten g.length k=g
 | [],_,_=>rfl
 | x :: g,k,h=>by
  have ih:=rT (g:=g) (k:=k) λxs hx=>h xs (ao _ hx)
  have lx:=h x (by simp);unfold nG at ih ⊢;rw[ah,List.range_succ_eq_map,cJ,d7,jv];congr 1
  ·rw[Nat.zero_mul,CU,List.take_append_of_le_length (by lia),ba (by lia)]
  ·refine Eq.trans (ij λt _=>?_) ih;show ((x++g.flatten).drop ((t+1)*k)).take k=_
   rw[List.drop_append,List.drop_eq_nil_of_le (by rw[lx,d6];lia),kF,show (t+1)*k - x.length=t*k by rw[lx,d6];lia]
theorem oZ {α β:Type} {F:α->β->Prop}:∀{l1:List α} {l2:List β} (_:Paired F l1 l2) (k:Nat),Paired F (l1.drop k) (l2.drop k)
 | _,_,.nil,k=>by rw[List.drop_nil,List.drop_nil];exact .nil
 | _,_,.cons h r,0=>.cons h r
 | _,_,.cons _ r,k+1=>oZ r k
theorem uA {xs:List V} {t n:Nat} (h:t+n<=xs.length):mi xs (some (t:Int)) (some ((t:Int)+(n:Int)))=(xs.drop t).take n:=by
 unfold mi;rw[show ((t:Int)+(n:Int))=((t+n:Nat):Int) by lia,HT.lR,HT.lR,dR (by lia),dR (by lia),qh]
inductive xr (K:FG9) (vs:List V) (H:Hp) (Q:VK) (E9:XK):Prop
 | mk (p:Addr) (u k:Nat) (w:List Rat):vs=[.ref p,.int u,.int k]->fY K H p w->w.length=u*k->u*k<=1000->u<=1000->k<=1000->(∀r H',H r=none->aD H H'->c7 K H H' r (nG w u k)->Q (.ref r) H')->xr K vs H Q E9
def fX (ws:List (List Nat)):List V:=ws.map λw=>V.str (sl w)
theorem t7 (a b:List (List Nat)):fX (a++b)=fX a++fX b:=bw
theorem eY (a:List (List Nat)):(fX a).length=a.length:=ay ..
theorem t6 (ws:List (List Nat)):(ws.map sl).map V.str=fX ws:=by unfold fX;rw[d7];rfl
def wM:List Nat:=[109,111,118,101]
def wP:List Nat:=[112,117,116]
def wL:List Nat:=[108,111,111,107]
theorem C5:Str.ofString "move"=sl wM:=by decide +kernel
theorem C4:Str.ofString "put"=sl wP:=by decide +kernel
theorem C6:Str.ofString "look"=sl wL:=by decide +kernel
def gw (g:LR9):List (List Nat):=g.flatten.map λq=>bM (nm q)
def j5 (mv pt lk:LR9):List (List Nat):=[bJ mv.length,bJ pt.length,bJ lk.length]++(wM :: gw mv)++(wP :: gw pt)++(wL :: gw lk)
theorem An {g:LR9} {k:Nat} (h:∀xs∈g,xs.length=k):g.flatten.length=g.length*k:=by
 induction g with
 | nil=>simp
 | cons x g ih =>
  rw[jv,ai,ih λxs hx=>h xs (ao _ hx),h x (by simp),ah,d6,cM]
theorem cy {g:LR9} {k:Nat} (h:∀xs∈g,xs.length=k):(gw g).length=g.length*k:=by
 unfold gw;rw[ay,An h]
theorem wQ {g:LR9} (h:sG g) {w:List Nat} (hw:w∈gw g):32∉w/\w.length<=5400:=by
 unfold gw at hw;obtain ⟨q,hq,rfl⟩:=be.mp hw;obtain ⟨xs,hx,hq⟩:=gR.mp hq;exact ⟨tE,xy (h xs hx q hq)⟩
theorem ze {mv pt lk:LR9} (D:kE mv pt lk) (h1:sG mv) (h2:sG pt) (h3:sG lk) {w:List Nat} (hw:w∈j5 mv pt lk):32∉w/\w.length<=5400:=by
 have d8:=D.n8;have d4:=D.i4;have d5:=D.o4;have dg:∀n,n<=8->32∉bJ n/\(bJ n).length<=5400:=λn hn=>⟨lX (by decide),ar (jR 0 n (by lia)) (by decide)⟩
 unfold j5 at hw;simp only[aO,az,bg,or_false] at hw;rcases hw with ((( rfl | rfl | rfl) | rfl | hw) | rfl | hw) | rfl | hw
 ·exact dg _ d8
 ·exact dg _ (by lia)
 ·exact dg _ (by lia)
 ·decide
 ·exact wQ h1 hw
 ·decide
 ·exact wQ h2 hw
 ·decide
 ·exact wQ h3 hw
theorem qQ {mv pt lk:LR9} (D:kE mv pt lk):(j5 mv pt lk).length=(4+mv.length*mv.length)+(1+pt.length*mv.length)+(1+lk.length*mv.length):=by
 unfold j5;simp only[ai,ah,fv];rw[cy D.mw,cy D.pw,cy D.lw]
 lia
theorem gU {a b m n:Nat} (h:a<=m) (h':b<=n):a*b<=m*n:=eS h h'
theorem xk {mv pt lk:LR9} (D:kE mv pt lk):(j5 mv pt lk).length<=134:=by
 have h1:=gU D.n8 D.n8;have h2:=gU D.i4 D.n8;have h3:=gU D.o4 D.n8;rw[qQ D]
 lia
theorem Fj {q:Rat} (h:q.den<=9):q.den∣2520:=by
 have h0:=q.den_pos;have:∀d:Nat,d<=9->0 < d->d∣2520:=by decide
 exact this _ h h0
def val (n:Int×Int):Rat:=(n.1:Rat) / (n.2:Rat)
theorem val_mul {n : Int × Int} (h : 0 < n.2) : val n * (n.2 : Rat) = (n.1 : Rat) := by
  unfold val
  exact vZ (λz => by                 have : n.2 = 0 := by exact_mod_cast z
                                        lia)
def hole (H:Hp) (l:Addr):Hp:=λb=>if b=l then none else H b
theorem BK {H:Hp} {l:Addr}:hole H l l=none:=by unfold hole;rw[if_pos rfl]
theorem yE {H:Hp} {l:Addr}:aD (hole H l) H:=λb o e=>by
 unfold hole at e
 split at e
 ·cases e
 ·exact e
theorem yq {H0 H:Hp} {l:Addr} (s:aD H0 H) (n:H0 l=none):aD H0 (hole H l):=λb o e=>by
 unfold hole;rw[if_neg (λz=>by rw[z,n] at e;cases e)];exact s b o e
theorem oa {H:Hp} {l b:Addr} {o:HO} (g:H b=some o) (n:b≠l):hole H l b=some o:=by unfold hole;rw[if_neg n];exact g
inductive u0 (K:FG9) (vs:List V) (H:Hp) (Q:VK) (E9:XK):Prop
 | mk (r:Addr) (H0:Hp) (mv pt lk:LR9):vs=[.ref r]->iu K H0 H r mv pt lk->kE mv pt lk->sG mv->sG pt->sG lk->(∀H',aD H H'->Q (.str (sl (bU 32 (j5 mv pt lk)))) H')->u0 K vs H Q E9
inductive eU {α:Type}:Sem α->Prop
 | pure (a:α):eU (.pure a)
 | raise (e:Value):eU (.raise e)
 | uns (w:String):eU (.unsupported w)
 | rule {t:String} {k:Unit->Sem α} (h:∀u,eU (k u)):eU (.rule t k)
 | load {a:Addr} {p:Option Value} {k:Obj->Sem α} (h:∀o,eU (k o)):eU (.load a p k)
 | update {a:Addr} {p:Option Value} {f:Obj->Obj} {k:Unit->Sem α} (hf:∀o,(f o).dict=o.dict) (h:∀u,eU (k u)):eU (.update a p f k)
 | alloc {o:Obj} {k:Addr->Sem α} (h:∀a,eU (k a)):eU (.alloc o k)
 | alive {a:Addr} {k:Option Obj->Sem α} (h:∀o,eU (k o)):eU (.loadIfAlive a k)
 | stack {k:List (Code×Pos)->Sem α} (h:∀l,eU (k l)):eU (.stack k)
 | reg {a:Addr} {k:Unit->Sem α}:eU (.register a k)
 | ask {k:Setting->Sem α} (h:∀x,eU (k x)):eU (.ask k)
theorem eU.bind {α β:Type} {m:Sem α} {f:α->Sem β} (hm:eU m) (hf:∀a,eU (f a)):eU (m >>= f):=by
 show eU (Sem.bind m f)
 induction hm with
 | pure a=>exact hf a
 | raise e=>exact .raise e
 | uns w=>exact .uns w
 | rule _ ih=>exact .rule λu=>ih u
 | load _ ih=>exact .load λu=>ih u
 | update hg _ ih=>exact .update hg λu=>ih u
 | alloc _ ih=>exact .alloc λu=>ih u
 | alive _ ih=>exact .alive λu=>ih u
 | stack _ ih=>exact .stack λu=>ih u
 | reg=>exact .reg
 | ask _ ih=>exact .ask λu=>ih u
def dM (e:Addr) (d:Option Addr) (h:Heap):Prop:=e < h.objs.size/\∀o,h.objs[e]?=some o->o.dict=d
theorem dM.get {e:Addr} {d:Option Addr} {h:Heap} (x:dM e d h) {o:Obj} (q:h.get? e=some o):o.dict=d:=by
 unfold Heap.get? at q
 split at q
 ·cases q
 ·exact x.2 o q
theorem dM.of {e:Addr} {h:Heap} {o:Obj} (q:h.get? e=some o):dM e o.dict h:=by
 refine ⟨Heap.lt_size q,λo' q'=>?_⟩;unfold Heap.get? at q
 split at q
 ·cases q
 ·rw[q'] at q;cases q;rfl
theorem dM.update {e a:Addr} {d:Option Addr} {h:Heap} {f:Obj->Obj} (x:dM e d h) (hf:∀o,(f o).dict=o.dict):dM e d (h.update a f):=by
 obtain ⟨objs,l⟩:=h;refine ⟨by show e < (objs.modify a f).size;rw[Array.size_modify];exact x.1,λo q=>?_⟩;have q:(objs.modify a f)[e]?=some o:=q;rw[Array.getElem?_modify] at q
 split at q
 ·obtain ⟨o',q',rfl⟩:=Option.map_eq_some_iff.mp q;rw[hf];exact x.2 o' q'
 ·exact x.2 o q
theorem dM.push {e:Addr} {d:Option Addr} {h:Heap} {o:Obj} (x:dM e d h):dM e d (h.push o):=by
 obtain ⟨objs,l⟩:=h;refine ⟨by show e < (objs.push o).size;rw[Array.size_push];exact Nat.lt_succ_of_lt x.1,λo' q=>?_⟩;have q:(objs.push o)[e]?=some o':=q;rw[Array.getElem?_push,if_neg (bq x.1)] at q;exact x.2 o' q
section
variable {M:Model} {e:Addr} {d:Option Addr}
theorem AM {α:Type} {Γ:PySem.Ctx} {t:Sem α} (ht:eU t) {Q:α->Pos->Shared->Prop} {E:Value->Pos->Shared->Prop}:∀{p:Pos} {s:Shared},Sem.wp M Γ t Q E p s->dM e d s.heap →
  Sem.wp M Γ t (λa p s'=>Q a p s'/\dM e d s'.heap) (λv p s'=>E v p s'/\dM e d s'.heap) p s:=by
 induction ht with
 | pure a=>exact λh x=>⟨h,x⟩
 | raise v=>exact λh x=>⟨h,x⟩
 | uns w=>exact λh _=>h
 | reg=>exact λh _=>h
 | rule _ ih=>exact λh x=>ih () h x
 | load _ ih=>exact λ⟨o,ho,h⟩ x=>⟨o,ho,ih o h x⟩
 | update hf _ ih=>exact λ⟨ha,h⟩ x=>⟨ha,ih () h (x.update hf)⟩
 | alloc _ ih=>exact λh x=>ih _ h x.push
 | alive _ ih=>exact λh x=>ih _ h x
 | stack _ ih=>exact λh x=>ih _ h x
 | ask _ ih=>exact λh x=>ih _ h x
theorem d9 {α:Type} {A:Around} {t:Sem α} (ht:eU t) {Q:α->Shared->Prop} {E:Value->Shared->Prop} {s:Shared} (h:wpAny M A t Q E s) (x:dM e d s.heap) :
  wpAny M A t (λa s'=>Q a s'/\dM e d s'.heap) (λv s'=>E v s'/\dM e d s'.heap) s:=λΓ p hΓ=>AM ht (h Γ p hΓ) x
end
theorem Ar (a:Addr) (p:Option Value):eU (Sem.load a p Sem.pure):=.load λo=>.pure o
theorem vL (v:Value):eU (fieldsOf v):=by
 unfold fieldsOf;cases v <;> try exact .uns _
 refine eU.bind (Ar _ _) λo=>?_
 cases o.data <;> first | exact .pure _ | exact .uns _
theorem oi (v:Value) (i:Nat):eU (field v i):=by
 unfold field;refine eU.bind (vL v) λvs=>?_
 split
 ·exact .pure _
 ·exact .uns _
theorem rB (f:Array Value->Array Value) (o:Obj):(o.mapFields f).dict=o.dict:=by
 obtain ⟨c,d,dt,sl⟩:=o;cases dt <;> rfl
theorem lC (v:Value) (i:Nat) (x:Value):eU (setField v i x):=by
 unfold setField;cases v <;> try exact .uns _
 show eU (updateField _ i x)
 unfold updateField;refine eU.bind (Ar _ _) λo=>?_
 cases o.data <;> try exact .uns _
 dsimp only
 split
 ·exact .update (λo=>rB _ o) λu=>.pure u
 ·exact .uns _
theorem iF (e:Value) (f:Option Addr):eU (setFlight e f):=by
 unfold setFlight;refine eU.bind (oi e 1) λtb=>?_
 split
 ·exact lC _ _ _
 ·exact .pure _
theorem yJ (env:Env) (l:List Env):eU (behindIsImport env l):=by
 unfold behindIsImport
 split
 ·exact .pure _
 ·split
  ·exact .pure _
  ·exact eU.bind (oi _ _) λ_=>.pure _
theorem BR (env:Env) (b:Bool):∀l:List Env,eU (keptBack env b l)
 | []=>by
  simp only[keptBack]
  split
  ·exact .pure _
  ·refine eU.bind ?_ λ_=>.pure _
   unfold underTheClaimsCaller;exact eU.bind (.stack λl=>.pure l) λ_=>.pure _
 | _ :: _=>.pure _
theorem vK:∀l:List Env,eU (readyFrames l)
 | []=>.pure _
 | env :: outer=>by
  unfold readyFrames
  split
  ·refine eU.bind (Ar _ _) λo=>?_
   split
   ·exact .pure _
   ·refine eU.bind (yJ _ _) λb=>eU.bind (BR _ _ _) λv=>eU.bind (.update (λ_=>rfl) λu=>.pure u) λ_=>vK outer
  ·exact .uns _
theorem wX (env:Env):eU (PySem.frameOf env):=by
 unfold PySem.frameOf;refine eU.bind (eU.bind (.stack λl=>.pure l) λ_=>.pure _) λl=>eU.bind ?_ λo=>?_
 ·unfold frameObject
  split
  ·exact .pure _
  ·exact eU.bind (vK _) λ_=>.pure _
 ·cases o
  ·exact .uns _
  ·exact .pure _
theorem Aq (f:Addr) (b:Bool):eU (entryPlaceOf f b):=by
 unfold entryPlaceOf;refine eU.bind (.stack λl=>.pure l) λl=>?_
 split <;> exact .pure _
theorem As (a b c d e:Value) (l:List Value):eU (EntryCells.newEntry a b c d e l):=by
 unfold EntryCells.newEntry newFields;generalize ([a,b,c,d,e]++if l.isEmpty then List.replicate 6 Value.none else l).toArray=vs;have fin:eU (newObjAsIs (.type "traceback") (.fields vs)):=eU.bind (.alloc λa=>.pure a) λ_=>.pure _
 unfold newObj
 dsimp only
 split
 ·exact eU.bind (.uns _) λ_=>fin
 ·exact fin
theorem uJ (e:Value) (env:Env):eU (noteFrame e env):=by
 unfold noteFrame
 split
 ·refine eU.bind (oi e 1) λh=>?_
  have last:∀f:Addr,eU (do setField e 1 (<- EntryCells.newEntry h (<- PySem.frameOf env) .none (rawInt f) .none (<- entryPlaceOf f (h != .none)))):=λf =>
   eU.bind (wX env) λ_=>eU.bind (Aq _ _) λ_=>eU.bind (As _ _ _ _ _ _) λ_=>lC _ _ _
  split
  ·refine eU.bind (oi _ _) λv=>?_
   split
   ·exact .pure _
   ·exact eU.bind (lC _ _ _) λ_=>last _
  ·exact last _
 ·exact .uns _
theorem nF (env:Env) (e:Value):eU (leaving env e):=eU.bind (uJ e env) λ_=>iF e none
theorem dB.there {P:Program} {w:World} {H:Hp} {h:Heap} {a:Addr} {o:HO} (x:dB P w H h a o):∃u,h.get? a=some u:=by
 cases o with
 | lst xs=>obtain ⟨_,_,_,_,e⟩:=x;exact ⟨_,e⟩
 | tup xs=>obtain ⟨_,_,_,o,e,_⟩:=x;exact ⟨_,e⟩
 | dK kvs=>obtain ⟨_,_,_,_,o,_,_,e,_⟩:=x;exact ⟨_,e⟩
 | dT kvs=>obtain ⟨_,_,_,_,o,_,_,e,_⟩:=x;exact ⟨_,e⟩
 | set S n=>obtain ⟨o,_,_,_,e,_⟩:=x;exact ⟨_,e⟩
 | ins C dx fs=>obtain ⟨_,_,_,e,_⟩:=x;exact ⟨_,e⟩
 | own y=>exact x
 | xd fs=>obtain ⟨_,⟨_,_,_,e,_⟩,_⟩:=x;exact ⟨_,e⟩
 | rng lo hi=>obtain ⟨_,_,_,e⟩:=x;exact ⟨_,e⟩
 | frz ob u=>obtain ⟨e,_⟩:=x;exact ⟨_,e⟩
 | tbl ps=>exact ⟨_,(show h.get? a=some _ from x)⟩
 | met f y=>exact ⟨_,(show h.get? a=some _ from x)⟩
 | ext φ=>exact x.2.1
section
variable {P:Program} {w:World} {fs:List Addr} {H H1 H2:Hp} {h0 h1 h2 B:Heap}
theorem wW (U:Un fs [] H H1 h0 h1) (ok:oH P w H1 h1) (hB1:B.StaysIn h1) (hB2:B.StaysIn h2) (up:h1.UpToSlots h2)
  (c1:∀b u,H1 b=some u->∃o,B.get? b=some o) (c2:∀b o,h0.get? b=some o->b∉fs->∃o',B.get? b=some o')
  (hf:∀b∈fs,H b=none) (hd:∀b∈fs,∀o,h0.get? b=some o->∀vs,o.data≠.fields vs):Un fs [] H H1 h0 h2/\oH P w H1 h2:=by
 have same:∀b o,h1.get? b=some o->(∃o',B.get? b=some o')->h2.get? b=some o:=λb o e ⟨o',eb⟩=>by
  have z:=hB1 _ _ eb;rw[e] at z;cases z;exact hB2 _ _ eb
 have slot:∀b o,h0.get? b=some o->b∈fs->∃sl,h2.get? b=some { o with slots:=sl }:=λb o e hb=>by
  obtain ⟨sl,e1⟩:=U.slot b o e (hf b hb) hb (by simp);obtain ⟨sl2,e2⟩:=up b _ e1 (hd b hb o e);exact ⟨sl2,e2⟩
 refine ⟨⟨λb o e n hb hx=>same b o (U.keep b o e n hb hx) (c2 b o e hb),λb o e n hb _=>slot b o e hb,U.free,λb o e hx=>?_,U.tups,U.frzs,U.tbls⟩,λa o e=>?_⟩
 ·by_cases hb:b∈fs
  ·obtain ⟨sl,q⟩:=slot b o e hb;exact ⟨_,q⟩
  ·obtain ⟨o',q⟩:=c2 b o e hb;exact ⟨o',hB2 _ _ q⟩
 ·refine (ok a o e).stay (λb u hb q=>same b u q ?_) (λ_ q=>q) λ_ _ q=>q
  rcases hb with z | z
  ·rw[z];exact c1 a o e
  ·exact c1 b _ z
theorem Un.inner {L:Addr} (a:Un fs [] H H1 h0 h1) (b:Un (L :: fs) [] H1 H2 h1 h2) (hL:h0.get? L=none):Un fs [] H H2 h0 h2 where
 keep:=λc o q n hc hx=>b.keep c o (a.keep c o q n hc hx) (a.free c o q n hx) (λz=>(az.mp z).elim (λe=>by rw[e,hL] at q;cases q) hc) hx
 slot:=λc o q n hc hx=>by
  obtain ⟨sl,e1⟩:=a.slot c o q n hc hx;obtain ⟨sl',e2⟩:=b.slot c _ e1 (a.free c o q n hx) (ao _ hc) hx;exact ⟨sl',e2⟩
 free:=λc o q n hx=>by
  obtain ⟨o',e1⟩:=a.there c o q hx;exact b.free c o' e1 (a.free c o q n hx) hx
 there:=λc o q hx=>by
  obtain ⟨o',e1⟩:=a.there c o q hx;exact b.there c o' e1 hx
 tups:=λc xs q=>b.tups c xs (a.tups c xs q)
 frzs:=λc o xs q=>b.frzs c o xs (a.frzs c o xs q)
 tbls:=λc ps q=>by
  obtain ⟨m1,e1⟩:=a.tbls c ps q;obtain ⟨m2,e2⟩:=b.tbls c _ e1;exact ⟨m1++m2,by rw[e2,Array.append_assoc]⟩
end
structure B8 (P:Program) (w:World) (outer:List Env) (H:Hp) (s:Shared) (H':Hp) (ea t:Addr) (cls:Value) (B:Heap) (s':Shared):Prop where
 os:s'.os=s.os
 bare:AllBare s'.gens
 un:Un (jd outer) [] H H' s.heap s'.heap
 hok:oH P w H' s'.heap
 fly:Heap.FlyingW B outer ea cls (.ref t) s'.heap
 c1:∀b u,H' b=some u->∃o,B.get? b=some o
 c2:∀b o,s.heap.get? b=some o->b∉jd outer->∃o',B.get? b=some o'
structure Fly (P:Program) (w:World) (outer:List Env) (H:Hp) (s:Shared) (H':Hp) (ea t:Addr) (cls:Value) (dx:Option Addr) (B:Heap) (s':Shared):Prop extends B8 P w outer H s H' ea t cls B s' where
 dct:dM ea dx s'.heap
def uS (P:Program) (w:World):vY:=λouter H s E e s'=>∃ea t cls dx H' B,e=.ref ea/\Fly P w outer H s H' ea t cls dx B s'/\E cls dx H'
section
variable {P:Program} {w:World} {K:FG9} {mg:Str->Option Value} {base:Heap} {N:List Str} {qual:Str} {scope:Scope} {f:Addr} {cd:Value} {A:Around} {outer:List Env} {s:Shared} {H:Hp} {E:XK}
theorem oh {env:Env} {L:Addr} (hf:env.frame=some L):jd (env :: outer)=L :: jd outer:=by unfold jd;rw[lQ,hf]
theorem yV {pins:List (Addr×Obj)} {σ:St} {H1:Hp} {s1:Shared} {h':Heap} {e:Addr} {cls:Value} {vs:List Value} (I:Inv (lF (uS P w) P w K mg base N qual scope f cd A outer s H E) pins σ H1 s1)
  (hx:Heap.MadeExcOf s1.heap h' e cls vs) (hE:E cls none H1):(lF (uS P w) P w K mg base N qual scope f cd A outer s H E).xe (.ref e) { s1 with heap:=h' }:=by
 have hfr:(A.deeper (envOfC qual scope s.heap.objs.size f cd)).frames=some (envOfC qual scope s.heap.objs.size f cd :: outer):=I.ok.frames;have hstk:s1.heap.FunFrames base (envOfC qual scope s.heap.objs.size f cd :: outer):=I.stack;have nL:∀b o,s.heap.get? b=some o->b≠s.heap.objs.size:=λb o q=>bq (Heap.lt_size q)
 have hD:dM e none h':=by
  obtain ⟨t,q,_⟩:=hx.there;exact dM.of q
 refine wpAny_mono (d9 (e:=e) (d:=none) (nF _ _) (wpAny_leaves_madeW (E:=λ_ _=>False) (Q:=λ_ s2=>∃t,B8 P w outer H s H1 e t cls (PySem.W.hideAll s1.heap (jd (envOfC qual scope s.heap.objs.size f cd :: outer))) s2)
  (base:=PySem.W.hideAll s1.heap (jd (envOfC qual scope s.heap.objs.size f cd :: outer))) (h:=s1.heap) (L:=s.heap.objs.size) hfr rfl (λb o q=>mO _ q)
  (PySem.W.funFrames_hide hstk λenv he b hb=>v5.mpr ⟨env,he,hb⟩) hx λh2 t x1 x2 x3 x4=>?_) hD) (λ_ s2 ⟨⟨t,F⟩,dc⟩=>⟨e,t,cls,none,H1,_,rfl,⟨F,dc⟩,hE⟩) (λ_ _ z=>z.1.elim)
 have c1:∀b u,H1 b=some u->∃o,(PySem.W.hideAll s1.heap (jd (envOfC qual scope s.heap.objs.size f cd :: outer))).get? b=some o:=λb u q=>by
  obtain ⟨o,e⟩:=(I.hok b u q).there
  exact ⟨o,ig _ e λz=>by
   have:=I.stkFree b z;rw[q] at this;cases this⟩
 have c2:∀b o,s.heap.get? b=some o->b∉jd outer->∃o',(PySem.W.hideAll s1.heap (jd (envOfC qual scope s.heap.objs.size f cd :: outer))).get? b=some o':=λb o q hb=>by
  obtain ⟨o',e⟩:=I.base.there b o q (bg);refine ⟨o',ig _ e λz=>?_⟩;rw[oh (L:=s.heap.objs.size) rfl] at z;rcases az.mp z with z | z
  ·exact nL b o q z
  ·exact hb z
 have hU:Un (jd outer) [] H H1 s.heap s1.heap:=I.base
 obtain ⟨U2,ok2⟩:=wW hU I.hok (λb o q=>mO _ q) x1.1 ((Heap.UpToSlots.of_keeps hx.keeps).trans x4) c1 c2 I.ok.frf (λb hb o q=>by
  obtain ⟨_,o',e',d⟩:=I.ok.funs.mem hb;have e':s.heap.get? b=some o':=e';rw[q] at e';cases e';exact d)
 exact ⟨t,I.os,I.bare,U2,ok2,x1,c1,c2⟩
theorem eB:nJ (uS P w) (lF (uS P w) P w K mg base N qual scope f cd A outer s H E) E:=by
 rintro pins σ H1 s1 e s' I ⟨ea,t,cls,dx,H',B,rfl,F,hE⟩;have hfr:(A.deeper (envOfC qual scope s.heap.objs.size f cd)).frames=some (envOfC qual scope s.heap.objs.size f cd :: outer):=I.ok.frames;have nL:∀b o,s.heap.get? b=some o->b≠s.heap.objs.size:=λb o q=>bq (Heap.lt_size q)
 have hf:jd (envOfC qual scope s.heap.objs.size f cd :: outer)=s.heap.objs.size :: jd outer:=oh rfl;have un:Un (s.heap.objs.size :: jd outer) [] H1 H' s1.heap s'.heap:=hf ▸ F.un;have hU:Un (jd outer) [] H H1 s.heap s1.heap:=I.base;have U1:Un (jd outer) [] H H' s.heap s'.heap:=hU.inner un (Heap.get?_none_of_le (ax _));refine wpAny_mono (d9 (e:=ea) (d:=dx) (nF _ _) (wpAny_leaves_onW (E:=λ_ _=>False) (Q:=λ_ s2=>B8 P w outer H s H' ea t cls B s2) hfr rfl F.fly λh2 x1 x2=>?_) F.dct) (λ_ s2 ⟨F0,dc⟩=>⟨ea,t,cls,dx,H',B,rfl,⟨F0,dc⟩,hE⟩) (λ_ _ z=>z.1.elim)
 have c2:∀b o,s.heap.get? b=some o->b∉jd outer->∃o',B.get? b=some o':=λb o q hb=>by
  obtain ⟨o',e⟩:=I.base.there b o q (bg);refine F.c2 b o' e λz=>?_
  have z:b∈jd (envOfC qual scope s.heap.objs.size f cd :: outer):=z;rw[hf] at z;rcases az.mp z with z | z
  ·exact nL b o q z
  ·exact hb z
 obtain ⟨U2,ok2⟩:=wW U1 F.hok F.fly.1 x1.1 x2 F.c1 c2 I.ok.frf (λb hb o q=>by
  obtain ⟨_,o',e',d⟩:=I.ok.funs.mem hb;have e':s.heap.get? b=some o':=e';rw[q] at e';cases e';exact d)
 exact ⟨F.os.trans I.os,F.bare,U2,ok2,x1,F.c1,c2⟩
end
def Throws (X:Cx) (E:XK):Prop:=∀(pins:List (Addr×Obj)) (σ:St) (H:Hp) (s:Shared) (h':Heap) (e:Addr) (cls:Value) (vs:List Value),Inv X pins σ H s->Heap.MadeExcOf s.heap h' e cls vs->E cls none H->X.xe (.ref e) { s with heap:=h' }
theorem dD {P:Program} {w:World} {K:FG9} {mg:Str->Option Value} {base:Heap} {N:List Str} {qual:Str} {scope:Scope} {f:Addr} {cd:Value} {A:Around} {outer:List Env} {s:Shared} {H:Hp} {E:XK} :
  Throws (lF (uS P w) P w K mg base N qual scope f cd A outer s H E) E:=λ_ _ _ _ _ _ _ _ I hx hE=>yV I hx hE
def C1 (C:Addr) (E:XK):TS:=λ_ _ H=>E (.ref C) none H
abbrev yZ:List Value:=[.type "ValueError",.type "Exception",.type "BaseException",.type "object"]
theorem BQ {K:FG9} {C:Addr} {h:Heap} (X':K.In h) (hk:PySem.W.excIn K C yZ "ValueError.__new__"=true) :
  ∃bm N nm q bs hdct sn sub ab col dd k0 k1 k2 k3 k5 mN,h.get? C=some (excClassObj nm q C N bs bm hdct sn sub ab col dd k0 k1 k2 k3 k5 "ValueError.__new__")/\h.Ns N mN/\mN "__init__"=none/\OwnTail h yZ bm:=by
 unfold PySem.W.excIn at hk
 split at hk
 ·rename_i dd cd sl ho
  split at hk
  ·rename_i C' bm k0 k1 k2 k3 n k5 hm hs
   simp only[cY,beq_iff_eq,Bool.not_eq_true'] at hk;obtain ⟨⟨⟨⟨⟨rfl,rfl⟩,hdel⟩,ht⟩,hok⟩,hni⟩:=hk;obtain ⟨nm,bs,mro,ns,qn,hd',sn,sub,ab,col,del⟩:=cd
   dsimp only at hm hdel hok hni
   subst hm hdel
   have hsl:sl=#[k0,k1,k2,k3,some (.builtin "ValueError.__new__"),k5]:=by
    obtain ⟨l⟩:=sl;simp only at hs;rw[hs]
   subst hsl;exact ⟨bm,ns,nm,qn,bs,hd',sn,sub,ab,col,dd,k0,k1,k2,k3,k5,_,X' _ _ ho,.of_isNs (PySem.W.isNs_of_in X' hok),PySem.W.nsMap_none_of_in X' hok hni,PySem.W.tail_of_in X' ht⟩
  ·cases hk
 ·cases hk
theorem eK {X:Cx} {E:XK} {x:Str} {C:Addr} {np cpos pos:Pos} (hx:Throws X E) (hc:X.calm=true) (hg:Gl X x) (hm:X.mg x=some (.ref C)) (hk:PySem.W.excIn X.K C yZ "ValueError.__new__"=true)
  (hd:(x == ("__debug__":Str))=false:=by decide):PS X (.Raise (some (.Call (.Name x np) [] [] cpos)) none pos) (C1 C E):=by
 intro pins s σ H D I h;have O:=BQ I.kIn hk;obtain ⟨tl,N,nm,q,bs,hdct,sn,sub,ab,col,dd,k0,k1,k2,k3,k5,mN,hC,hN,hni,T⟩:=O
 refine wpAny_Raise_call_subT (C:=C) (nm:=nm) (q:=q) (N:=N) (bs:=bs) (bm:=tl) (hdct:=hdct) (sn:=sn) (sub:=sub) (ab:=ab) (col:=col) (dd:=dd) (k0:=k0) (k1:=k1) (k2:=k2) (k3:=k3) (k5:=k5)
  CS (mN:=mN) (T.hasType CS.hasBase) (I.ok.hd hc) rfl hni (n6 I hg hm ⟨rfl,?_⟩ hd)
 exact evalArgs_empty ⟨rfl,bf _,hC,hN,T,λh' e hm=>hx pins σ H s h' e _ _ I hm h⟩
abbrev Cx.tr (X:Cx) (pn:List (Addr×Obj)) (xe:Value->Shared->Prop):Cx:={ X with pn:=pn,xe:=xe }
abbrev Cx.sm (X:Cx) (ea:Addr):Cx:={ X with A:=X.A.mark (some (.ref ea)),calm:=false,xe:=λ_ _=>False }
section
variable {X:Cx} {pins:List (Addr×Obj)} {σ:St} {H H':Hp} {s:Shared}
theorem Inv.tr (I:Inv X pins σ H s) (xe:Value->Shared->Prop):Inv (X.tr (X.pn++pins) xe) [] σ H s :=
 ⟨⟨I.ok.mod,I.ok.kind,I.ok.glob,I.ok.blt,I.ok.above,I.ok.inj,I.ok.has,I.ok.cab,I.ok.hd,I.ok.frames,I.ok.stk,I.ok.exf,I.ok.bs,I.ok.bsz,I.ok.noex,I.ok.exfs,I.ok.funs,I.ok.frf⟩,
  I.os,I.bare,I.base,I.loc,I.cell,I.free,I.freeC,λp hp=>I.pin p (by simpa using hp),I.hok,I.len⟩
theorem Inv.untr {ps:List (Addr×Obj)} {xe:Value->Shared->Prop} (I:Inv (X.tr (X.pn++pins) xe) ps σ H s):Inv X pins σ H s :=
 ⟨⟨I.ok.mod,I.ok.kind,I.ok.glob,I.ok.blt,I.ok.above,I.ok.inj,I.ok.has,I.ok.cab,I.ok.hd,I.ok.frames,I.ok.stk,I.ok.exf,I.ok.bs,I.ok.bsz,I.ok.noex,I.ok.exfs,I.ok.funs,I.ok.frf⟩,
  I.os,I.bare,I.base,I.loc,I.cell,I.free,I.freeC,λp hp=>I.pin p (kD _ hp),I.hok,I.len⟩
theorem Inv.sm (I:Inv X pins σ H s) (ea:Addr):Inv (X.sm ea) pins σ H s :=
 ⟨⟨I.ok.mod,I.ok.kind,I.ok.glob,I.ok.blt,I.ok.above,I.ok.inj,I.ok.has,I.ok.cab,λz=>Bool.noConfusion z,I.ok.frames,I.ok.stk,I.ok.exf,I.ok.bs,I.ok.bsz,I.ok.noex,I.ok.exfs,I.ok.funs,I.ok.frf⟩,
  I.os,I.bare,I.base,I.loc,I.cell,I.free,I.freeC,I.pin,I.hok,I.len⟩
theorem Inv.forget {ea:Addr} {h':Heap} {m':Str->Option Value} {t':Nat} (ok:X.Ok) (I:Inv (X.sm ea) pins σ H s) (hn:h'.Ns X.env.locals m') (hs:Heap.SameBut X.env.locals s.heap h') :
  Inv X pins (List.replicate X.N.length none) H { s with heap:=h',toks:=t' }:=by
 have neL:∀b o,X.s₀.heap.get? b=some o->b≠X.env.locals:=λb o e=>bq (av (Heap.lt_size e) ok.above)
 refine ⟨ok,I.os,I.bare,⟨λb o e n hb hx=>(hs.2 b (neL b o e)).trans (I.base.keep b o e n hb hx),λb o e n hb hx=>?_,I.base.free,λb o e hx=>?_,I.base.tups,I.base.frzs,I.base.tbls⟩,⟨m',hn,λi x v e1 e2 e3=>?_⟩,λx c e=>?_,I.free,I.freeC,λp hp=>?_,λb u e=>?_,dG⟩
 ·obtain ⟨sl,e1⟩:=I.base.slot b o e n hb hx;exact ⟨sl,(hs.2 b (neL b o e)).trans e1⟩
 ·obtain ⟨o',e1⟩:=I.base.there b o e hx;exact ⟨o',(hs.2 b (neL b o e)).trans e1⟩
 ·rw[qj] at e2
  split at e2 <;> cases e2
 ·obtain ⟨v,z⟩:=I.cell x c e;exact ⟨v,z.sameBut hs (I.cne x c e)⟩
 ·obtain ⟨e,n,ne,nf,d⟩:=I.pin p hp;exact ⟨(hs.2 p.1 ne).trans e,n,ne,nf,d⟩
 ·have fr:H X.env.locals=none:=I.free;refine (I.hok b u e).stay (λc v hc q=>(hs.2 c ?_).trans q) (λ_ q=>q) λ_ _ q=>q
  rintro rfl;rcases hc with z | z
  ·rw[<- z,fr] at e;cases e
  ·rw[fr] at z;cases z
theorem Inv.trackO {a:Addr} {o:HO} (I:Inv X pins σ H s) (hn:H a=none) (new:dB X.prog X.w (upd H a o) s.heap a o) (n0:X.s₀.heap.get? a=none) (nL:a≠X.env.locals) (nC:∀x c,X.env.cells.lookup x=some c->c≠a)
  (nP:∀p∈X.pn++pins,p.1≠a):Inv X pins σ (upd H a o) s:=by
 have ne:∀b u,H b=some u->b≠a:=λb u q=>cZ q hn
 refine ⟨I.ok,I.os,I.bare,⟨I.base.keep,I.base.slot,λb ob e n hx=>?_,I.base.there,λb xs q=>?_,λb ob u q=>?_,λb ps q=>?_⟩,I.loc,I.cell,?_,λx c e=>?_,λp hp=>?_,λb u e=>?_,I.len⟩
 ·rw[aU (λz=>by rw[z,n0] at e;cases e)];exact I.base.free b ob e n hx
 ·have q':=I.base.tups b xs q;rw[aU (ne _ _ q')];exact q'
 ·have q':=I.base.frzs b ob u q;rw[aU (ne _ _ q')];exact q'
 ·obtain ⟨m,q'⟩:=I.base.tbls b ps q;exact ⟨m,by rw[aU (ne _ _ q')];exact q'⟩
 ·rw[aU (Ne.symm nL)];exact I.free
 ·rw[aU (nC x c e)];exact I.freeC x c e
 ·obtain ⟨e,n,r⟩:=I.pin p hp;exact ⟨e,by rw[aU (nP p hp)];exact n,r⟩
 ·by_cases hb:b=a
  ·subst hb;rw[aA] at e;cases e;exact new
  ·rw[aU hb] at e;exact (I.hok b u e).stay (λc v _ q=>q) (λc q=>by rw[aU (ne _ _ q)];exact q) λc xs q=>by rw[aU (ne _ _ q)];exact q
end
def tM (a:Addr) (cls:Value) (dx:Option Addr):HO:=.ext λh=>∃o vs,h.get? a=some o/\o.cls=cls/\o.data=.fields vs/\o.dict=dx
def uO (CX:vY) (X:Cx) (E:St->XK):Prop:=∀(pins:List (Addr×Obj)) (σ:St) (H:Hp) (s:Shared) (e:Value) (s':Shared),Inv X pins σ H s->CX X.stack H s (E σ) e s'->X.xe e s'
section
variable {X:Cx} {CX:vY} {k:Nat} {f C:Addr} {fd:FuncData} {ps:List Str} {sp:Sp} {dvs:List V} {ds:List Value} {E:St->XK} {x n:Str} {p pos hpos np:Pos} {e:Expr} {es:List Expr} {t:TA}
structure sQ (X:Cx) (pins:List (Addr×Obj)) (σ:St) (H0:Hp) (s0:Shared) (H':Hp) (ea t:Addr) (cls:Value) (dx:Option Addr) (B:Heap) (s1:Shared):Prop where
 I:Inv X pins σ H0 s0
 F:Fly X.prog X.w X.stack H0 s0 H' ea t cls dx B s1
section
variable {pins:List (Addr×Obj)} {σ:St} {H0 H':Hp} {s0 s1:Shared} {ea tt:Addr} {cls:Value} {dx:Option Addr} {B h:Heap}
theorem sQ.inv (L:sQ X pins σ H0 s0 H' ea tt cls dx B s1) (fl:Heap.FlyingW B X.stack ea cls (.ref tt) h) (up:s1.heap.UpToSlots h):Inv X pins σ H' { s1 with heap:=h }:=by
 obtain ⟨U,ok⟩:=wW L.F.un L.F.hok L.F.fly.1 fl.1 up L.F.c1 L.F.c2 L.I.stkFree (λb hb o q=>by
  obtain ⟨_,o',e',d⟩:=L.I.stack.mem hb;rw[q] at e';cases e';exact d)
 have os:s1.os=s0.os:=L.F.os;have bare:AllBare s1.gens:=L.F.bare;obtain ⟨hh,g,d,t,os'⟩:=s1
 dsimp only at os bare
 subst os;exact Inv.call (s:=s0) (h':=h) (g':=g) (d':=d) (t':=t) (ch:=[]) L.I U ok bare (λb z=>absurd z (by simp))
theorem sQ.new (L:sQ X pins σ H0 s0 H' ea tt cls dx B s1):s0.heap.get? ea=none:=by
 obtain ⟨_,n,fr,oe,vs,T,oT,ts,he,hc,hd,_⟩:=L.F.fly;cases q:s0.heap.get? ea with
 | none=>rfl
 | some o =>
  by_cases hb:ea∈jd X.stack
  ·obtain ⟨_,o',e',d⟩:=fr.mem hb;rw[he] at e';cases e';exact absurd hd (d vs)
  ·obtain ⟨o',e'⟩:=L.F.c2 ea o q hb;rw[n] at e';cases e'
theorem sQ.none_ (L:sQ X pins σ H0 s0 H' ea tt cls dx B s1):H' ea=none:=by
 cases q:H' ea with
 | none=>rfl
 | some u =>
  obtain ⟨o,e⟩:=L.F.c1 ea u q;rw[L.F.fly.2.1] at e;cases e
theorem sQ.track (L:sQ X pins σ H0 s0 H' ea tt cls dx B s1) (hex:X.ex=[]) (fl:Heap.FlyingW B X.stack ea cls (.ref tt) h) (up:s1.heap.UpToSlots h) (dc:dM ea dx h):Inv X pins σ (upd H' ea (tM ea cls dx)) { s1 with heap:=h }:=by
 have nw:=L.new;have some_ne:∀b o,s0.heap.get? b=some o->b≠ea:=λb o q z=>by rw[z,nw] at q;cases q
 refine (L.inv fl up).trackO L.none_ ?_ ?_ ?_ (λx c e=>?_) (λp hp=>?_)
 ·obtain ⟨_,_,_,oe,vs,T,oT,ts,he,hc,hd,_⟩:=fl;exact ⟨⟨oe,vs,he,hc.1,hd,dc.get he⟩,⟨oe,he⟩,λh1 h2 ⟨o,vs,a,b⟩ k=>⟨o,vs,k o a,b⟩⟩
 ·cases q:X.s₀.heap.get? ea with
  | none=>rfl
  | some o =>
   obtain ⟨o',e'⟩:=L.I.base.there ea o q (by rw[hex];exact bg);rw[nw] at e';cases e'
 ·obtain ⟨m,⟨o,_,_,ho,_⟩,_⟩:=L.I.loc;exact Ne.symm (some_ne _ o ho)
 ·obtain ⟨v,o,ho,_⟩:=L.I.cell x c e;exact some_ne _ o ho
 ·exact some_ne _ _ (L.I.pin p hp).1
end
def HB (X:Cx) (hs:List ExceptHandler) (hr:Ends->St->Value->Option Addr->Hp->Prop):Prop :=
 ∀(pins:List (Addr×Obj)) (σ:St) (H0:Hp) (s0:Shared) (H':Hp) (ea tt:Addr) (cls:Value) (dx:Option Addr) (B:Heap) (s1:Shared) (h:Heap) (D:Ends),sQ X pins σ H0 s0 H' ea tt cls dx B s1->Heap.FlyingW B X.stack ea cls (.ref tt) h->s1.heap.UpToSlots h->dM ea dx h →
  hr D σ cls dx H'->wpAny (model X.prog X.w) X.A (handleBy (.ref ea) X.env hs) (SP X pins D) X.xe { s1 with heap:=h }
def C9 (D:Ends):Ends:={ nx:=λ_ _=>False,rt:=D.rt }
def Fd:Ends->St->Value->Option Addr->Hp->Prop:=λ_ _ _ _ _=>False
theorem D0:HB X [] Fd:=λ_ _ _ _ _ _ _ _ _ _ _ _ _ _ _ _ _ z=>False.elim z
def hAs (K:FG9) (C:Addr) (i:Nat) (ts:Addr->TS) (hr:Ends->St->Value->Option Addr->Hp->Prop):Ends->St->Value->Option Addr->Hp->Prop:=λD σ cls dx H =>
 (PySem.W.exmOne K cls (.ref C)=some true/\∀ea,H ea=none->ts ea (C9 D) (σ.set i (some (.ref ea))) (upd H ea (tM ea cls dx)))\/(PySem.W.exmOne K cls (.ref C)=some false/\hr D σ cls dx H)
theorem Fc {i:Nat} {b₀:Stmt} {suite:List Stmt} {rest:List ExceptHandler} {ts:Addr->TS} {hr:Ends->St->Value->Option Addr->Hp->Prop} (hex:X.ex=[]) (hg:Gl X x) (hm:X.mg x=some (.ref C)) (nd:X.N.Nodup) (hi:X.N[i]?=some n)
  (hl:X.env.scope.names.lookup n=some .local) (hs:∀ea,uR (X.sm ea) (b₀ :: suite) (ts ea)) (hrest:HB X rest hr) (hdb:(x == ("__debug__":Str))=false:=by decide) :
  HB X (.ExceptHandler (some (.Name x np)) (some n) (b₀ :: suite) hpos :: rest) (hAs X.K C i ts hr):=by
 intro pins σ H0 s0 H' ea tt cls dx B s1 h D L fl up dc hq;have J:=L.inv fl up;refine wpAny_handleBy_cons (codeAny_handlers_test (n6 (X:=X.sm ea) (J.sm ea) hg hm ?_ hdb)) (by intro q;cases q)
 have LT:PySem.W.Looks (model X.prog X.w) h (typeOf (.ref ea)) cls:=by
  obtain ⟨o,e,c⟩:=fl.there;exact c ▸ (PySem.W.Looks.ld e).andThen .now
 rcases hq with ⟨hb,hts⟩ | ⟨hb,hq⟩
 ·refine (PySem.W.exm_one (show X.K.In h from J.kIn) LT hb) _ _ _ _ (λ_ _ q=>q) ?_;refine codeAny_handlers_suite_as ?_;refine wpAny_mono (d9 (e:=ea) (d:=dx) (iF _ _) (lands_againW (E:=λ_ _=>False) (Q:=λ_ s2=>∃h6,s2={ s1 with heap:=h6 }/\Heap.FlyingW B X.stack ea cls (.ref tt) h6/\h.UpToSlots h6) fl λh6 fl6 up6=>⟨h6,rfl,fl6,up6⟩) dc) ?_ (λ_ _ z=>z.1.elim);rintro _ _ ⟨⟨h6,rfl,fl6,up6⟩,dc6⟩;have J6:=(L.track hex fl6 (up.trans up6) dc6).sm ea;refine kG (X:=X.sm ea) J6 nd hi (.inl hl) (show RelV (.ref ea) (.ref ea) from rfl) (λs' I'=>?_) (.inr hl);refine wpAny_mono (hs ea pins s' _ _ _ I' (hts ea L.none_)) (λf s2 hsp=>?_) λ_ _ z=>False.elim z
  cases f with
  | next=>obtain ⟨_,_,_,z⟩:=hsp;exact False.elim z
  | brk=>obtain ⟨_,_,_,z⟩:=hsp;exact False.elim z
  | cont=>obtain ⟨_,_,_,z⟩:=hsp;exact False.elim z
  | ret u =>
   obtain ⟨v,σ',H2,J2,rv,q⟩:=hsp;obtain ⟨m,hn,_⟩:=id J2.loc;refine wpAny_nameGoes hl hn (by rw[L.I.ok.kind];rfl) λh' m' hn' hs'=>?_
   exact ⟨v,_,H2,J2.forget L.I.ok hn' hs',rv,q⟩
 ·refine (PySem.W.exm_one (show X.K.In h from J.kIn) LT hb) _ _ _ _ (λ_ _ q=>q) ?_;exact hrest pins σ H0 s0 H' ea tt cls dx B s1 h D L fl up dc hq
def Eo (hr:Ends->St->Value->Option Addr->Hp->Prop) (tb:(St->XK)->TS):TS:=λD σ H=>tb (hr D) D σ H
theorem DG {body:List Stmt} {h₀:ExceptHandler} {hs:List ExceptHandler} {hr:Ends->St->Value->Option Addr->Hp->Prop} {tb:(St->XK)->TS} (hst:X.stack=X.env :: X.outer) (hfr:X.env.frame=some X.env.locals)
  (hb:∀pn xe E,uO (uS X.prog X.w) (X.tr pn xe) E->uR (X.tr pn xe) body (tb E)) (hh:HB X (h₀ :: hs) hr):PS X (.Try body (h₀ :: hs) [] [] pos) (Eo hr tb):=by
 intro pins s σ H D I h;refine wpAny_Try_except ?_;refine wpAny_mono (hb (X.pn++pins) (λe s1=>∃σ' H0 s0 H' ea t cls dx B,e=.ref ea/\sQ X pins σ' H0 s0 H' ea t cls dx B s1/\hr D σ' cls dx H') (hr D) ?_ [] s σ H D (I.tr _) h) (λf s1 hsp=>?_) (λe s1 hx=>?_)
 ·rintro ps σ' H1 s1 e s' J ⟨ea,t,cls,dx,H',B,rfl,F,hE⟩;exact ⟨σ',H1,s1,H',ea,t,cls,dx,B,rfl,⟨J.untr,F⟩,hE⟩
 ·cases f with
  | next=>obtain ⟨σ',H',J,q⟩:=hsp;exact wpAny_execs_nil ⟨σ',H',J.untr,q⟩
  | brk=>obtain ⟨σ',H',J,q⟩:=hsp;exact ⟨σ',H',J.untr,q⟩
  | cont=>obtain ⟨σ',H',J,q⟩:=hsp;exact ⟨σ',H',J.untr,q⟩
  | ret u=>obtain ⟨v,σ',H',J,r,q⟩:=hsp;exact ⟨v,σ',H',J.untr,r,q⟩
 ·obtain ⟨σ',H0,s0,H',ea,t,cls,dx,B,rfl,L,hq⟩:=hx;have hfrm:X.A.frames=some (X.env :: X.outer):=by rw[<- hst];exact L.I.ok.frames
  have fl:Heap.FlyingW B (X.env :: X.outer) ea cls (.ref t) s1.heap:=by rw[<- hst];exact L.F.fly
  refine wpAny_mono (d9 (e:=ea) (d:=dx) (uJ _ _) (wpAny_looks_onW (E:=λ_ _=>False) (Q:=λ_ s2=>∃h4,s2={ s1 with heap:=h4 }/\Heap.HeldW B (X.env :: X.outer) ea cls (.ref t) X.env.locals h4/\s1.heap.UpToSlots h4) hfrm hfr fl λh4 held up4=>⟨h4,rfl,held,up4⟩) L.F.dct) ?_ (λ_ _ z=>z.1.elim);rintro _ _ ⟨⟨h4,rfl,held,up4⟩,dc4⟩;refine wpAny_mono (d9 (e:=ea) (d:=dx) (iF _ _) (wpAny_landsW (E:=λ_ _=>False) (Q:=λ_ s2=>∃h5,s2={ s1 with heap:=h5 }/\Heap.FlyingW B (X.env :: X.outer) ea cls (.ref t) h5/\h4.UpToSlots h5) held λh5 fl5 up5=>⟨h5,rfl,fl5,up5⟩) dc4) ?_ (λ_ _ z=>z.1.elim);rintro _ _ ⟨⟨h5,rfl,fl5,up5⟩,dc5⟩;exact hh pins σ' H0 s0 H' ea t cls dx B s1 h5 D L (by rw[hst];exact fl5) (up4.trans up5) dc5 hq
end
section
variable {K:FG9} {x t:Value} {Hh:Heap->Prop}
theorem BF {c:Value} (ty:∀(M:Model) (h:Heap),Hh h->PySem.W.Looks M h (typeOf x) t) (e:PySem.W.kitOne K t c=some true):Answers (λs=>K.In s.heap/\Hh s.heap) x c true:=by
 rintro dep tk prog w A R ⟨h0,gs,dr,tt,os⟩ ⟨⟨kin,p⟩,hq⟩;have lt:=ty (model prog w) h0 p;unfold PySem.W.kitOne at e;unfold Builtin.«isinstance.nested»;refine wpAny_bind (qf lt ?_);rcases El (t == c) with q | q
 ·rw[q];exact wpAny_bind (wpAny_rule (wpAny_pure (hq tt)))
 ·rw[q] at e ⊢;obtain ⟨a1,a2,a3⟩:=PySem.W.kit_cls (M:=model prog w) kin e;rw[if_neg aP];refine wpAny_bind (qf a1 ?_);rw[if_pos (beq_self_eq_true _)]
  k_delta "plainIsInstance"
  refine wpAny_bind (wpAny_bind (qf a2 ?_));rw[if_neg (by simp)];refine wpAny_bind (qf (lt.andThen a3) ?_)
  first | exact wpAny_pure (wpAny_pure (hq tt)) | (rw[if_pos rfl];first | exact wpAny_pure (wpAny_pure (hq tt)) | exact wpAny_pure (hq tt) | exact wpAny_bind (wpAny_pure (wpAny_pure (hq tt))))
end
open PySem.W
section
variable {prog:Program} {w:World} {A:Around} {E:Value->Shared->Prop} {h:Heap} {g:Array GenState} {d:Drawn} {t:Nat} {os:OsState} {a C:Addr} {o:Obj} {od:Option Obj} {K:Frag}
theorem D3 {M:Model} {nv:Value} {Q:Unit->Shared->Prop} (X:K.In h) (I:InstAt h a o C od) (hm:mroIn K C (.type "BaseException")=some true) (hq:Q () ⟨h,g,d,t,os⟩) :
  wpAny M A (checkBuiltinCall "BaseException.__getattribute__" ⟨[.ref a,nv],[]⟩) Q E ⟨h,g,d,t,os⟩:=by
 have b1:builtinKind "BaseException.__getattribute__"=some .slot:=by decide +kernel
 have b2:splitId "BaseException.__getattribute__"=some ("BaseException","__getattribute__"):=by decide +kernel
 have b3:=F.args_bexc_ga (.ref a) nv;have LI:Looks M h (isInstance (.ref a) (.type "BaseException")) true:=I.type.andThen (looks_mroIn X hm);simp only[checkBuiltinCall,b1,b2];refine wpAny_bind (Looks.at LI ?_)
 (repeat (first | assumption | wp_step))
theorem BL {R:Result->Shared->Prop} {tk:Tok} (X:K.In h) (I:InstAt h a o C od) (hm:mroIn K C (.type "BaseException")=some true) (hm2:mroIn K C (.type "object")=some true) (hc:(clsIn K C).isSome=true)
  (ha:findIn K (.ref C) "__class__"=some (some (.builtin "object.__class__"))) (hn:specialIn K (.builtin "object.__class__") "__get__"=some (some (.builtin "getset_descriptor.__get__"))) (htk:takesIn K (.builtin "object.__class__")=some true)
  (hq:R (.ok (.ret (.ref C))) ⟨h,g,d,t,os⟩):codeAny (model prog w) A (.call (.builtin "BaseException.__getattribute__") ⟨[.ref a,.str "__class__" tk],[]⟩) R ⟨h,g,d,t,os⟩:=by
 have hf:findObj K C od "__class__"=some (.bind (.builtin "getset_descriptor.__get__") (.builtin "object.__class__")):=by
  obtain ⟨cd,hc⟩:=oM.mp hc;unfold findObj;rw[hc,Option.bind_some,ha,Option.bind_some];simp [hn,htk]
 have L0:=I.type (M:=model prog w);have L1:=looks_find (M:=model prog w) X I hf;refine codeAny_call_builtin (by decide +kernel) F.entry_bexc_ga (D3 X I hm ?_);unfold Builtin.«object.__getattribute__»;refine wpAny_bind (wpAny_pure ?_)
 dsimp only
 refine wpAny_bind (m:=Builtin.ObjectAttr.attrName (.str "__class__" tk)) (wpAny_pure ?_);refine wpAny_bind (Looks.at L0 ?_);refine wpAny_bind (Looks.at L1 ?_)
 dsimp only
 unfold Builtin.ObjectAttr.bindTo;refine wpAny_bind (wpAny_holding (wpAny_call (class_get (s:=⟨h,g,d,t,os⟩) (ox:=o) (od:=od) X I hm2 ?_)));exact wpAny_pure hq
theorem yI {Q:Option Value->Shared->Prop} (X:K.In h) (I:InstAt h a o C od) (hga:findIn K (.ref C) "__getattribute__"=some (some (.builtin "BaseException.__getattribute__"))) (hgt:findIn K (.ref C) "__getattr__"=some none)
  (hm:mroIn K C (.type "BaseException")=some true) (hm2:mroIn K C (.type "object")=some true) (hc:(clsIn K C).isSome=true)
  (ha:findIn K (.ref C) "__class__"=some (some (.builtin "object.__class__"))) (hn:specialIn K (.builtin "object.__class__") "__get__"=some (some (.builtin "getset_descriptor.__get__"))) (htk:takesIn K (.builtin "object.__class__")=some true)
  (hq:Q (some (.ref C)) ⟨h,g,d,t+1,os⟩):wpAny (model prog w) A (getAttr? (.ref a) "__class__") Q E ⟨h,g,d,t,os⟩:=by
 have L0:=I.type (M:=model prog w);have L1:=looks_findIn (M:=model prog w) X hga;have L2:=looks_findIn (M:=model prog w) X hgt;unfold getAttr? getAttrBy? getAttrBy;refine wpAny_bind (wpAny_mkText (wpAny_bind (wpAny_attempt (wpAny_holding (wpAny_bind (Looks.at L0 (wpAny_bind (Looks.at L1 ?_))))))))
 have ne:(onTheHeap (Value.ref C) && Value.builtin "BaseException.__getattribute__" == Value.builtin "object.__getattribute__")=false:=by
  rw[show (Value.builtin "BaseException.__getattribute__" == Value.builtin "object.__getattribute__")=false by decide +kernel,CW]
 dsimp only
 rw[ne,if_neg aP];unfold getAttrByItsOwn;refine wpAny_bind (show wpAny _ _ (typeLookup (.ref C) "__getattr__") _ _ _ from Looks.at L2 (wpAny_bind (wpAny_attempt (wpAny_holding ?_))));unfold callGetattribute boundAndCalled;rw[Bool.false_and,if_neg aP];have fb:bindSpecial (.builtin "BaseException.__getattribute__") (.ref a)=pure (.builtin "BaseException.__getattribute__",[.ref a]):=F.excAttr_ValueError.ga.bind (.ref a);rw[fb];refine wpAny_bind (wpAny_pure (wpAny_call (BL X I hm hm2 hc ha hn htk ?_)));exact wpAny_pure (wpAny_pure hq)
end
structure Eh (K:Frag) (C:Addr):Prop where
 ga:findIn K (.ref C) "__getattribute__"=some (some (.builtin "BaseException.__getattribute__"))
 gt:findIn K (.ref C) "__getattr__"=some none
 mb:mroIn K C (.type "BaseException")=some true
 mo:mroIn K C (.type "object")=some true
 hd:hasDictIn K C=true
 ca:findIn K (.ref C) "__class__"=some (some (.builtin "object.__class__"))
 sg:specialIn K (.builtin "object.__class__") "__get__"=some (some (.builtin "getset_descriptor.__get__"))
 tk:takesIn K (.builtin "object.__class__")=some true
theorem Eh.obj {K:Frag} {C:Addr} (e:Eh K C):∃c d cd sl,K.lookup C=some ⟨c,d,.cls cd,sl⟩:=by
 obtain ⟨cd,hc,_⟩:=any_some e.hd;unfold clsIn at hc
 split at hc
 ·exact ⟨_,_,_,_,by assumption⟩
 ·cases hc
theorem rD {K:Frag} {a C:Addr} (e:Eh K C):KitX K (.ref a) (.ref C) (λh=>∃o,InstAt h a o C none) where
 ty:=λ_ _ _ ⟨_,I⟩=>I.type
 it:=λ_ _ X _=>by
  obtain ⟨c,d,cd,sl,lk⟩:=e.obj;intro A' Q' E' s' k q;unfold isType loadHead;exact wpAny_bind (wpAny_loadPart (k _ _ (X _ _ lk)) (wpAny_pure q))
 ne:=λh tp dd its n sl X htp=>by
  obtain ⟨c,d,cd,sl',lk⟩:=e.obj;rcases El (Value.ref C == Value.ref tp) with q | q
  ·have z:C=tp:=Value.ref.inj (beq_iff_eq.mp q);subst z;rw[X _ _ lk] at htp;cases htp
  ·exact q
 ca:=λ{prog w A E Q s} X ⟨_,I⟩ k=>by
  obtain ⟨cd,hc,_⟩:=any_some e.hd;obtain ⟨h,g,d,t,os⟩:=s;exact yI X I e.ga e.gt e.mb e.mo (by rw[hc];rfl) e.ca e.sg e.tk k
theorem rH {X:Cx} {pins:List (Addr×Obj)} {σ:St} {H:Hp} {s:Shared} {a C:Addr} (I:Inv X pins σ H s) (e:H a=some (tM a (.ref C) none)):∃o,InstAt s.heap a o C none:=by
 obtain ⟨⟨o,vs,g,c,d,dd⟩,_⟩:=(show dB X.prog X.w H s.heap a (tM a (.ref C) none) from I.hok a _ e);obtain ⟨oc,od,dt,sl⟩:=o
 dsimp only at c d dd
 subst c d dd;exact ⟨_,g,rfl,rfl,trivial⟩
def EX (K:Frag):List V->Hp->VK->Prop:=λvs H Q=>∃(a C tp:Addr) (cs:List Addr) (b:Bool),vs=[.ref a,.ref tp]/\H a=some (tM a (.ref C) none)/\Eh K C/\H tp=some (.tup (cs.map V.ref))/\kitAny K (.ref C) (cs.map Value.ref)=some b/\Q (.bl b) H
theorem sT:∀{cs:List Addr} {us:List Value},bO (cs.map V.ref) us->us=cs.map Value.ref
 | [],_,h=>by cases h;rfl
 | c :: cs,_,h=>by
  cases h with
  | cons a r=>cases a;rw[sT r];rfl
theorem yK {X:Cx}:jY X (.builtin "isinstance") (EX X.K):=by
 intro pins s σ H vs us Q I r h;obtain ⟨a,C,tp,cs,b,rfl,ea,ex,et,ek,q⟩:=h;obtain ⟨u,v,rfl,ru,rv⟩:=vals2 r;cases ru;cases rv;obtain ⟨_,its,rits,o,ho,hoc,n,hod⟩:=(show dB X.prog X.w H s.heap tp (.tup (cs.map V.ref)) from I.hok tp _ et);obtain ⟨oc,od,dt,sl⟩:=o
 dsimp only at hoc hod
 subst hoc hod;obtain rfl:=sT rits;exact kia_tup (rD ex) I.kIn (rH I ea) ho ek (λz=>nomatch z) λtk=>⟨.bl b,H,I.tok tk,rfl,q⟩
section
variable {X:Cx} {pins:List (Addr×Obj)} {σ:St} {H:Hp} {s:Shared}
theorem Ad {A:Around} {E:Value->Shared->Prop} {Q:Value->Shared->Prop} {a:Addr} {c cls:Value} {dx:Option Addr} (I:Inv X pins σ H s) (e:H a=some (tM a cls dx)) (k:PySem.W.kitOne X.K cls c=some true) (h:∀tk,Q (.bool true) { s with toks:=tk }) :
  wpAny (model X.prog X.w) A (call (.builtin "isinstance") [.ref a,c]) Q E s:=by
 obtain ⟨p,_⟩:=(show dB X.prog X.w H s.heap a (tM a cls dx) from I.hok a _ e)
 refine call_isinstance (S:=λ_ R s=>(X.K.In s.heap/\∃o vs,s.heap.get? a=some o/\o.cls=cls/\o.data=.fields vs/\o.dict=dx)/\∀tk,R (.ok (.ret (.bool true))) { s with toks:=tk })
  (λprog w A R s hs=>isinstance_outer (BF (Hh:=λh=>∃o vs,h.get? a=some o/\o.cls=cls/\o.data=.fields vs/\o.dict=dx) (λM h ⟨o,_,e1,e2,_⟩=>?_) k 0 _ prog w A R s hs) (λz=>nomatch z)) ⟨⟨I.kIn,p⟩,h⟩
 exact e2 ▸ (PySem.W.Looks.ld e1).andThen .now
def wy (K:FG9) (c:Value):V->Hp->VK->Prop:=λx H Q=>∃a cls dx,x=.ref a/\H a=some (tM a cls dx)/\((PySem.W.kitOne K cls c=some true/\Q (.bl true) H)\/∃C b,cls=.ref C/\dx=none/\Eh K C/\PySem.W.kitOne K cls c=some b/\Q (.bl b) H)
theorem xH {ta:TE} {K:FG9} {c:Value} {cv:V} {Q:VK} (h:ta σ H λx H1=>wy K c x H1 Q):fu ta (fu (tC cv) qN) σ H (λvs H1=>∃x,vs=[x,cv]/\wy K c x H1 Q):=by
 show ta σ H λx H1=>∃x',[x,cv]=[x',cv]/\wy K c x' H1 Q
 have e:(λx H1=>∃x',[x,cv]=[x',cv]/\wy K c x' H1 Q)=λx H1=>wy K c x H1 Q:=by
  funext x H1;exact propext ⟨λ⟨x',e,q⟩=>by cases e;exact q,λq=>⟨x,rfl,q⟩⟩
 rw[e];exact h
theorem Bv {a:Expr} {ta:TE} {pos:Pos} {c:Str} {C:Addr} {p p2:Pos} (hg:Gl X "isinstance") (hm:X.mg "isinstance"=none) (hgc:Gl X c) (hmc:X.mg c=some (.ref C)) (ha:PE X a ta)
  (hd:(c == ("__debug__":Str))=false:=by decide) (he:starEach [a,.Name c p2] X.env=[(false,eval a X.env),(false,eval (.Name c p2) X.env)]:=by rfl)
  (hpl:(backTo pos (starEach [.Name c p2] X.env)).any (·.1)=false:=by rfl) (he2:starEach [.Name c p2] X.env=[(false,eval (.Name c p2) X.env)]:=by rfl):PE X (.Call (.Name "isinstance" p) [a,.Name c p2] [] pos) (Cc (wy X.K (.ref C)) ta):=by
 intro pins s σ H Q I h;refine wpAny_Call_Name_kw (jJ I hg hm PyProof.Rows.boot_isinstance ?_);have hA:PA X [a,.Name c p2] (fu ta (fu (tC (.ref C)) qN)):=aa ha (aa (bX hgc hmc rfl hd) ae he2) (by rw[he,he2]);refine PyProof.Rows.callWith_builtin1 (dz (hA pos pins s σ H _ I (xH h)) λus s1 ⟨vs,H1,I1,r1,x,e,q1⟩=>?_) (by rw[he,he2]) hpl;subst e;obtain ⟨u,w',rfl,ru,rt⟩:=vals2 r1;cases rt;obtain ⟨ea,cls,dx,rfl,ee,⟨ek,q⟩ | ⟨C',b,rfl,rfl,ex,ek,q⟩⟩:=q1
 ·cases ru;exact Ad I1 ee ek λtk=>⟨.bl true,H1,I1.tok tk,rfl,q⟩
 ·cases ru;exact bK (rD ex) I1.kIn (rH I1 ee) ek (λz=>nomatch z) λtk=>⟨.bl b,H1,I1.tok tk,rfl,q⟩
theorem Bw {a:Expr} {ta:TE} {pos:Pos} {c:Str} {T:String} {p p2:Pos} (hg:Gl X "isinstance") (hm:X.mg "isinstance"=none) (hb:bootBuiltins c=some (.type T)) (hmc:X.mg c=none) (ha:PE X a ta) (hgc:Gl X c:=by rfl) (hn:c≠"__name__":=by decide)
  (hd:(c == ("__debug__":Str))=false:=by decide) (he:starEach [a,.Name c p2] X.env=[(false,eval a X.env),(false,eval (.Name c p2) X.env)]:=by rfl)
  (hpl:(backTo pos (starEach [.Name c p2] X.env)).any (·.1)=false:=by rfl) (he2:starEach [.Name c p2] X.env=[(false,eval (.Name c p2) X.env)]:=by rfl):PE X (.Call (.Name "isinstance" p) [a,.Name c p2] [] pos) (Cc (wy X.K (.type T)) ta):=by
 intro pins s σ H Q I h;refine wpAny_Call_Name_kw (jJ I hg hm PyProof.Rows.boot_isinstance ?_);have hA:PA X [a,.Name c p2] (fu ta (fu (tC (.ty T)) qN)):=aa ha (aa (uq hgc hmc hb rfl hn hd) ae he2) (by rw[he,he2]);refine PyProof.Rows.callWith_builtin1 (dz (hA pos pins s σ H _ I (xH h)) λus s1 ⟨vs,H1,I1,r1,x,e,q1⟩=>?_) (by rw[he,he2]) hpl;subst e;obtain ⟨u,w',rfl,ru,rt⟩:=vals2 r1;cases rt;obtain ⟨ea,cls,dx,rfl,ee,⟨ek,q⟩ | ⟨C',b,rfl,rfl,ex,ek,q⟩⟩:=q1
 ·cases ru;exact Ad I1 ee ek λtk=>⟨.bl true,H1,I1.tok tk,rfl,q⟩
 ·cases ru;exact bK (rD ex) I1.kIn (rH I1 ee) ek (λz=>nomatch z) λtk=>⟨.bl b,H1,I1.tok tk,rfl,q⟩
end
theorem Dg {hr:Ends->St->Value->Option Addr->Hp->Prop} {tb:(St->XK)->TS} {D:Ends} {σ:St} {H:Hp} (h:tb (hr D) D σ H):Eo hr tb D σ H:=h
section
variable {P:Program} {w:World} {K:FG9} {mg:Str->Option Value} {base:Heap}
theorem Ay.okX {x qual:Str} {st:Stmt} {f:Addr} {fd:FuncData} {N ps:List Str} {k:Nat} {sp:Sp} (F:Ay K x qual st f fd) (S:a8 N ps (aI st)) (len:∀vs H Q E,sp vs H Q E->vs.length=ps.length)
  (hbody:∀(cdv:Value) (A:Around) (outer:List Env) (s:Shared) (H:Hp) (vs:List V) (Q:VK) (E:XK),hR k (A.deeper (envOfC qual (aI st) s.heap.objs.size f cdv))->sp vs H Q E →
   ∃t,uR (lF (uS P w) P w K mg base N qual (aI st) f cdv A outer s H E) (gO st) t/\t { nx:=λ_ H'=>Q .non H',rt:=Q } (start N vs) H):ck P w K mg base (uS P w) (k+1) f fd ps sp:=by
 obtain ⟨oc,od,kV,doc,pm,an,cdv,ct,osl,rfl,lk,hcd⟩:=F.ex;exact CF lk hcd S len λA outer s H vs Q E hr hsp=>hbody cdv A outer s H vs Q E hr hsp
end
section
variable {M:Model} {A:Around} {E:Value->Shared->Prop} {s:Shared} {B:Heap} {env:Env} {outer l:List Env} {L e:Addr} {cls a0 fl:Value} {Q:Unit->Shared->Prop}
theorem vF (hfr:A.frames=some (env :: outer)) (hf:env.frame=some L) (hk:B.StaysIn s.heap) (hn:B.get? e=none) (hl:s.heap.FunFrames B (env :: outer)) (ht:s.heap.TracedAtW B e cls a0 fl)
  (q:∀h',Heap.HeldW B (env :: outer) e cls a0 L h'->s.heap.UpToSlots h'->Q () { s with heap:=h' }):wpAny M A (noteFrame (.ref e) env) Q E s:=by
 by_cases z:(fl == rawInt L)=true
 ·have z':fl=rawInt L:=by simpa using z
  subst z';exact wpAny_noteFrame_againW hf ht (q _ ⟨hk,hn,hl,ht⟩ (Heap.UpToSlots.refl _))
 obtain ⟨oe,vs,t,ot,ts,g1,⟨rfl,v0⟩,d1,v1,n1,te,g2,d2,t3⟩:=ht;unfold noteFrame;simp only[hf];refine wpAny_bind (wpAny_field g1 d1 v1 ?_);rw[if_pos (by rfl)];refine wpAny_bind (wpAny_field g2 d2 t3 ?_);rw[if_neg z];refine wpAny_bind (wpAny_setField g2 d2 (Array.getElem?_eq_some_iff.mp t3).1 ?_);have sm:∀b,b≠t->(s.heap.update t (Obj.mapFields (·.setIfInBounds 3 .none))).get? b=s.heap.get? b:=λb hb=>Heap.get?_update_other _ _ (λy=>hb y.symm)
 have nt:∀{b o},s.heap.get? b=some o->(∀vs,o.data≠.fields vs)->b≠t:=λ{b o} eb no y=>by
  subst y;rw[g2] at eb;cases eb;exact no ts d2
 refine wpAny_entryW hfr (hl.of_keeps λb o eb no=>⟨o,by rw[sm b (nt eb no)];exact eb,rfl⟩) hf (by rw[sm e λy=>te y.symm];exact g1) (λb o eb=>by rw[sm b λy=>by rw[y,n1] at eb;cases eb];exact hk b o eb) hn d1 (Array.getElem?_eq_some_iff.mp v1).1 v0 λh' w=>?_
 obtain ⟨w1,w2,w3,w4⟩:=w;exact q h' ⟨w1,hn,w2,w3⟩ λb o eb no=>w4 b o (by show _=_;rw[sm b (nt eb no)];exact eb) no
theorem AW {fr:Option Addr} (hk:B.StaysIn s.heap) (hl:s.heap.FunFrames B l) (ht:s.heap.TracedAtW B e cls a0 fl)
  (q:∀h' fl',B.StaysIn h'->h'.FunFrames B l->h'.TracedAtW B e cls a0 fl'->s.heap.UpToSlots h'->Q () { s with heap:=h' }):wpAny M A (setFlight (.ref e) fr) Q E s:=by
 obtain ⟨oe,vs,t,ot,ts,g1,hc,d1,v1,n1,te,g2,d2,t3⟩:=ht;have sz:=(Array.getElem?_eq_some_iff.mp t3).1;unfold setFlight;refine wpAny_bind (wpAny_field g1 d1 v1 ?_);rw[if_pos (by rfl)];generalize fr.elim Value.none (λf=>rawInt f)=x;have sm:∀b,b≠t->(s.heap.update t (Obj.mapFields (·.setIfInBounds 3 x))).get? b=s.heap.get? b:=λb hb=>Heap.get?_update_other _ _ (λy=>hb y.symm)
 have nt:∀{b o},s.heap.get? b=some o->(∀vs,o.data≠.fields vs)->b≠t:=λ{b o} eb no y=>by
  subst y;rw[g2] at eb;cases eb;exact no ts d2
 refine wpAny_setField g2 d2 sz (q _ x (λb o eb=>by rw[sm b λy=>by rw[y,n1] at eb;cases eb];exact hk b o eb) (hl.of_keeps λb o eb no=>⟨o,by rw[sm b (nt eb no)];exact eb,rfl⟩) ?_ λb o eb no=>⟨o.slots,by rw[sm b (nt eb no)];exact eb⟩);exact ⟨oe,vs,t,_,_,by rw[sm e λy=>te y.symm];exact g1,hc,d1,v1,n1,te,Heap.get?_update_self _ g2 (Obj.isFreed_of_fields (Obj.data_mapFields d2 _)),Obj.data_mapFields d2 _,by simp [sz]⟩
theorem yA (hfr:A.frames=some (env :: outer)) (hf:env.frame=some L) (hk:B.StaysIn s.heap) (hn:B.get? e=none) (hl:s.heap.FunFrames B (env :: outer)) (ht:s.heap.TracedAtW B e cls a0 fl)
  (q:∀h',Heap.FlyingW B outer e cls a0 h'->s.heap.UpToSlots h'->Q () { s with heap:=h' }):wpAny M A (leaving env (.ref e)) Q E s:=by
 unfold leaving;refine wpAny_bind (vF hfr hf hk hn hl ht λh1 w up=>?_);refine wpAny_landsW w λh2 fy up2=>q h2 ?_ (up.trans up2)
 obtain ⟨k1,k2,⟨_,_,k3⟩,k4⟩:=fy;exact ⟨k1,k2,k3,k4⟩
end
def LeaveX (X:Cx) (E:XK):Prop:=∀(pins:List (Addr×Obj)) (σ:St) (H':Hp) (s':Shared) (ea t:Addr) (cls:Value) (dx:Option Addr) (B:Heap) (C:Addr) (m:Str->Option Value),Inv X pins σ H' s'->E cls dx H'->Heap.FlyingW B X.stack ea cls (.ref t) s'.heap->dM ea dx s'.heap →
 (∀b u,H' b=some u->∃o,B.get? b=some o)->(∀b o,X.s₀.heap.get? b=some o->b∉jd X.stack->∃o',B.get? b=some o')->s'.heap.Ns C m->H' C=none->C∉jd X.stack->X.s₀.heap.get? C=none->ea≠C →
 notedBy (model X.prog X.w) X.A X.env (λx s''=>∃m,s''.heap.Ns C m/\∀h',Heap.SameBut C s''.heap h'->∀cenv:Env,wpAny (model X.prog X.w) X.A (passOn "comprehension.variables-let-go" x cenv:Sem Value) (λ_ _=>False) X.xe { s'' with heap:=h' }) (.ref ea) s'
theorem tK {h h2 B B2:Heap} {C:Addr}:∀{l:List Env},h.FunFrames B l->(∀b o,B2.get? b=some o->B.get? b=some o)->Heap.SameBut C h h2->C∉jd l->h2.FunFrames B2 l
 | [],_,_,_,_=>trivial
 | env :: l,⟨k,⟨L,o,hf,n,g,d⟩,r⟩,hb,sb,hc=>by
  have hf2:jd (env :: l)=L :: jd l:=oh hf;rw[hf2,az,not_or] at hc;refine ⟨k,⟨L,o,hf,?_,(sb.2 L λz=>hc.1 z.symm).trans g,d⟩,tK r hb sb hc.2⟩;cases e:B2.get? L with
  | none=>rfl
  | some u=>rw[hb L u e] at n;cases n
theorem BP {P:Program} {w:World} {fs:List Addr} {H H1:Hp} {h0 h1 h2 B:Heap} (U:Un fs [] H H1 h0 h1) (ok:oH P w H1 h1) (hB1:B.StaysIn h1) (hB2:B.StaysIn h2) (up:∀b∈fs,∀o,h1.get? b=some o->(∀vs,o.data≠.fields vs)->∃sl,h2.get? b=some { o with slots:=sl })
  (c1:∀b u,H1 b=some u->∃o,B.get? b=some o) (c2:∀b o,h0.get? b=some o->b∉fs->∃o',B.get? b=some o')
  (hf:∀b∈fs,H b=none) (hd:∀b∈fs,∀o,h0.get? b=some o->∀vs,o.data≠.fields vs):Un fs [] H H1 h0 h2/\oH P w H1 h2:=by
 have sm:∀b o,h1.get? b=some o->(∃o',B.get? b=some o')->h2.get? b=some o:=λb o e ⟨o',eb⟩=>by
  have z:=hB1 _ _ eb;rw[e] at z;cases z;exact hB2 _ _ eb
 have sl:∀b o,h0.get? b=some o->b∈fs->∃sl,h2.get? b=some { o with slots:=sl }:=λb o e hb=>by
  obtain ⟨s1,e1⟩:=U.slot b o e (hf b hb) hb (by simp);obtain ⟨s2,e2⟩:=up b hb _ e1 (hd b hb o e);exact ⟨s2,e2⟩
 refine ⟨⟨λb o e n hb hx=>sm b o (U.keep b o e n hb hx) (c2 b o e hb),λb o e n hb _=>sl b o e hb,U.free,λb o e hx=>?_,U.tups,U.frzs,U.tbls⟩,λa o e=>?_⟩
 ·by_cases hb:b∈fs
  ·obtain ⟨s1,q⟩:=sl b o e hb;exact ⟨_,q⟩
  ·obtain ⟨o',q⟩:=c2 b o e hb;exact ⟨o',hB2 _ _ q⟩
 ·refine (ok a o e).stay (λb u hb q=>sm b u q ?_) (λ_ q=>q) λ_ _ q=>q
  rcases hb with z | z
  ·rw[z];exact c1 a o e
  ·exact c1 b _ z
theorem tH {P:Program} {w:World} {K:FG9} {mg:Str->Option Value} {base:Heap} {N:List Str} {qual:Str} {scope:Scope} {f:Addr} {cd:Value} {A:Around} {outer:List Env} {s:Shared} {H:Hp} {E:XK} :
  LeaveX (lF (uS P w) P w K mg base N qual scope f cd A outer s H E) E:=by
 intro pins σ H' s' ea t cls dx B C m I hE fy dc c1 c2 hn hC nC sC ne;have hfr:(A.deeper (envOfC qual scope s.heap.objs.size f cd)).frames=some (envOfC qual scope s.heap.objs.size f cd :: outer):=I.ok.frames;have nL:∀b o,s.heap.get? b=some o->b≠s.heap.objs.size:=λb o q=>bq (Heap.lt_size q)
 have hfs:jd (envOfC qual scope s.heap.objs.size f cd :: outer)=s.heap.objs.size :: jd outer:=oh rfl;have nC':C∉jd outer:=λz=>nC (by show C∈jd (_ :: outer);rw[hfs];exact ao _ z)
 obtain ⟨f1,f2,f3,f4⟩:=id fy;refine wpAny_mono (d9 (e:=ea) (d:=dx) (uJ _ _) (vF (E:=λ_ _=>False) (Q:=λ_ s2=>∃h1,s2={ s' with heap:=h1 }/\Heap.HeldW B (envOfC qual scope s.heap.objs.size f cd :: outer) ea cls (.ref t) s.heap.objs.size h1/\s'.heap.UpToSlots h1) hfr rfl f1 f2 f3 f4.at λh1 w up=>⟨h1,rfl,w,up⟩) dc) (λ_ s2 ⟨⟨h1,e2,w,up⟩,dc1⟩=>?_) (λ_ _ z=>z.1.elim);subst e2;obtain ⟨w1,w2,w3,w4⟩:=w;refine ⟨m,up.ns hn,λh2 sb cenv=>?_⟩;have hB:∀b o,(PySem.W.hideAll B [C]).get? b=some o->B.get? b=some o:=λb o q=>mO _ q
 have hBn:∀b,B.get? b=none->(PySem.W.hideAll B [C]).get? b=none:=λb n=>by
  cases e:(PySem.W.hideAll B [C]).get? b with
  | none=>rfl
  | some u=>rw[hB b u e] at n;cases n
 have hBC:∀b o,(PySem.W.hideAll B [C]).get? b=some o->b≠C:=λb o q z=>by rw[z,PySem.W.hideAll_none [C] (by simp)] at q;cases q
 have st2:(PySem.W.hideAll B [C]).StaysIn h2:=λb o q=>(sb.2 b (hBC b o q)).trans (w1 b o (hB b o q))
 have fr2:h2.FunFrames (PySem.W.hideAll B [C]) (envOfC qual scope s.heap.objs.size f cd :: outer):=tK w3 hB sb nC;have up2:=up.ns hn
 have tr2:h2.TracedAtW (PySem.W.hideAll B [C]) ea cls (.ref t) (rawInt s.heap.objs.size):=by
  obtain ⟨oe,vs,T,oT,ts,g1,hc,d1,v1,n1,te,g2,d2,t3⟩:=w4
  have TC:T≠C:=λz=>by
   obtain ⟨o,es,ep,ho,hd,_⟩:=up2;rw[z] at g2;have g2':h1.get? C=some oT:=g2;have ho':h1.get? C=some o:=ho;rw[g2'] at ho';cases ho';rw[d2] at hd;cases hd
  exact ⟨oe,vs,T,oT,ts,(sb.2 ea ne).trans g1,hc,d1,v1,hBn T n1,te,(sb.2 T TC).trans g2,d2,t3⟩
 have dc2:dM ea dx h2:=by
  obtain ⟨oe,_,_,_,_,g1,_⟩:=id tr2;have g0:h1.get? ea=some oe:=(sb.2 ea ne).symm.trans g1;have:=dM.get dc1 g0;rw[<- this];exact dM.of g1
 unfold PySem.passOn;obtain ⟨oe,vs,T,oT,ts,g1,hc,d1,v1,n1,te,g2,d2,t3⟩:=id tr2;refine wpAny_bind (wpAny_field g1 d1 v1 ?_);rw[if_neg (by simp)];refine wpAny_bind ?_;refine wpAny_mono (d9 (e:=ea) (d:=dx) (iF _ _) (AW (E:=λ_ _=>False) (Q:=λ_ s3=>∃h3 fl',s3={ s' with heap:=h3 }/\(PySem.W.hideAll B [C]).StaysIn h3/\h3.FunFrames (PySem.W.hideAll B [C]) (envOfC qual scope s.heap.objs.size f cd :: outer)/\h3.TracedAtW (PySem.W.hideAll B [C]) ea cls (.ref t) fl'/\h2.UpToSlots h3) st2 fr2 tr2 λh3 fl' a b c d=>⟨h3,fl',rfl,a,b,c,d⟩) dc2) (λ_ s3 ⟨⟨h3,fl',e3,k1,k2,k3,up3⟩,dc3⟩=>?_) (λ_ _ z=>z.1.elim);subst e3;refine wpAny_throw ?_;refine wpAny_mono (d9 (e:=ea) (d:=dx) (nF _ _) (yA (E:=λ_ _=>False) (Q:=λ_ s4=>B8 P w outer H s H' ea t cls (PySem.W.hideAll B [C]) s4) hfr rfl k1 (hBn ea f2) k2 k3 λh4 x1 x2=>?_) dc3) (λ_ s4 ⟨F0,dc⟩=>⟨ea,t,cls,dx,H',_,rfl,⟨F0,dc⟩,hE⟩) (λ_ _ z=>z.1.elim)
 have d1':∀b u,H' b=some u->∃o,(PySem.W.hideAll B [C]).get? b=some o:=λb u q=>by
  obtain ⟨o,eo⟩:=c1 b u q;exact ⟨o,ig _ eo (by simp only[fg];intro z;rw[z,hC] at q;cases q)⟩
 have d2':∀b o,s.heap.get? b=some o->b∉jd outer->∃o',(PySem.W.hideAll B [C]).get? b=some o':=λb o q hb=>by
  obtain ⟨o',eo⟩:=c2 b o q (by
   show b∉jd (_ :: outer)
   rw[hfs,az,not_or];exact ⟨nL b o q,hb⟩)
  exact ⟨o',ig _ eo (by simp only[fg];intro z;have sC':s.heap.get? C=none:=sC;rw[z,sC'] at q;cases q)⟩
 have hU:Un (jd outer) [] H H' s.heap s'.heap:=I.base
 obtain ⟨U2,ok2⟩:=BP hU I.hok (λb o q=>f1 b o (hB b o q)) x1.1 (λb hb o q no=>by
  have bC:b≠C:=λz=>nC' (by rw[<- z];exact hb)
  obtain ⟨s1,e1⟩:=up b o q no;obtain ⟨s2,e2⟩:=up3 b _ ((sb.2 b bC).trans e1) no;obtain ⟨s3,e3⟩:=x2 b _ e2 no;exact ⟨s3,e3⟩) d1' d2' I.ok.frf (λb hb o q=>by
  obtain ⟨_,o',e',d⟩:=I.ok.funs.mem hb;have e':s.heap.get? b=some o':=e';rw[q] at e';cases e';exact d)
 exact ⟨I.os,I.bare,U2,ok2,x1,d1',d2'⟩
theorem sN {prog:Program} {w:World} {A:Around} {R:Result->Shared->Prop} {s:Shared} {elt target iter:Expr} {ifs:List Expr} {scope:Scope} {pos:Pos} {it acc:Value} {env:Env} (I:Nat->Shared->Prop)
  (turn:∀n s,I n s->wpAny (model prog w) A (pyNext it) (λr s₁=>match r with
   | none=>R (.ok .next) s₁
   | some v=>wpAny (model prog w) A (letOwnedTupleGo target it v) (λ_ s₂=>wpAny (model prog w) A (assign target env v) (λ_ s₃ =>
     wpAny (model prog w) A (forIn ifs true λc r=>if r=true then do let ok <- isTrue c env (eval c env);pure (ForInStep.yield ok) else pure (ForInStep.yield r)) (λok s₄ =>
      if ok=true then wpAny (model prog w) A (eval elt env) (λx s₅=>wpAny (model prog w) A (call (.builtin "list.append") [acc,x]) (λ_ s₆=>∃m,m < n/\I m s₆) (notedBy (model prog w) A env λe s₉=>R (.error e) s₉) s₅) (notedBy (model prog w) A env λe s₉=>R (.error e) s₉) s₄
      else ∃m,m < n/\I m s₄) (notedBy (model prog w) A env λe s₉=>R (.error e) s₉) s₃) (notedBy (model prog w) A env λe s₉=>R (.error e) s₉) s₂) (notedBy (model prog w) A env λe s₉=>R (.error e) s₉) s₁) (notedBy (model prog w) A env λe s₉=>R (.error e) s₉) s)
  (n:Nat) (h:I n s):codeAny (model prog w) A (.compLoop (.ListComp elt [⟨target,iter,ifs,0⟩] scope pos) 0 it acc env) R s:=by
 refine codeAny_loop rfl I (λn s hI=>?_) n h;show wpAny _ A ((compTurn (.ListComp elt [⟨target,iter,ifs,0⟩] scope pos) 0 it acc env).onRaise (λx=>do noteFrame x env;theTreesLotGoes x)) _ _ s
 refine wpAny_noted ?_;rw[compTurn_list];refine wpAny_bind (wpAny_standAt (wpAny_bind (wpAny_mono (turn n s hI) (λr s₁ h₁=>?_) λ_ _ h'=>h')));cases r with
 | none=>exact wpAny_pure h₁
 | some v =>
  refine wpAny_bind (wpAny_mono h₁ (λ_ s₂ h₂=>wpAny_bind (wpAny_mono h₂ (λ_ s₃ h₃=>wpAny_bind (wpAny_mono h₃ (λok s₄ h₄=>?_) λ_ _ h'=>h')) λ_ _ h'=>h')) λ_ _ h'=>h');cases ok with
  | false=>exact wpAny_pure ⟨rfl,h₄⟩
  | true =>
   exact wpAny_bind (wpAny_bind (wpAny_mono h₄ (λx s₅ h₅=>wpAny_bind (wpAny_mono h₅ (λ_ s₆ h₆=>wpAny_pure (wpAny_pure ⟨rfl,h₆⟩)) λ_ _ h'=>h')) λ_ _ h'=>h'))
section
variable {Y:Cx} {pins:List (Addr×Obj)} {σ:St} {H:Hp} {s:Shared}
theorem Inv.xeT (I:Inv Y pins σ H s) (xe:Value->Shared->Prop):Inv { Y with xe:=xe } pins σ H s :=
 ⟨⟨I.ok.mod,I.ok.kind,I.ok.glob,I.ok.blt,I.ok.above,I.ok.inj,I.ok.has,I.ok.cab,I.ok.hd,I.ok.frames,I.ok.stk,I.ok.exf,I.ok.bs,I.ok.bsz,I.ok.noex,I.ok.exfs,I.ok.funs,I.ok.frf⟩,
  I.os,I.bare,I.base,I.loc,I.cell,I.free,I.freeC,I.pin,I.hok,I.len⟩
end
def yL (X:Cx) (own capN:List Str) (scope:Scope) (Z:Bz) (E:XK):Cx :=
 { jK X own capN scope Z with xe:=λe s'=>∃pins σ H1 s1,Inv (jK X own capN scope Z) pins σ H1 s1/\uS X.prog X.w X.stack H1 s1 E e s' }
theorem Cs {X:Cx} {own capN:List Str} {scope:Scope} {Z:Bz} {E:XK}:nJ (uS X.prog X.w) (yL X own capN scope Z E) E:=λpins σ H1 s1 e s' I h=>⟨pins,σ,H1,s1,Inv.xeT (Y:=yL X own capN scope Z E) I _,h⟩
section
variable {X:Cx} {own capN:List Str} {cap:List Nat} {scope:Scope} {elt tg iter:Expr} {ifs:List Expr} {pos:Pos} {wi:TI} {g:TG} {tf:TT} {te:TE}
theorem BU {E:XK} {use:Option (Value->Sem Unit)} {Qe:Value->Shared->Prop} {Z:Bz} {pins:List (Addr×Obj)} {σ:St} {D:Addr} {e:Value} {s9:Shared} (hL:LeaveX X E) (hex:X.ex=[]) (I2:Inv X pins σ Z.H Z.s) (hfp:∀b∈Z.fp,jN X pins Z.H b/\@LT.lt Nat instLTNat b Z.s.heap.objs.size) (hC:Z.s.heap.objs.size<=Z.C)
  (hx:(yL X own capN scope Z E).xe e s9):notedBy (model X.prog X.w) X.A (lK X.env scope Z.C) (λe s'=>compPost (model X.prog X.w) X.A X.xe use Qe (.ref D) Z.C (.error e) s') e s9:=by
 obtain ⟨pn,σ1,H1,s1,I1,ea,t,cls,dx,H',B,rfl,F,hE⟩:=hx;have J:Inv (jK X own capN scope Z) pn σ1 H' s9:=I1.call' (ch:=[]) F.os F.un F.hok F.bare λb hb=>nomatch hb
 have IX:Inv X pins σ H' s9:=I2.call' (ch:=Z.fp) J.os J.base J.hok J.bare λb hb=>by
  obtain ⟨_,f1,_,f3,f4,f5⟩:=(hfp b hb).1;exact ⟨f3,f1,f4,f5⟩
 obtain ⟨m,hn,_⟩:=J.loc;have hn:s9.heap.Ns Z.C m:=hn;have nC:Z.C∉jd X.stack:=λz=>bA _ (av (CD I2 z) hC)
 have sC:X.s₀.heap.get? Z.C=none:=Heap.get?_none_of_le (ar I2.sz hC)
 have c2:∀b o,X.s₀.heap.get? b=some o->b∉jd X.stack->∃o',B.get? b=some o':=λb o q hb=>by
  obtain ⟨o2,q2⟩:=I2.base.there b o q (by rw[hex];exact λz=>nomatch z)
  obtain ⟨o3,q3⟩:=I1.base.there b o2 q2 (λz=>by
   have z:b∈Z.fp:=z;rcases (hfp b z).1.2.2.2.1 with y | y
   ·rw[hex] at y;cases y
   ·exact bA _ (av (Heap.lt_size q) y))
  exact F.c2 b o3 q3 hb
 have ne:ea≠Z.C:=λz=>by
  obtain ⟨_,_,_,oe,vs,T,oT,ts,he,_,hd,_⟩:=F.fly;obtain ⟨o,es,ep,ho,hd2,_⟩:=hn;rw[z,ho] at he;cases he;rw[hd] at hd2;cases hd2
 have k:=hL pins σ H' s9 ea t cls dx B Z.C m IX hE F.fly F.dct F.c1 c2 hn J.free nC sC ne
 have up:∀(x:Value) (s'':Shared),(∃m,s''.heap.Ns Z.C m/\∀h',Heap.SameBut Z.C s''.heap h'->∀cenv:Env,wpAny (model X.prog X.w) X.A (PySem.passOn "comprehension.variables-let-go" x cenv:Sem Value) (λ_ _=>False) X.xe { s'' with heap:=h' })->compPost (model X.prog X.w) X.A X.xe use Qe (.ref D) Z.C (.error x) s'':=λx s'' ⟨m,a,b⟩=>by
  cases use with
  | none=>exact ⟨m,a,λh' sb cenv _=>b h' sb cenv⟩
  | some u=>exact ⟨m,a,λh' sb cenv _=>b h' sb cenv⟩
 exact wpAny_mono k (λ_ s'' z=>up _ s'' z) λx s'' z=>up x s'' z
theorem wY {E:XK} {use:Option (Value->Sem Unit)} {Qe:Value->Shared->Prop} {fpos:Pos} (hL:LeaveX X E) (hex:X.ex=[]) (hc:X.calm=true) (B:Bk X.env scope own capN) (hcap:mL X capN cap)
  (hi:PI X tg iter wi) (hg:∀Z,PG (jK X own capN scope Z) tg g) (hf:∀Z,PF (jK X own capN scope Z) ifs tf) (he:∀Z,PE (yL X own capN scope Z E) elt te)
  (hs:∀x,foldedSetIterable iter X.env x=pure x) {pins:List (Addr×Obj)} {s:Shared} {σ:St} {H:Hp} {Q:VK} (I:Inv X pins σ H s) (h:qO wi own.length cap g tf te σ H Q)
  (fin:∀(D C:Addr) (s':Shared) (H':Hp),Inv X pins σ H' s'->jN X pins H' C->(∃m,s'.heap.Ns C m)->Q (.ref D) H'->compPost (model X.prog X.w) X.A X.xe use Qe (.ref D) C (.ok .next) s') :
  wpAny (model X.prog X.w) X.A (comprehension (.ListComp elt [⟨tg,iter,ifs,0⟩] scope pos) scope X.env fpos (newList []) false (eval iter X.env) use) Qe X.xe s:=by
 refine wpAny_comprehension_free (use:=use) rfl hs (lI λy hy hk=>I.ok.has y.1 (B.caps _ (B.frees y hy hk).1)) B.kind B.locs ?_;refine dz (hi pins s σ H _ I h) λv s1 h1=>dz h1 λitv s2 h2=>?_
 obtain ⟨it,fp,tn,J,H2,e,I2,T,st2,f2,W,⟨m0,w0⟩,turn⟩:=h2;subst e;have hfp:∀b∈fp,jN X pins H2 b/\@LT.lt Nat instLTNat b s2.heap.objs.size:=λb hb=>⟨f2 b hb,let ⟨_,e,_⟩:=T.obj _ _ st2 b hb;Heap.lt_size e⟩
 refine wpAny_newObj_type (pK ?_) (bf _);have es:(s2.heap.push { cls:=.type "list",data:=.seq ([]:List Value).toArray }).objs.size=s2.heap.objs.size+1:=Heap.size_push ..
 show codeAny _ _ (.compStart _ 0 (.ref it) (.ref s2.heap.objs.size) { newEnv scope (s2.heap.push { cls:=.type "list",data:=.seq ([]:List Value).toArray }).objs.size X.env.globals (cellsFrom ((s2.heap.push { cls:=.type "list",data:=.seq ([]:List Value).toArray }).objs.size+1) scope.names (cw X.env scope.names [])) X.env.qual none .none (some X.env) builtinsNs with scope:=relabel scope X.env })
  (compPost (model X.prog X.w) X.A X.xe use Qe (.ref s2.heap.objs.size) (s2.heap.push { cls:=.type "list",data:=.seq ([]:List Value).toArray }).objs.size)
  { s2 with heap:=pushCells ((s2.heap.push { cls:=.type "list",data:=.seq ([]:List Value).toArray }).push { cls:=.type "dict",data:=.dict #[] }) scope.names }
 have hk1:∀b o,(s2.heap.push { cls:=.type "list",data:=.seq ([]:List Value).toArray }).get? b=some o->(pushCells ((s2.heap.push { cls:=.type "list",data:=.seq ([]:List Value).toArray }).push { cls:=.type "dict",data:=.dict #[] }) scope.names).get? b=some o :=
  λb o e=>pushCells_keeps _ _ _ _ (Heap.get?_push_of_some _ e)
 have hk:∀b o,s2.heap.get? b=some o->(pushCells ((s2.heap.push { cls:=.type "list",data:=.seq ([]:List Value).toArray }).push { cls:=.type "dict",data:=.dict #[] }) scope.names).get? b=some o:=λb o e=>hk1 b o (Heap.get?_push_of_some _ e)
 have hoD:=hk1 s2.heap.objs.size _ (Heap.get?_push_size s2.heap (o:={ cls:=.type "list",data:=.seq ([]:List Value).toArray }) rfl);have hn:=(Heap.Ns.new (s2.heap.push { cls:=.type "list",data:=.seq ([]:List Value).toArray }) (.type "dict")).keeps (pushCells_keeps scope.names _);have hcl:=tw ((s2.heap.push { cls:=.type "list",data:=.seq ([]:List Value).toArray }).push { cls:=.type "dict",data:=.dict #[] }) (s2.heap.objs.size+1) (by rw[Heap.size_push,es]) scope.names;rw[es] at hn ⊢;generalize pushCells ((s2.heap.push { cls:=.type "list",data:=.seq ([]:List Value).toArray }).push { cls:=.type "dict",data:=.dict #[] }) scope.names=h3 at hk hoD hn hcl ⊢;have Z:Bz:=⟨s2,H2,fp,s2.heap.objs.size+1⟩
 have I3:Inv (jK X own capN scope ⟨s2,H2,fp,s2.heap.objs.size+1⟩) [(s2.heap.objs.size,lobj [] 0)] (vX own.length cap σ) H2 { s2 with heap:=h3 } :=
  xU (Z:=⟨s2,H2,fp,s2.heap.objs.size+1⟩) (t1:=s2.toks) I2 hc B hcap (kB _) hcl hfp hk hn (ax _) (bq (gQ _)) hoD (λv z=>nomatch z)
 have st3:tn 0 h3:=T.keep _ _ _ st2 λb _ o e=>hk b o e
 have loop:codeAny (model X.prog X.w) X.A (.compLoop (.ListComp elt [⟨tg,iter,ifs,0⟩] scope pos) 0 (.ref it) (.ref s2.heap.objs.size) (lK X.env scope (s2.heap.objs.size+1))) (compPost (model X.prog X.w) X.A X.xe use Qe (.ref s2.heap.objs.size) (s2.heap.objs.size+1)) { s2 with heap:=h3 }:=by
  refine sN (λm s'=>∃i ys σ' H' its n,Inv (jK X own capN scope ⟨s2,H2,fp,s2.heap.objs.size+1⟩) [(s2.heap.objs.size,lobj its n)] σ' H' s'/\tn i s'.heap/\(∀b∈fp,H' b=none)/\bO ys its/\W i m ys H') ?_ m0
   ⟨0,[],_,H2,[],0,I3,st3,λb hb=>(f2 b hb).1,.nil,w0⟩
  rintro n s4 ⟨i,ys,σ4,H4,its,k,I4,st4,fr4,rv,w4⟩
  have fpo:∀{pp:List (Addr×Obj)} {H':Hp},(∀p∈pp,p.1=s2.heap.objs.size)->(∀b∈fp,H' b=none)->∀b∈fp,jN (jK X own capN scope ⟨s2,H2,fp,s2.heap.objs.size+1⟩) pp H' b:=λ{pp H'} hpp hn b hb=>by
   obtain ⟨e1,e2⟩:=I4.ok.exf b hb;refine ⟨hn b hb,e1,I4.ok.exfs b hb,.inl hb,e2,λp hp=>?_⟩;have hp':p∈pp:=by simpa [jK] using hp
   have l:=(hfp b hb).2;rw[hpp p hp'];exact λz=>bA _ (by rw[<- z] at l;exact l)
  have pinD:∀{its:List Value} {n:Nat},∀p∈[(s2.heap.objs.size,lobj its n)],p.1=s2.heap.objs.size:=λp hp=>by simp at hp;rw[hp]
  rcases turn i n ys H4 w4 with ⟨stop,hz,q⟩ | ⟨go,hlt,NY,NN,hNY,hNN,step⟩
  ·refine dz (T.done (jK X own capN scope ⟨s2,H2,fp,s2.heap.objs.size+1⟩) rfl rfl rfl rfl i _ s4 σ4 H4 _ I4 (fpo pinD fr4) st4 stop) λr s5 ⟨hr,I5⟩=>?_
   subst hr;have pD:=I5.pin (s2.heap.objs.size,lobj its k) (by simp);have I6:=xV (Z:=⟨s2,H2,fp,s2.heap.objs.size+1⟩) I2 hfp (ax _) I5 rv hz
   have hC:upd H4 s2.heap.objs.size (.lst ys) (s2.heap.objs.size+1)=none:=by
    rw[aU (yd (gQ _))];exact I5.free
   obtain ⟨m,hm,_⟩:=I5.loc;exact fin _ _ s5 _ I6 (I2.fpOk (kB _) hC) ⟨m,hm⟩ (q _ pD.2.1)
  ·refine dz (T.item (jK X own capN scope ⟨s2,H2,fp,s2.heap.objs.size+1⟩) rfl rfl rfl rfl i _ s4 σ4 H4 _ I4 (fpo pinD fr4) st4 go) λr s5 ⟨u,hr,h5⟩=>?_
   subst hr;refine dz h5 λ_ s6 ⟨x,H6,I6,r6,y6,st6,fr6⟩=>?_
   have I6':=(vS (Z:=⟨s2,H2,fp,s2.heap.objs.size+1⟩) I2 B hcap hfp I6).pinned (fpo pinD fr6) (T.obj _ _ st6)
   have back:∀{σ7:St} {H7:Hp} {s7:Shared},Inv (jK X own capN scope ⟨s2,H2,fp,s2.heap.objs.size+1⟩) ([(s2.heap.objs.size,lobj its k)]++oX fp s6.heap) σ7 H7 s7 →
     Inv (jK X own capN scope ⟨s2,H2,fp,s2.heap.objs.size+1⟩) [(s2.heap.objs.size,lobj its k)] σ7 H7 s7/\tn (i+1) s7.heap/\∀b∈fp,H7 b=none:=λ{σ7 H7 s7} I7=>by
    refine ⟨I7.unpinned,T.keep _ _ _ st6 λb hb o e=>(I7.pin (b,o) (aT _ (aT _ (gG hb e)))).1,λb hb=>?_⟩;obtain ⟨o,e,d⟩:=T.obj _ _ st6 b hb;exact (I7.pin (b,o) (aT _ (aT _ (gG hb e)))).2.1
   refine y7 (hg _ _ s6 _ H6 x u _ I6' r6 (step x H6 y6)) λ_ s7 ⟨σ7,H7,I7,q7⟩=>?_
   refine y7 (hf _ _ s7 σ7 H7 _ I7 q7) λok s8 ⟨H8,I8,q8⟩=>?_
   cases ok with
   | false =>
    rw[if_neg aP] at q8 ⊢;obtain ⟨m',hm,w8⟩:=hNN H8 q8;obtain ⟨J1,J2,J3⟩:=back I8;exact ⟨m',hm,i+1,ys,σ7,H8,its,k,J1,J2,J3,rv,w8⟩
   | true =>
    rw[if_pos rfl] at q8 ⊢;refine wpAny_mono (he ⟨s2,H2,fp,s2.heap.objs.size+1⟩ _ s8 σ7 H8 _ (I8.xeT _) q8) (λz s9 ⟨y,H9,I9',r9,q9⟩=>?_) λe s9 hx=>BU hL hex I2 hfp (kB _) hx
    have I9:Inv (jK X own capN scope ⟨s2,H2,fp,s2.heap.objs.size+1⟩) _ σ7 H9 s9:=Inv.xeT (Y:=yL X own capN scope ⟨s2,H2,fp,s2.heap.objs.size+1⟩ E) I9' _;obtain ⟨J1,J2,J3⟩:=back I9;obtain ⟨m',hm,w9⟩:=hNY y H9 q9;have pD:=J1.pin (s2.heap.objs.size,lobj its k) (by simp);have hl:=rv.length;refine call_meets F.slot_list_append ⟨_,pD.1,rfl⟩ F.entry_list_append (F.args_list_append_2 _ _) (yc s2.heap.objs.size its.toArray k z (by rw[aw];lia)) ⟨pD.1,?_⟩;have e9:=yR pD.1 (λa=>a.push z);have e9':(its.toArray.push z)=(its++[z]).toArray:=by simp
    rw[e9'] at e9;obtain ⟨n',e9⟩:∃n',(s9.heap.update s2.heap.objs.size (Obj.mapSeq λa=>a.push z)).get? s2.heap.objs.size=some (lobj (its++[z]) n'):=⟨_,e9⟩
    have J4:Inv (jK X own capN scope ⟨s2,H2,fp,s2.heap.objs.size+1⟩) [] σ7 H9 { s9 with heap:=s9.heap.update s2.heap.objs.size (Obj.mapSeq λa=>a.push z),toks:=s9.toks } :=
     (J1.pins_of (pins':=[]) λp hp=>nomatch hp).turned (λb o hb e=>(Heap.get?_update_other s9.heap _ (Ne.symm hb)).trans e) pD.2.1 pD.2.2.1 (.inr (ax _)) (λx c hx z=>by
      rcases eO (Z:=⟨s2,H2,fp,s2.heap.objs.size+1⟩) B I2 hx with ⟨_,m⟩ | ⟨_,_,m⟩
      ·have:=(hcl.empty _ _ m).2;have z':@Eq Nat c s2.heap.objs.size:=z
       lia
      ·have:=qE (Z:=⟨s2,H2,fp,s2.heap.objs.size+1⟩) I2 m;rw[z] at this;exact bA _ this) λp hp=>by simp [jK] at hp
    have nfp:∀b∈fp,b≠s2.heap.objs.size:=λb hb z=>by have:=(hfp b hb).2;rw[z] at this;exact bA _ this
    refine ⟨m',hm,i+1,ys++[y],σ7,H9,its++[z],n',J4.pins_of λp hp=>?_,T.keep _ _ _ J2 λb hb o e=>(Heap.get?_update_other s9.heap _ (Ne.symm (nfp b hb))).trans e,J3,rv.append (.cons r9 .nil),w9⟩;have ep:p=(s2.heap.objs.size,lobj (its++[z]) n'):=by simpa using hp
    rw[ep];exact ⟨e9,pD.2.1,pD.2.2.1,pD.2.2.2.1,λv z=>nomatch z⟩
 exact codeAny_compStart_list loop (T.self _ _ _ _ _ st3 loop)
theorem vz {E:XK} (own capN:List Str) (cap:List Nat) (hL:LeaveX X E) (hex:X.ex=[]) (hi:PI X tg iter wi) (hg:∀Z,PG (jK X own capN scope Z) tg g) (hf:∀Z,PF (jK X own capN scope Z) ifs tf) (he:∀Z,PE (yL X own capN scope Z E) elt te)
  (h1:Fk scope own capN=true:=by decide +kernel) (h2:rW X.env capN=true:=by rfl) (hcap:mL X capN cap:=by rfl) (hc:X.calm=true:=by rfl) (hs:∀x,foldedSetIterable iter X.env x=pure x:=by intro _;rfl) :
  PE X (.ListComp elt [⟨tg,iter,ifs,0⟩] scope pos) (qO wi own.length cap g tf te):=by
 intro pins s σ H Q I h;rw[eval_ListComp];refine wY (use:=none) hL hex hc (Bk.of h1 h2) hcap hi hg hf he hs I h λD C s' H' I' fC hm q=>?_
 obtain ⟨m,hm⟩:=hm;refine ⟨m,hm,λh' hs'=>?_⟩;obtain ⟨f0,f1,f2,f3,f4,f5⟩:=fC;exact ⟨.ref D,H',I'.turned (t':=s'.toks) (λb o hb e=>(hs'.2 b hb).trans e) f0 f1 f3 f4 f5,rfl,q⟩
end
theorem tF {α:Type} {v:α}:∀{l:List α},l.Nodup->v∉l->∀j,(l.set j v).Nodup
 | [],_,_,_=>CT
 | a :: l,h,hn,0=>by
  rw[cR] at h;rw[List.set_cons_zero,cR];exact ⟨λz=>hn (.tail _ z),h.2⟩
 | a :: l,h,hn,j+1=>by
  rw[cR] at h;rw[List.set_cons_succ,cR];refine ⟨λz=>?_,tF h.2 (λz=>hn (.tail _ z)) j⟩;rcases hZ z with z | z
  ·exact h.1 z
  ·exact hn (by rw[z];exact .head _)
structure gJ (K:FG9) (A:Addr->Prop) (H:Hp) (n:Nat) (C:V->Rat->Prop) (m p l b q0:Addr) (us ws vs:List V):Prop where
 bag:fU H b
 inn:Inner H b q0
 gm:H m=some (.lst us)
 gp:H p=some (.lst ws)
 gl:H l=some (.lst vs)
 lm:us.length=n
 row:∀x∈us++vs++ws,fq K A H n (C x) x
 nd:(us++vs++ws).Nodup
section
variable {K:FG9} {A:Addr->Prop} {H H':Hp} {n:Nat} {C C':V->Rat->Prop} {m p l b q0 q:Addr} {us ws vs zs:List V} {y:Rat} {v:V}
theorem gJ.same (h:gJ K A H n C m p l b q0 us ws vs) (e:aD H H'):gJ K A H' n C m p l b q0 us ws vs :=
 ⟨h.bag.same e,(e.upto (p:=b)).2 _ h.inn,e _ _ h.gm,e _ _ h.gp,e _ _ h.gl,h.lm,λx hx=>(h.row x hx).same e,h.nd⟩
theorem gJ.upto (h:gJ K A H n C m p l b q0 us ws vs) (M:xc A m p l b q0) (u:bW b H H') (B':fU H' b):gJ K A H' n C m p l b q0 us ws vs :=
 ⟨B',u.2 _ h.inn,u.other M.mb h.gm,u.other M.pb h.gp,u.other M.lb h.gl,h.lm,λx hx=>(h.row x hx).upto u h.bag M.ab,h.nd⟩
theorem gJ.weak (h:gJ K A H n C m p l b q0 us ws vs) (w:∀x∈us++vs++ws,∀y,C x y->C' x y):gJ K A H n C' m p l b q0 us ws vs :=
 ⟨h.bag,h.inn,h.gm,h.gp,h.gl,h.lm,λx hx=>(h.row x hx).weak (λ_ z=>z) (w x hx),h.nd⟩
theorem gJ.put (h:gJ K A H n C m p l b q0 us ws vs) (M:xc A m p l b q0) (aq:A q) (hq:H q=some (.lst zs)) (hv:cg K H y v) (hc:C (.ref q) y) (j:Nat):gJ K A (upd H q (.lst (zs.set j v))) n C m p l b q0 us ws vs:=by
 have ne:∀{z},¬A z->z≠q:=λh e=>h (by rw[e];exact aq)
 refine ⟨h.bag.upd h.inn (ne M.ab).symm (ne M.aq).symm,h.inn.upd (ne M.ab).symm,by rw[aU (ne M.am)];exact h.gm,by rw[aU (ne M.ap)];exact h.gp,by rw[aU (ne M.al)];exact h.gl,h.lm,λx hx=>?_,h.nd⟩;by_cases e:x=.ref q
 ·subst e;exact (h.row _ hx).put hq hv hc j
 ·obtain ⟨q1,qs,rfl,a1,r1,l1,c1⟩:=h.row x hx;exact ⟨q1,qs,rfl,a1,r1.updL hq (λz=>e (by rw[z])),l1,c1⟩
theorem gJ.set (h:gJ K A H n C m p l b q0 us ws vs) (M:xc A m p l b q0) (hx:fq K A H n (C v) v) (hn:v∉us++vs++ws) (j:Nat):gJ K A (upd H m (.lst (us.set j v))) n C m p l b q0 (us.set j v) ws vs:=by
 have mem:∀x∈us.set j v++vs++ws,x=v\/x∈us++vs++ws:=λx hx=>by
  rcases aO.mp hx with hx | hx
  ·rcases aO.mp hx with hx | hx
   ·rcases hZ hx with hx | hx
    ·exact .inr (by simp [hx])
    ·exact .inl hx
   ·exact .inr (by simp [hx])
  ·exact .inr (by simp [hx])
 refine ⟨h.bag.upd h.inn M.mb M.mq,h.inn.upd M.mb,aA,by rw[aU M.mp.symm];exact h.gp,by rw[aU M.ml.symm];exact h.gl,by rw[AH];exact h.lm,λx hx'=>?_,?_⟩
 ·rcases mem x hx' with rfl | hx'
  ·exact hx.other h.gm M.am
  ·exact (h.row x hx').other h.gm M.am
 ·have nd:=h.nd;rw[br] at nd hn ⊢;obtain ⟨n1,n2,n3⟩:=fV.mp nd;refine fV.mpr ⟨?_,n2,λa ha c hc=>?_⟩
  ·rcases md j us.length with z | z
   ·exact tF n1 (λz'=>hn (aO.mpr (.inl z'))) j
   ·rw[List.set_eq_of_length_le z];exact n1
  ·rcases hZ ha with ha | rfl
   ·exact n3 a ha c hc
   ·exact λz=>hn (aO.mpr (.inr (by rw[z];exact hc)))
end
theorem BM {M W:Nat} {x:Rat} (h0:0 < M) (h1:M<=2^800) (hW:W<=2^140) (h:Fr M W x):Aw x :=
 wV h0 (ar h1 (aG (by decide) (by decide))) (ar hW (aG (by decide) (by decide))) h
theorem Bs {t V c:Nat} (ht:t<=3) (hV:V<=2^20) (hc:c<=9):c*(9^t*V)<=2^140:=by
 have h1:9^t<=9^3:=aG (by decide) ht;have h2:c*(9^t*V)<=9*(9^3*2^20):=eS hc (eS h1 hV);exact ar h2 (ar (show 9*(9^3*2^20)<=2^40 by decide) (aG (by decide) (by decide)))
inductive sY (K:FG9) (xs:List V) (H:Hp) (Q:VK) (E9:XK):Prop
 | mk (b m p l q0:Addr) (n M V1:Nat) (A:Addr->Prop) (us ws vs:List V):xs=[.ref b,.ref m,.ref p,.ref l]->xc A m p l b q0->gJ K A H n (λ_=>Fr M V1) m p l b q0 us ws vs->n<=8->ws.length<=4->vs.length<=4->0 < M->M<=2^800->V1<=2^20->(∀q,H q=none->A q)->(∀r us' H',H' r=some (.tup [.ref m,.ref p,.ref l])->gJ K A H' n (λ_=>Fr M (9^3*V1)) m p l b q0 us' ws vs->eQ A b m H H'->Q (.ref r) H')->sY K xs H Q E9
theorem rz {α:Type} {l:List α} {v:α} (h:l.Nodup) (hn:v∉l):(l++[v]).Nodup:=fV.mpr ⟨h,by simp,λa ha c hc=>by rw[fg.mp hc];exact λz=>hn (by rw[<- z];exact ha)⟩
section
variable {K:FG9} {a:Addr} {xs:List V} {g:TG} {tf:TT} {te:TE} {Q:VK} {σ₀:St} {H:Hp} {α β:Type}
theorem tR {n:Nat} {b:Addr} (G:Hp->β->V->Prop) (C:β->Prop) (hB:fU H b) (hl:n<=1000) (hG:∀{H' H'' c x},G H' c x->bW b H' H''->fU H' b->G H'' c x)
  (hA:∀{H' c x},G H' c x->∃q,x=V.ref q/\H' q≠none)
  (hs:∀(i:Nat) H' NY NN,i < n->bW b H H'->fU H' b->(∀y c H2,bW b H' H2->fU H2 b->C c->G H2 c y->(∃q,y=V.ref q/\H' q=none)->NY y H2)->nK σ₀ g tf te (.int i) H' NY NN)
  (hd:∀ys cs H' p,H p=none->bW b H H'->fU H' b->H' p=some (.lst ys)->cs.length=n->ys.Nodup->(∀c∈cs,C c)->Paired (G H') cs ys->(∃H2,H2 p=none/\Paired (G H2) cs ys)->Q (.ref p) H'):oI (yb 0 n) σ₀ g tf te Q H:=by
 refine nH (λi ys H'=>bW b H H'/\fU H' b/\∃cs,cs.length=i/\ys.Nodup/\(∀c∈cs,C c)/\Paired (G H') cs ys) (bR (b4 (by lia))) ⟨(aD.refl _).upto,hB,[],rfl,CT,(λ_ z=>nomatch z),.nil⟩ ?_ ?_
 ·rintro i ys H' hi hlen ⟨u,B,cs,lc,nd,hc,pr⟩;rw[yf];refine hs i H' _ _ hi u B λy c H2 u2 B2 cc gy ⟨q,ey,nq⟩=>⟨u.trans u2,B2,cs++[c],by simp [lc],rz nd (λz=>by obtain ⟨c',_,gc⟩:=dk pr z;obtain ⟨q',e',h'⟩:=hA gc;rw[ey] at e';cases e';exact h' nq),xX hc cc,cN (Paired.imp' (λ_ _ z=>hG z u2 B) pr) (.cons gy .nil)⟩
 ·rintro ys H' hy ⟨u,B,cs,lc,nd,hc,pr⟩ p hp;have s:aD H' (upd H' p (.lst ys)):=aD.new hp;exact hd ys cs _ p (u.none B hp) (u.same s) (B.same s) aA lc nd hc (Paired.imp' (λ_ _ z=>hG z s.upto B) pr) ⟨H',hp,pr⟩
end
theorem gJ.fr {K:FG9} {A:Addr->Prop} {H:Hp} {n c:Nat} {m p l b q0:Addr} {us ws vs:List V} (h:gJ K A H n (λ_=>Dr (2^c)) m p l b q0 us ws vs):∃M,0 < M/\M<=2^(c*((n+ws.length+vs.length)*n))/\gJ K A H n (λ_=>Fr M (2^c)) m p l b q0 us ws vs:=by
 obtain ⟨ra,pa,la,ha⟩:=qZ h.row;obtain ⟨M,m0,m1,m2⟩:=AY (c:=c) (n:=n) (rows:=ra) ha;refine ⟨M,m0,?_,h.bag,h.inn,h.gm,h.gp,h.gl,h.lm,wu pa λqs hq=>⟨(ha qs hq).1,m2 qs hq⟩,h.nd⟩;rw[la,ai,ai,h.lm] at m1;rw[show n+ws.length+vs.length=n+vs.length+ws.length by lia];exact m1
structure xb (K:FG9) (A:Addr->Prop) (n:Nat) (C:Rat->Prop) (m p l b q0:Addr) (us ws vs:List V) (H0 H:Hp):Prop where
 mix:gJ K A H n (λ_=>C) m p l b q0 us ws vs
 gp:H p=some (.lst ws)
 gl:H l=some (.lst vs)
 kp:eQ A b m H0 H
section
variable {K:FG9} {A:Addr->Prop} {n:Nat} {C:Rat->Prop} {m p l b q0 q:Addr} {us ws vs:List V} {H0 H H':Hp} {y:Rat} {v:V}
theorem xb.same (h:xb K A n C m p l b q0 us ws vs H0 H) (e:aD H H'):xb K A n C m p l b q0 us ws vs H0 H':=⟨h.mix.same e,e _ _ h.gp,e _ _ h.gl,h.kp.same e⟩
theorem xb.upto (h:xb K A n C m p l b q0 us ws vs H0 H) (M:xc A m p l b q0) (u:bW b H H') (B:fU H' b):xb K A n C m p l b q0 us ws vs H0 H':=⟨h.mix.upto M u B,u.other M.pb h.gp,u.other M.lb h.gl,h.kp.upto u⟩
theorem xb.row (h:xb K A n C m p l b q0 us ws vs H0 H) {x:V} (hx:x∈ws\/x∈vs):fq K A H n C x:=h.mix.row x (by rcases hx with hx | hx <;> simp [hx])
theorem xb.put (h:xb K A n C m p l b q0 us ws vs H0 H) (M:xc A m p l b q0) (hx:V.ref q∈ws\/V.ref q∈vs) (hv:cg K H y v) (hc:C y) (j:Nat):∃zs,H q=some (.lst zs)/\zs.length=n/\xb K A n C m p l b q0 us ws vs H0 (upd H q (.lst (zs.set j v))):=by
 obtain ⟨q',zs,qs,e,a,g,lz,_⟩:=(h.row hx).at;cases e;have ne:∀{z},¬A z->z≠q:=λh e=>h (by rw[e];exact a)
 exact ⟨zs,g,lz,h.mix.put M a g hv hc j,by rw[aU (ne M.ap)];exact h.gp,by rw[aU (ne M.al)];exact h.gl,h.kp.upd (.inl a)⟩
end
inductive vb (K:FG9) (vs:List V) (H:Hp) (Q:VK) (E9:XK):Prop
 | mk (b:Addr) (n w:Nat) (way first:Int):vs=[.ref b,.int n,.int way,.int first,.int w]->fU H b->n<=8->1<=w->w<=1000000->(∀r us H',H r=none->H' r=some (.lst us)->us.length=n->us.Nodup->(∀x∈us,fq K (λq=>H q=none/\q≠r) H' n (Dr (max w 6)) x)->fU H' b->bW b H H'->Q (.ref r) H')->vb K vs H Q E9
def PtF (n i o w c:Nat) (mv pt lk:LR9):Prop:=∃M V1:Nat,0 < M/\GF M V1 mv/\GF M V1 pt/\GF M V1 lk/\((w<=9/\M=2520/\V1=9^3*9)\/(9 < w/\M<=2^(c*((n+i+o)*n))/\V1=9^3*2^c))
inductive sX (K:FG9) (vs:List V) (H:Hp) (Q:VK) (E9:XK):Prop
 | mk (b:Addr) (n i o w c:Nat):vs=[.ref b,.int n,.int i,.int o,.int w]->fU H b->n<=8->i<=4->o<=4->1<=w->w<=1000000->max w 6<=2^c->c<=20->c*((n+i+o)*n)<=800->(∀r mv pt lk H',iu K H H' r mv pt lk->mv.length=n->pt.length=i->lk.length=o->kE mv pt lk->PtF n i o w c mv pt lk->fU H' b->bW b H H'->Q (.ref r) H')->sX K vs H Q E9
theorem BS {q:Rat} (h:q.den<=9):q.den∣2520:=Fj h
theorem D2 {q:Rat} {M:Nat} (h:Dr 9 q) (hM:2520∣M):Fr M 9 q:=(Fr.own q h.1).dvd (Nat.dvd_trans (BS h.2) hM)
theorem AN:∀(k:Nat) {l:List Nat} {n:Nat},l.length<=k->yQ l n->l=bJ n:=by
 intro k
 induction k with
 | zero=>exact λhl h=>absurd (qi.mp (by lia)) h.1
 | succ k ih =>
  intro l n hl ⟨w0,w1,w2,w3⟩;obtain ⟨l',c,rfl⟩:∃l' c,l=l'++[c]:=⟨_,_,(List.dropLast_concat_getLast w0).symm⟩;rw[ai,bQ] at hl
  revert w0 w1 w2 w3 hl
  generalize l'=l;intro hl w0 w1 w2 w3;have hc:=w1 c (by simp);rw[digitsVal_snoc] at w3;cases l with
  | nil =>
   have e:n=c - 48:=by rw[<- w3];simp [digitsVal]
   rw[e,eG (by lia),kF];congr 1
   lia
  | cons a r =>
   have ha:=w1 a (by simp)
   have n48:a≠48:=λz=>by
    have:=w2 (by rw[z];rfl);simp at this
   have I:=ih (n:=digitsVal (a :: r)) (by lia) ⟨by simp,λx hx=>w1 x (by simp at hx ⊢;rcases hx with h | h <;> simp [h]),λz=>absurd (by simpa using z) n48,rfl⟩;have p:=digitsVal_pos (c:=a) (by lia) (cs:=r);generalize digitsVal (a :: r)=m at I p w3;rw[rJ (by lia),show n / 10=m by lia,show n % 10=c - 48 by lia,eG (n:=c - 48) (by lia),<- I];congr 2
   lia
theorem fA {l:List Nat} {n:Nat} (h:yQ l n):l=bJ n:=AN _ (ax _) h
theorem cI {a b:Nat} (h:bJ a=bJ b):a=b:=by rw[<- oj a,<- oj b,h]
theorem rF {i j:Int} (h:dn i=dn j):i=j:=by
 have hd:∀n,(bJ n).head?≠some 45:=λn z=>by
  obtain ⟨c,r,e,_⟩:=iH n;have:=hJ n c (by rw[e];simp);rw[e] at z;have:c=45:=by simpa using z
  lia
 unfold dn at h
 split at h <;> split at h
 ·have:=cI (bI h).2
  lia
 ·exact absurd (by rw[<- h];rfl) (hd j.natAbs)
 ·exact absurd (by rw[h];rfl) (hd i.natAbs)
 ·have:=cI h
  lia
def Vn (n:Int×Int):Prop:=0 < n.2/\Int.gcd n.1 n.2=1
theorem eX {n:Int×Int} (h:n.2≠1):bM n=dn n.1++47 :: bJ n.2.natAbs:=by unfold bM;rw[if_neg h]
theorem fH {n:Int×Int} (h:n.2=1):bM n=dn n.1:=by unfold bM;rw[if_pos h,dS]
theorem rn {n m:Int×Int} (hn:Vn n) (hm:Vn m) (h:bM n=bM m):n=m:=by
 have fr:∀i,47∉dn i:=λi=>lV (by decide) (by decide)
 by_cases e1:n.2=1 <;> by_cases e2:m.2=1
 ·rw[fH e1,fH e2] at h;exact Prod.ext (rF h) (e1.trans e2.symm)
 ·rw[fH e1,eX e2] at h;exact absurd (by rw[h];simp) (fr n.1)
 ·rw[fH e2,eX e1] at h;exact absurd (by rw[<- h];simp) (fr m.1)
 ·rw[eX e1,eX e2] at h;obtain ⟨a,b⟩:=oA (fr _) (fr _) h;have:=cI b;have h1:=hn.1;have h2:=hm.1;exact Prod.ext (rF a) (by lia)
theorem qC {n k:Nat} (h:(bJ n).length<=k):n < 10^k:=by
 have:=yY (hJ n);rw[oj] at this;exact av this (aG (by decide) h)
theorem xi {i:Int} (h:i.natAbs < 10^1000):Sz 8000 i:=by
 refine av h ?_;refine ar (Nat.pow_le_pow_left (show 10<=2^4 by decide) _) ?_;rw[<- Nat.pow_mul];exact aG (by decide) (by decide)
theorem sR {n:Int×Int} (h:Vn n) (l:(bM n).length<=1000):ja n:=by
 have l1:(bJ n.1.natAbs).length<=1000:=by
  have:(dn n.1).length<=1000:=by unfold bM at l;rw[ai] at l;lia
  unfold dn at this
  split at this
  ·rw[ah] at this;lia
  ·exact this
 have l2:n.2.natAbs < 10^1000:=by
  by_cases e:n.2=1
  ·rw[e];exact Nat.one_lt_pow (by decide) (by decide)
  ·rw[eX e,ai,ah] at l;exact qC (by lia)
 exact ⟨h.1,h.2,xi (qC l1),xi l2⟩
theorem vd (l:List Nat) (c:Nat):c∉l\/∃a b,l=a++c :: b/\c∉a:=by
 induction l with
 | nil=>exact .inl (by simp)
 | cons x r ih =>
  by_cases e:x=c
  ·exact .inr ⟨[],r,by rw[e];rfl,by simp⟩
  ·rcases ih with h | ⟨a,b,e1,h⟩
   ·exact .inl λz=>by
     rcases az.mp z with z | z
     ·exact e z.symm
     ·exact h z
   ·exact .inr ⟨x :: a,b,by rw[e1];rfl,λz=>by
     rcases az.mp z with z | z
     ·exact e z.symm
     ·exact h z⟩
theorem nM (l:List Nat) (c:Nat):∃ws:List (List Nat),ws≠[]/\(∀w∈ws,c∉w)/\l=bU c ws/\Txt.split (sl l) (sl [c])=ws.map sl:=by
 have e:=Ej (sl l) (sl [c]);have f:∀p∈Txt.split (sl l) (sl [c]),c∉p.cps.toList:=Ei (sl l) c;have l1:=split_pos (sl l) (sl [c]);generalize Txt.split (sl l) (sl [c])=ps at e f l1 ⊢
 have ep:ps=(ps.map λp=>p.cps.toList).map sl:=by
  rw[d7];exact (List.map_id _).symm.trans (ij λp _=>qV p)
 refine ⟨ps.map λp=>p.cps.toList,λz=>?_,λw hw=>?_,?_,ep⟩
 ·rw[uT] at z;rw[z] at l1;exact absurd l1 (by decide)
 ·obtain ⟨p,hp,rfl⟩:=be.mp hw;exact f p hp
 ·rw[ep,nO] at e;exact (fB e).symm
theorem iV {c:Nat}:∀{ws:List (List Nat)} {w:List Nat},w∈ws->w.length<=(bU c ws).length
 | [],_,h=>nomatch h
 | [x],w,h=>by rw[fg.mp h];exact ax _
 | x :: y :: r,w,h=>by
  show _<=(x++c :: bU c (y :: r)).length
  rw[ai,ah];rcases az.mp h with h | h
  ·rw[h];lia
  ·have:=iV (c:=c) h
   lia
theorem jQ {c:Nat}:∀{ws:List (List Nat)},ws.length<=(bU c ws).length+1
 | []=>bf _
 | [x]=>Nat.le_add_left _ _
 | x :: y :: r=>by
  have:=jQ (c:=c) (ws:=y :: r);show _<=(x++c :: bU c (y :: r)).length+1
  rw[ai,ah (as:=bU c (y :: r)),ah (as:=y :: r)]
  lia
structure FR (X:Cx) (CX:vY) (f:Addr) (sp:Sp):Prop where
 has:∃k fd ps,ck X.prog X.w X.K X.mg X.base CX k f fd ps sp/\hR k X.A/\PySem.W.keepIn X.K (.ref f)=true/\Binds X.K fd ps []
def y9 (L:List (Addr×Sp)) (te:TE) (E:St->XK) (t:TA):TE:=λσ H Q=>te σ H λv H1=>∃f sp,v=.ref f/\(f,sp)∈L/\t σ H1 λvs H2=>sp vs H2 Q (E σ)
section
variable {X:Cx} {CX:vY} {L:List (Addr×Sp)} {E:St->XK} {pos:Pos} {fe e:Expr} {es:List Expr} {te:TE} {t:TA}
theorem vA (hL:∀p∈L,FR X CX p.1 p.2) (hx:uO CX X E) (hf:PE X fe te) (ha:PA X (e :: es) t)
  (hc:∀(Q:Value->Shared->Prop) (E:Value->Shared->Prop) (s:Shared),wpAny (model X.prog X.w) X.A (eval fe X.env) (λf s₁=>wpAny (model X.prog X.w) X.A (callWith pos f [] (backTo pos (starEach (e :: es) X.env)) (backToKw pos (keywordEach [] X.env))) Q E s₁) E s->wpAny (model X.prog X.w) X.A (eval (.Call fe (e :: es) [] pos) X.env) Q E s:=by intro _ _ _ h;first | exact wpAny_Call_Name_kw h | exact wpAny_bind h)
  (he:starEach (e :: es) X.env=(false,eval e X.env) :: starEach es X.env:=by rfl) (hpl:(backTo pos (starEach es X.env)).any (·.1)=false:=by rfl) :
  PE X (.Call fe (e :: es) [] pos) (y9 L te E t):=by
 intro pins s σ H Q I h;refine hc _ _ _ (dz (hf pins s σ H _ I h) λv s1 ⟨x,H1,I1,r,f,sp,ex,hm,q⟩=>?_);subst ex;have r:v=.ref f:=r;subst r;obtain ⟨k,fd,ps,F,hr,hk,hb⟩:=(hL _ hm).has;refine v3 (h₀:=X.base) I1.ok.mod.kin hk (dz (ha pos pins s1 σ H1 _ I1 q) λus s2 ⟨vs,H2,I2,r2,q2⟩=>⟨I2.kIn,?_⟩) he hpl;have hl:us.length=ps.length:=by rw[<- r2.length];exact F.len _ _ _ _ q2
 have hb':=hb s2 us I2.kIn (by rw[dS];exact hl);rw[dS] at hb';refine wpAny_call (codeAny_mono (F.run X.A X.stack s2 H2 ⟨us,[]⟩ us vs Q (E σ) hr I2.env0 hb' r2 q2) λr s' hq=>?_);cases r with
 | error e=>exact hx pins σ H2 s2 e s' I2 hq
 | ok fl =>
  cases fl with
  | ret u=>exact I2.after hq
  | next=>exact False.elim hq
  | brk=>exact False.elim hq
  | cont=>exact False.elim hq
theorem DM {X:Cx}:uO jb X (λ_=>E0):=λpins σ H s e s' I h=>zZ pins σ H s e s' I h
end
theorem Bx {CX:vY} {P:Program} {w:World} {K:FG9} {mg:Str->Option Value} {base:Heap} {N:List Str} {qual:Str} {scope:Scope} {f:Addr} {cd:Value} {A:Around} {outer:List Env} {s:Shared} {H:Hp} {E:XK} :
  PassesOwn (model (lF CX P w K mg base N qual scope f cd A outer s H E).prog (lF CX P w K mg base N qual scope f cd A outer s H E).w) (lF CX P w K mg base N qual scope f cd A outer s H E).A (lF CX P w K mg base N qual scope f cd A outer s H E).env (lF CX P w K mg base N qual scope f cd A outer s H E).xe :=
 PassesOwn.leaving (Q₁:=λe s''=>CX outer H s E e s'')
def FH (K:FG9):R2:=λx y H Q=>∃p xs,x=.non/\y=.ref p/\bD K H p xs/\(∀v∈xs,v=.non\/∃t zs,v=.ref t/\i8 K H t zs)/\∀b:Bool,(b=true↔V.non∈xs)->Q (.bl b) H
def Ec:Value->Bool
 | .none=>true
 | _=>false
theorem sU {w:Value}:∀{xs:List V} {us:List Value},bO xs us->w∈us->∃x,x∈xs/\RelV x w
 | _,_,.nil,h=>by cases h
 | x :: xs,u :: us,.cons r t,h=>by
  rcases az.mp h with rfl | h
  ·exact ⟨x,aE ..,r⟩
  ·obtain ⟨y,a,b⟩:=sU t h;exact ⟨y,ao _ a,b⟩
theorem xY:∀{xs:List V} {us:List Value},bO xs us->(∀v∈xs,v=.non\/∃t,v=V.ref t)->(us.any Ec=true↔V.non∈xs)
 | _,_,.nil,_=>by simp
 | x :: xs,u :: us,.cons r t,h=>by
  rw[List.any_cons,Bool.or_eq_true,az,xY t λv hv=>h v (ao _ hv)];rcases h x (aE ..) with e | ⟨a,e⟩
  ·subst e;cases r;simp [Ec]
  ·subst e;cases r;simp [Ec]
theorem z4 {X:Cx} (hu:X.A.units+50 < cLine):qt X (compareOp .In) (FH X.K):=by
 intro pins s σ H x y v u Q I rx ry h;obtain ⟨p,xs,rfl,rfl,hq,ht,q⟩:=h;cases rx;cases ry;obtain ⟨its,r,pl,hz⟩:=I.list hq;refine SeqAt.in_listAt Ec pl.isList (λw hw=>?_) ⟨.bl _,H,I,rfl,q _ ?_⟩
 ·obtain ⟨x,hx,rw⟩:=sU (w:=w) r (by simpa using hw);rcases ht x hx with e | ⟨t,zs,e,hT⟩
  ·subst e;cases rw;exact SeqAt.EqAt.same _
  ·subst e;cases rw;obtain ⟨_,_,pt,_⟩:=I.tuple hT;exact SeqAt.EqAt.tuple_none pt (by have:X.A.in1.units=X.A.units+1:=rfl;lia)
 ·rw[show its.toArray.any Ec=its.any Ec by simp];exact xY r λv hv=>(ht v hv).imp id λ⟨t,_,e,_⟩=>⟨t,e⟩
inductive zq (C:Addr) (vs:List V) (H:Hp) (Q:VK) (E:XK):Prop
 | mk (l:List Nat):vs=[.str (sl l)]->l.length<=1000->(∀n,yQ l n->∀H',aD H H'->Q (.int (n:Nat)) H')->((∀n,¬yQ l n)->∀H',aD H H'->E (.ref C) none H')->zq C vs H Q E
inductive zr (C:Addr) (vs:List V) (H:Hp) (Q:VK) (E:XK):Prop
 | mk (l:List Nat):vs=[.str (sl l)]->l.length<=1000->(∀i,l=dn i->∀H',aD H H'->Q (.int i) H')->((∀i,l≠dn i)->∀H',aD H H'->E (.ref C) none H')->zr C vs H Q E
inductive wj (C:Addr) (vs:List V) (H:Hp) (Q:VK) (E:XK):Prop
 | mk (l:List Nat):vs=[.str (sl l)]->l.length<=1000->(∀n,Vn n->l=bM n->∀r H',H r=none->aD H H'->H' r=some (.tup [.int n.1,.int n.2])->Q (.ref r) H')->((∀n,Vn n->l≠bM n)->∀H',aD H H'->E (.ref C) none H')->wj C vs H Q E
def Ax (l:List Nat) (ns:List (Int×Int)):Prop:=(∀n∈ns,Vn n)/\l=bU 32 (ns.map bM)
inductive wg (K:FG9) (C:Addr) (vs:List V) (H:Hp) (Q:VK) (E:XK):Prop
 | mk (l:List Nat):vs=[.str (sl l)]->l.length<=1000->(∀ns,Ax l ns->∀p H',H p=none->aD H H'->lO K H' p ns->Q (.ref p) H')->((∀ns,¬Ax l ns)->∀H',aD H H'->E (.ref C) none H')->wg K C vs H Q E
inductive zo (C:Addr) (vs:List V) (H:Hp) (Q:VK) (E:XK):Prop
 | mk (l:List Nat) (m:Nat):vs=[.str (sl l),.int m]->l.length<=1000->(∀n,yQ l n->n<=m->∀H',aD H H'->Q (.int (n:Nat)) H')->((∀n,yQ l n->m < n)->∀H',aD H H'->E (.ref C) none H')->zo C vs H Q E
def Eg (ws:List (List Nat)) (w:List Nat) (many wide:Nat) (g:LR9):Prop:=(∀xs∈g,xs.length=wide)/\g.length=many/\ws=w :: gw g
inductive zu (K:FG9) (C:Addr) (vs:List V) (H:Hp) (Q:VK) (E:XK):Prop
 | mk (p:Addr) (w:List Nat) (many wide:Nat) (ws:List (List Nat)):vs=[.ref p,.str (sl w),.int many,.int wide]->H p=some (.lst (fX ws))->ws.length=1+many*wide->many<=8->wide<=8->(∀x∈ws,x.length<=1000)->(∀g,Eg ws w many wide g->sG g->∀q H',H q=none->aD H H'->c7 K H H' q g->Q (.ref q) H')->((∀g,¬Eg ws w many wide g)->∀H',aD H H'->E (.ref C) none H')->zu K C vs H Q E
def w5 (ws:List (List Nat)) (mv pt lk:LR9):Prop:=kE mv pt lk/\ws=j5 mv pt lk
inductive we (K:FG9) (C Cn:Addr) (vs:List V) (H:Hp) (Q:VK) (E:XK):Prop
 | mk (l:List Nat) (ws:List (List Nat)):vs=[.str (sl l)]->l.length<=1000->ws≠[]->(∀w∈ws,32∉w)->l=bU 32 ws->(∀mv pt lk,w5 ws mv pt lk->∀x H',H x=none->aD H H'->sP K H H' C x mv pt lk->Q (.ref x) H')->((∀mv pt lk,¬w5 ws mv pt lk)->∀H',aD H H'->E (.ref Cn) none H')->we K C Cn vs H Q E
inductive zA (vs:List V) (H:Hp) (Q:VK) (E9:XK):Prop
 | mk (l:List Nat):vs=[.str (sl l)]->l.length<=1000->(∀(b:Bool) H',(b=true↔∃n,yQ l n)->aD H H'->Q (.bl b) H')->zA vs H Q E9
inductive t8 (vs:List V) (H:Hp) (Q:VK) (E9:XK):Prop
 | mk (l:List Nat):vs=[.str (sl l)]->l.length<=1000->(∀n,Vn n->l=bM n->∀r H',aD H H'->H' r=some (.tup [.int n.1,.int n.2])->Q (.ref r) H')->((∀n,Vn n->l≠bM n)->∀H',aD H H'->Q .non H')->t8 vs H Q E9
inductive uc (K:FG9) (vs:List V) (H:Hp) (Q:VK) (E9:XK):Prop
 | mk (l:List Nat):vs=[.str (sl l)]->l.length<=1000->(∀ns,Ax l ns->∀p H',H p=none->aD H H'->lO K H' p ns->Q (.ref p) H')->((∀ns,¬Ax l ns)->∀H',aD H H'->Q .non H')->uc K vs H Q E9
inductive zw (K:FG9) (vs:List V) (H:Hp) (Q:VK) (E9:XK):Prop
 | mk (p:Addr) (n i o:Nat) (ws:List (List Nat)):vs=[.ref p,.int n,.int i,.int o]->H p=some (.lst (fX ws))->n<=8->i<=4->o<=4->3<=ws.length->ws.length<=1002->(∀x∈ws,x.length<=1000)->(∀mv pt lk,kE mv pt lk->mv.length=n->pt.length=i->lk.length=o->ws.drop 3=(wM :: gw mv)++(wP :: gw pt)++(wL :: gw lk)->∀r H',aD H H'->iu K H H' r mv pt lk->Q (.ref r) H')->((∀mv pt lk,kE mv pt lk->mv.length=n->pt.length=i->lk.length=o->ws.drop 3≠(wM :: gw mv)++(wP :: gw pt)++(wL :: gw lk))->∀H',aD H H'->Q .non H')->zw K vs H Q E9
inductive t9 (K:FG9) (vs:List V) (H:Hp) (Q:VK) (E9:XK):Prop
 | mk (l:List Nat) (ws:List (List Nat)):vs=[.str (sl l)]->l.length<=1000->ws≠[]->(∀w∈ws,32∉w)->l=bU 32 ws->(∀mv pt lk,w5 ws mv pt lk->∀r H',aD H H'->iu K H H' r mv pt lk->Q (.ref r) H')->((∀mv pt lk,¬w5 ws mv pt lk)->∀H',aD H H'->Q .non H')->t9 K vs H Q E9
inductive zm (vs:List V) (H:Hp) (Q:VK) (E9:XK):Prop
 | mk (b:Addr):vs=[.ref b]->fU H b->(∀c H',fU H' b->bW b H H'->Q (.str (sl [c])) H')->zm vs H Q E9
inductive zv (vs:List V) (H:Hp) (Q:VK) (E9:XK):Prop
 | mk (b:Addr) (l:List Nat):vs=[.ref b,.str (sl l)]->fU H b->l.length<=999->(∀l' H',l'.length<=1000->fU H' b->bW b H H'->Q (.str (sl l')) H')->zv vs H Q E9
inductive zt (K:FG9) (vs:List V) (H:Hp) (Q:VK) (E9:XK):Prop
 | mk (k:Nat) (l:List Nat):vs=[.int k,.str (sl l)]->k < 3->l.length<=1000->(∀H',aD H H'->Q (.bl true) H')->zt K vs H Q E9
theorem wC {n:Int×Int} (h:Vn n):nm (val n)=n:=(Ct h.1 h.2 (val_mul h.1)).symm
theorem qL (q:Rat):Vn (nm q):=⟨o9 q,wD q⟩
theorem vJ:∀{u k:Nat} {qs:List Rat},qs.length=u*k->(nG qs u k).flatten=qs
 | 0,k,qs,h=>by
  rw[Nat.zero_mul] at h;rw[qi.mp h];rfl
 | u+1,k,qs,h=>by
  have hd:(qs.drop k).length=u*k:=by rw[bu,h,d6];lia
  have e:nG qs (u+1) k=qs.take k :: nG (qs.drop k) u k:=by
   unfold nG;rw[List.range_succ_eq_map,cJ,Nat.zero_mul,CU,d7];congr 1;refine ij λt _=>?_
   show (qs.drop ((t+1)*k)).take k=_
   rw[gh,d6,cM k]
  rw[e,jv,vJ hd,jZ]
theorem CJ {qs:List Rat} {u k:Nat} (h:qs.length=u*k):(∀xs∈nG qs u k,xs.length=k)/\(nG qs u k).length=u:=by
 refine ⟨λxs hx=>?_,by unfold nG;rw[ay,List.length_range]⟩;unfold nG at hx;obtain ⟨t,ht,rfl⟩:=be.mp hx;have ht:=mQ.mp ht;have:(t+1)*k<=u*k:=bY _ ht;rw[d6] at this;rw[dA,bu,h]
 lia
theorem CB {ws:List (List Nat)} {w:List Nat} {many wide:Nat} {ns:List (Int×Int)} (hn:∀n∈ns,Vn n) (e:ws=w :: ns.map bM) (l:ns.length=many*wide):Eg ws w many wide (nG (ns.map val) many wide):=by
 have l':(ns.map val).length=many*wide:=by rw[ay];exact l
 refine ⟨(CJ l').1,(CJ l').2,?_⟩;unfold gw;rw[vJ l',d7,e];congr 1;exact ij λn h=>by show _=bM (nm (val n));rw[wC (hn n h)]
theorem Af {g:LR9} {w:List Nat} (h:w∈gw g):∃n,Vn n/\w=bM n:=by
 unfold gw at h;obtain ⟨q,_,rfl⟩:=be.mp h;exact ⟨nm q,qL q,rfl⟩
theorem Fe {ws:List (List Nat)} {w:List Nat} {many wide:Nat} {g:LR9} (h:Eg ws w many wide g) (l:∀x∈ws,x.length<=1000):sG g:=λxs hx x hx'=>by
 refine sR (qL x) (l _ ?_);rw[h.2.2];refine ao _ (be.mpr ⟨x,gR.mpr ⟨xs,hx,hx'⟩,rfl⟩)
theorem yC {c:Nat} {ws:List (List Nat)} (h0:ws≠[]) (h:bU c ws=[]):ws=[[]]:=by
 match ws,h0,h with
 | [x],_,h=>rw[show x=[] from h]
 | x :: y :: r,_,h =>
  have:(x++c :: bU c (y :: r))=[]:=h;simp at this
theorem nS {l:List Nat} {ws:List (List Nat)} {ns:List (Int×Int)} (w0:ws≠[]) (w1:∀w∈ws,32∉w) (e:l=bU 32 ws) (h:Ax l ns):(ns=[]/\ws=[[]])\/ws=ns.map bM:=by
 obtain ⟨_,e2⟩:=h;by_cases z:ns=[]
 ·subst z;exact .inl ⟨rfl,yC w0 (e.symm.trans e2)⟩
 ·exact .inr (rE w0 (λy=>z (uT.mp y)) w1 (λw hw=>by obtain ⟨n,_,rfl⟩:=be.mp hw;exact tE) (e.symm.trans e2))
section
variable {ws:List (List Nat)} {mv pt lk:LR9} {n i o:Nat}
theorem iJ (h:w5 ws mv pt lk):ws.length=6+mv.length*mv.length+pt.length*mv.length+lk.length*mv.length/\ws[0]?=some (bJ mv.length)/\ws[1]?=some (bJ pt.length)/\ws[2]?=some (bJ lk.length)/\ws.drop 3=(wM :: gw mv)++(wP :: gw pt)++(wL :: gw lk):=by
 obtain ⟨D,rfl⟩:=h;refine ⟨by rw[qQ D];lia,rfl,rfl,rfl,?_⟩;unfold j5;rw[br,br,<- br (wM :: gw mv)];rfl
theorem jP {a b c:List (List Nat)} (e:ws.drop 3=a++b++c):(ws.drop 3).take a.length=a/\(ws.drop (3+a.length)).take b.length=b/\ws.drop (3+a.length+b.length)=c:=by
 have e2:ws.drop (3+a.length)=b++c:=by rw[<- gh,e,br,List.drop_left' rfl]
 exact ⟨by rw[e,br,List.take_left' rfl],by rw[e2,List.take_left' rfl],by rw[<- gh,e2,List.drop_left' rfl]⟩
theorem tu {a b c:List (List Nat)} {x y:Nat} (e1:(ws.drop 3).take x=a) (e2:(ws.drop (3+x)).take y=b) (e3:ws.drop (3+x+y)=c):ws.drop 3=a++b++c:=by
 have f2:ws.drop (3+x)=b++c:=by rw[<- e2,<- e3,<- gh (i:=y) (j:=3+x),jZ]
 rw[br,<- f2,<- e1,<- gh,jZ]
theorem Co (D:kE mv pt lk) (h0:ws[0]?=some (bJ mv.length)) (h1:ws[1]?=some (bJ pt.length)) (h2:ws[2]?=some (bJ lk.length)) (e:ws.drop 3=(wM :: gw mv)++(wP :: gw pt)++(wL :: gw lk)):w5 ws mv pt lk:=by
 refine ⟨D,?_⟩
 match ws,h0,h1,h2,e with
 | a :: b :: c :: r,h0,h1,h2,e =>
  have q0:a=bJ mv.length:=by simpa using h0
  have q1:b=bJ pt.length:=by simpa using h1
  have q2:c=bJ lk.length:=by simpa using h2
  have q3:r=(wM :: gw mv)++(wP :: gw pt)++(wL :: gw lk):=e;rw[q0,q1,q2,q3];unfold j5;simp
theorem wR {g g':LR9} {k:Nat} (h:∀xs∈g,xs.length=k) (h':∀xs∈g',xs.length=k) (l:g.length=g'.length) (e:gw g=gw g'):g=g':=by
 unfold gw at e
 have e2:g.flatten=g'.flatten:=by
  refine List.map_inj_right (f:=λq=>bM (nm q)) (λa b z=>?_) |>.mp e
  exact z7 (rn (qL a) (qL b) z)
 rw[<- rT h,<- rT h',e2,l]
theorem AS {mv' pt' lk':LR9} (h:w5 ws mv pt lk) (h':w5 ws mv' pt' lk'):mv=mv'/\pt=pt'/\lk=lk':=by
 obtain ⟨l1,a0,a1,a2,a3⟩:=iJ h;obtain ⟨l2,b0,b1,b2,b3⟩:=iJ h';rw[a0] at b0;rw[a1] at b1;rw[a2] at b2;have n0:=cI (aQ b0);have n1:=cI (aQ b1);have n2:=cI (aQ b2);obtain ⟨c1,c2,c3⟩:=jP a3;obtain ⟨d1,d2,d3⟩:=jP b3;have D:=h.1;have D':=h'.1;have w1:=cy D.mw;have w2:=cy D.pw;have w1':=cy D'.mw;have w2':=cy D'.pw;rw[ah,w1] at c1;rw[ah,w1',<- n0] at d1;rw[ah,ah,w1,w2] at c2 c3;rw[ah,ah,w1',w2',<- n0,<- n1] at d2 d3;rw[c1] at d1;rw[c2] at d2;rw[c3] at d3;exact ⟨wR D.mw (λxs hx=>by rw[D'.mw xs hx,n0]) n0 (bI d1).2,wR D.pw (λxs hx=>by rw[D'.pw xs hx,n0]) n1 (bI d2).2,wR D.lw (λxs hx=>by rw[D'.lw xs hx,n0]) n2 (bI d3).2⟩
end
theorem qD (l:List Nat) (k:Nat):lH l none (some (k:Int))=l.take k:=by
 unfold lH;rw[HT.lR];show (l.drop 0).take (min k l.length - 0)=_
 rw[CU,Nat.sub_zero];rcases Nat.le_total k l.length with h | h
 ·rw[dR h]
 ·rw[qg h,cA,ba h]
def Wd (K:FG9) (H:Hp) (w:List Nat) (x:V):Prop:=(∃n,Vn n/\w=bM n/\jM K H x n)\/(x=.non/\∀n,Vn n->w≠bM n)
section
variable {K:FG9} {H H':Hp} {ws:List (List Nat)} {w:List Nat} {ys:List V} {x:V}
theorem Wd.same (h:Wd K H w x) (s:aD H H'):Wd K H' w x:=h.imp (λ⟨n,a,b,c⟩=>⟨n,a,b,s.num c⟩) id
theorem yX (p:Paired (Wd K H) ws ys):V.non∉ys->∃ns:List (Int×Int),(∀n∈ns,Vn n)/\ws=ns.map bM/\Paired (λn x=>jM K H x n) ns ys:=by
 induction p with
 | nil=>exact λ_=>⟨[],(λn h=>nomatch h),rfl,.nil⟩
 | cons a r ih =>
  intro z;obtain ⟨ns,h1,h2,h3⟩:=ih λy=>z (ao _ y)
  rcases a with ⟨n,a1,a2,a3⟩ | ⟨e,_⟩
  ·exact ⟨n :: ns,λm hm=>(az.mp hm).elim (λe=>by rw[e];exact a1) (h1 m),by rw[cJ,a2,h2],.cons a3 h3⟩
  ·exact absurd (by rw[e];exact aE ..) z
theorem yW (p:Paired (Wd K H) ws ys):V.non∈ys->∃w∈ws,∀n,Vn n->w≠bM n:=by
 induction p with
 | nil=>exact λz=>nomatch z
 | cons a r ih =>
  intro z;rcases a with ⟨n,a1,a2,p',a3,_⟩ | ⟨_,a⟩
  ·rcases az.mp z with z | z
   ·rw[a3] at z;cases z
   ·obtain ⟨w,h1,h2⟩:=ih z;exact ⟨w,ao _ h1,h2⟩
  ·exact ⟨_,aE ..,a⟩
theorem uW (p:Paired (Wd K H) ws ys):∀v∈ys,v=.non\/∃t zs,v=V.ref t/\i8 K H t zs:=λv hv=>by
 obtain ⟨w,_,a⟩:=dk p hv;rcases a with ⟨n,_,_,t,e,q⟩ | ⟨e,_⟩
 ·exact .inr ⟨t,_,e,q⟩
 ·exact .inl e
theorem AZ {ns:List (Int×Int)} (hn:∀n∈ns,Vn n) (p:Paired (λn x=>jM K H x n) ns ys):Paired (cg K H) (ns.map val) ys:=by
 induction p with
 | nil=>exact .nil
 | cons a r ih=>exact .cons (by show jM K H _ (nm (val _));rw[wC (hn _ (aE ..))];exact a) (ih λm hm=>hn m (ao _ hm))
end
def zW (n i o:Nat) (t:Nat):List Nat×Nat:=if t=0 then (wM,n) else if t=1 then (wP,i) else (wL,o)
def xW (n i o:Nat):Nat->Nat
 | 0=>3
 | t+1=>xW n i o t+(1+(zW n i o t).2*n)
def yO (ws:List (List Nat)) (n i o t:Nat) (g:LR9):Prop:=Eg ((ws.drop (xW n i o t)).take (1+(zW n i o t).2*n)) (zW n i o t).1 (zW n i o t).2 n g
section
variable {ws:List (List Nat)} {mv pt lk:LR9} {n i o:Nat}
theorem DI (D:kE mv pt lk) (e:ws.drop 3=(wM :: gw mv)++(wP :: gw pt)++(wL :: gw lk)):yO ws mv.length pt.length lk.length 0 mv/\yO ws mv.length pt.length lk.length 1 pt/\yO ws mv.length pt.length lk.length 2 lk/\(3<=ws.length->ws.length=xW mv.length pt.length lk.length 3):=by
 obtain ⟨c1,c2,c3⟩:=jP e;have l:=congrArg List.length e;rw[bu,ai,ai,ah,ah,ah,cy D.mw,cy D.pw,cy D.lw] at l;rw[ah,cy D.mw] at c1;rw[ah,ah,cy D.mw,cy D.pw] at c2 c3;refine ⟨⟨D.mw,rfl,?_⟩,⟨D.pw,rfl,?_⟩,⟨D.lw,rfl,?_⟩,λh=>?_⟩
 ·show (ws.drop 3).take (1+mv.length*mv.length)=wM :: gw mv
  rw[cM 1];exact c1
 ·show (ws.drop (3+(1+mv.length*mv.length))).take (1+pt.length*mv.length)=wP :: gw pt
  rw[cM 1,cM 1];exact c2
 ·show (ws.drop (3+(1+mv.length*mv.length)+(1+pt.length*mv.length))).take (1+lk.length*mv.length)=wL :: gw lk
  rw[cM 1 (mv.length*mv.length),cM 1 (pt.length*mv.length),c3];exact ba (by rw[ah,cy D.lw];lia)
 ·show ws.length=3+(1+mv.length*mv.length)+(1+pt.length*mv.length)+(1+lk.length*mv.length)
  lia
theorem DS (h0:yO ws n i o 0 mv) (h1:yO ws n i o 1 pt) (h2:yO ws n i o 2 lk) (n8:n<=8) (i4:i<=4) (o4:o<=4) (l:ws.length=xW n i o 3):kE mv pt lk/\mv.length=n/\pt.length=i/\lk.length=o/\ws.drop 3=(wM :: gw mv)++(wP :: gw pt)++(wL :: gw lk):=by
 obtain ⟨a1,a2,a3⟩:=h0;obtain ⟨b1,b2,b3⟩:=h1;obtain ⟨c1,c2,c3⟩:=h2;have a2:mv.length=n:=a2;have b2:pt.length=i:=b2;have c2:lk.length=o:=c2;have l:ws.length=3+(1+n*n)+(1+i*n)+(1+o*n):=l;have c3:(ws.drop (3+(1+n*n)+(1+i*n))).take (1+o*n)=wL :: gw lk:=c3;rw[ba (by rw[bu];lia)] at c3;exact ⟨⟨by lia,by lia,by lia,λxs hx=>by rw[a2];exact a1 xs hx,λxs hx=>by rw[a2];exact b1 xs hx,λxs hx=>by rw[a2];exact c1 xs hx⟩,a2,b2,c2,tu a3 b3 c3⟩
end
theorem uL {xs:List V} {a n:Nat}:mi xs (some (a:Int)) (some ((a:Int)+(n:Int)))=(xs.drop a).take n:=by
 unfold mi;rw[show ((a:Int)+(n:Int))=((a+n:Nat):Int) by lia,HT.lR,HT.lR];rcases Nat.le_total (a+n) xs.length with h | h
 ·rw[dR h,dR (by lia),qh]
 ·rw[qg h];rcases Nat.le_total a xs.length with h2 | h2
  ·rw[dR h2,ba (by rw[bu];lia),ba (by rw[bu];lia)]
  ·rw[qg h2,Nat.sub_self,mP,qK h2,List.take_nil]
def BZ (K:FG9) (H:Hp) (l:Addr) (H':Hp) (ps:LR9) (v:V):Prop:=∃q Hq,v=V.ref q/\aD H Hq/\Hq l≠none/\Hq q=none/\c7 K Hq H' q ps
section
variable {K:FG9} {l:Addr} {H H1 H':Hp} {ps:LR9} {v:V}
theorem BZ.same (h:BZ K H l H1 ps v) (e:aD H1 H'):BZ K H l H' ps v:=by obtain ⟨q,Hq,a,b,c,d,g⟩:=h;exact ⟨q,Hq,a,b,c,d,g.same e⟩
theorem BZ.upd {xs ys:List V} (h:BZ K H l H1 ps v) (g0:H1 l=some (.lst xs)):BZ K H l (upd H1 l (.lst ys)) ps v:=by
 obtain ⟨q,Hq,a,b,x,d,us,g,r,nn⟩:=h;exact ⟨q,Hq,a,b,x,d,us,by rw[aU λz=>x (by rw[<- z];exact d)];exact g,Paired.imp' (λ_ _ ⟨u,e,n,R⟩=>⟨u,e,n,R.updL g0 λz=>x (by rw[<- z];exact n)⟩) r,nn⟩
end
theorem vM:∀{m:Nat},m<=8->(bJ m).length=1
 | 0,_ | 1,_ | 2,_ | 3,_ | 4,_ | 5,_ | 6,_ | 7,_ | 8,_=>by decide +kernel
inductive Tl (K:FG9) (C:Addr) (H H':Hp) (l:List Nat) (ws:List (List Nat)):Nat->V->Prop
 | num (n:Int×Int) (r:Addr):Vn n->l=bM n->H' r=some (.tup [.int n.1,.int n.2])->Tl K C H H' l ws 0 (.ref r)
 | row (ns:List (Int×Int)) (p:Addr):Ax l ns->lO K H' p ns->Tl K C H H' l ws 1 (.ref p)
 | sys (mv pt lk:LR9) (x:Addr):w5 ws mv pt lk->sP K H H' C x mv pt lk->Tl K C H H' l ws 2 (.ref x)
inductive D8 (l:List Nat) (ws:List (List Nat)):Nat->Prop
 | num:(∀n,Vn n->l≠bM n)->D8 l ws 0
 | row:(∀ns,¬Ax l ns)->D8 l ws 1
 | sys:(∀mv pt lk,¬w5 ws mv pt lk)->D8 l ws 2
theorem Tl.same {K:FG9} {C:Addr} {H H1 H2:Hp} {l:List Nat} {ws:List (List Nat)} {k:Nat} {v:V} (h:Tl K C H H1 l ws k v) (s:aD H1 H2):Tl K C H H2 l ws k v:=by
 cases h with
 | num n r a b c=>exact .num n r a b (s _ _ c)
 | row ns p a b=>exact .row ns p a (b.same s)
 | sys mv pt lk x a b=>exact .sys mv pt lk x a (b.same s)
inductive zi (K:FG9) (C:Addr) (fs:List Addr) (vs:List V) (H:Hp) (Q:VK) (E9:XK):Prop
 | mk (k:Nat) (f:Addr) (l:List Nat) (ws:List (List Nat)):vs=[.ref f,.str (sl l)]->k < 3->fs[k]?=some f->l.length<=1000->ws≠[]->(∀w∈ws,32∉w)->l=bU 32 ws->(∀v r H',Tl K C H H' l ws k v->aD H H'->H' r=some (.tup [.str "told",v])->Q (.ref r) H')->(D8 l ws k->∀r H',aD H H'->H' r=some (.tup [.str "refused",.non])->Q (.ref r) H')->zi K C fs vs H Q E9
end L2
namespace L2
theorem nU {L:List (PySem.Addr×Sp)} {te:TE} {E:St->XK} {t:TA} {σ:St} {H:Hp} {Q:VK} (h:te σ H λv H1=>∃f sp,v=.ref f/\(f,sp)∈L/\t σ H1 λvs H2=>sp vs H2 Q (E σ)):y9 L te E t σ H Q:=h
end L2
namespace L2
open PySem PySem.Spec PySem.NumText PyProof.Rows Nm
inductive Du (K:FG9) (H H':Hp) (l:List Nat) (ws:List (List Nat)):Nat->V->Prop
 | num (n:Int×Int) (r:Addr):Vn n->l=bM n->H' r=some (.tup [.int n.1,.int n.2])->Du K H H' l ws 0 (.ref r)
 | row (ns:List (Int×Int)) (p:Addr):Ax l ns->lO K H' p ns->Du K H H' l ws 1 (.ref p)
 | sys (mv pt lk:LR9) (x:Addr):w5 ws mv pt lk->iu K H H' x mv pt lk->Du K H H' l ws 2 (.ref x)
 | non {k:Nat}:D8 l ws k->Du K H H' l ws k .non
section
variable {K:FG9} {C:Addr} {H H' H1 H2:Hp} {l:List Nat} {ws:List (List Nat)} {k:Nat} {v:V} {mv pt lk:LR9}
theorem Du.same (h:Du K H H1 l ws k v) (s:aD H1 H2):Du K H H2 l ws k v:=by
 cases h with
 | num n r a b c=>exact .num n r a b (s _ _ c)
 | row ns p a b=>exact .row ns p a (b.same s)
 | sys mv pt lk x a b=>exact .sys mv pt lk x a (b.same s)
 | non a=>exact .non a
theorem D8.not (h:D8 l ws k) (t:Tl K C H H' l ws k v):False:=by
 cases t with
 | num n r a b c=>cases h with | num z=>exact z n a b
 | row ns p a b=>cases h with | row z=>exact z ns a
 | sys mv pt lk x a b=>cases h with | sys z=>exact z mv pt lk a
theorem tI {c:Nat}:∀{ws:List (List Nat)},(∀w∈ws,w≠[])->2*ws.length<=(bU c ws).length+1
 | [],_=>by simp
 | [a],h=>by
  have:=uU.mpr (h a (aE ..));simp only[bU,ah,fv]
  lia
 | a :: b :: r,h=>by
  have:=uU.mpr (h a (aE ..));have:=tI (c:=c) (ws:=b :: r) λw hw=>h w (ao _ hw)
  simp only[bU,ah,ai] at this ⊢
  lia
theorem EH {ns:List (Int×Int)} (h:Ax l ns) (hl:l.length<=1000):ns.length<=1000/\∀n∈ns,ja n:=by
 refine ⟨?_,λn hn=>sR (h.1 n hn) (ar (iV (c:=32) (List.mem_map_of_mem hn)) (by rw[<- h.2];exact hl))⟩;have:=jQ (c:=32) (ws:=ns.map bM);rw[ay,<- h.2] at this;rcases md l.length 1000 with q | q
 ·lia
 ·refine Nat.le_of_not_lt λz=>?_
  have:=tI (c:=32) (ws:=ns.map bM) (λw hw=>by obtain ⟨n,_,rfl⟩:=be.mp hw;exact xA n);rw[ay,<- h.2] at this
  lia
theorem tD:∀{ns ns':List (Int×Int)},(∀n∈ns,Vn n)->(∀n∈ns',Vn n)->ns.map bM=ns'.map bM->ns=ns'
 | [],[],_,_,_=>rfl
 | a :: r,b :: r',h,h',e=>by
  obtain ⟨e1,e2⟩:=bI e;rw[rn (h a (aE ..)) (h' b (aE ..)) e1,tD (λn hn=>h n (ao _ hn)) (λn hn=>h' n (ao _ hn)) e2]
theorem AX {ns ns':List (Int×Int)} (h:Ax l ns) (h':Ax l ns'):ns=ns':=by
 obtain ⟨ws,w0,w1,ew,_⟩:=nM l 32
 have no:∀{ns:List (Int×Int)},([[]]:List (List Nat))≠ns.map bM:=λ{ns} z=>by
  have:[]∈ns.map bM:=by rw[<- z];exact aE ..
  obtain ⟨n,_,e⟩:=be.mp this;exact xA n e
 rcases nS w0 w1 ew h with ⟨a,b⟩ | a <;> rcases nS w0 w1 ew h' with ⟨a',b'⟩ | a'
 ·rw[a,a']
 ·exact absurd (b.symm.trans a') no
 ·exact absurd (b'.symm.trans a) no
 ·exact tD h.1 h'.1 (a.symm.trans a')
theorem zO {K:FG9} {p:Addr} {xs:List V} {k:Nat} {H:Hp} {Q:VK} (hx:bD K H p xs) (h:∃v,xs[k]?=some v/\Q v H):Bp K (.ref p) (.int (k:Nat)) H Q:=by
 obtain ⟨v,e,h⟩:=h;exact cF hx (c6 e) h
theorem ED (h:w5 ws mv pt lk) (wl:∀w∈ws,w.length<=1000):sG mv/\sG pt/\sG lk:=by
 have e:=(iJ h).2.2.2.2;have g:∀g:LR9,(∀w∈gw g,w∈ws.drop 3)->sG g:=λg hg xs hx x hx'=>sR (qL x) (wl _ (fZ (hg _ (be.mpr ⟨x,gR.mpr ⟨xs,hx,hx'⟩,rfl⟩))))
 refine ⟨g mv λw hw=>?_,g pt λw hw=>?_,g lk λw hw=>?_⟩
 all_goals rw[e];simp only[aO,az]
 ·exact .inl (.inl (.inr hw))
 ·exact .inl (.inr (.inr hw))
 ·exact .inr (.inr hw)
theorem D1 {fw fl fp:Addr} {t:TA} {E:XK} {σ:St} {Q:VK} (k3:k < 3) (hl:l.length<=1000) (w0:ws≠[]) (w1:∀w∈ws,32∉w) (ew:l=bU 32 ws)
  (ht:∀F:List V->Hp->Prop,F [.str (sl l)] H->t σ H F) (hQ:∀v H1,aD H H1->Du K H H1 l ws k v->Q v H1) :
  ∃v,[V.ref fw,V.ref fl,V.ref fp][k]?=some v/\∃f sp,v=V.ref f/\(f,sp)∈[(fw,t8),(fl,uc K),(fp,t9 K)]/\t σ H λvs H2=>sp vs H2 Q E:=by
 rcases (show k=0\/k=1\/k=2 by lia) with rfl | rfl | rfl
 ·exact ⟨_,rfl,_,_,rfl,aE ..,ht _ ⟨l,rfl,hl,λn a b r H1 s1 g=>hQ _ _ s1 (.num n r a b g),λz H1 s1=>hQ _ _ s1 (.non (.num z))⟩⟩
 ·exact ⟨_,rfl,_,_,rfl,ao _ (aE ..),ht _ ⟨l,rfl,hl,λns a p H1 _ s1 g=>hQ _ _ s1 (.row ns p a g),λz H1 s1=>hQ _ _ s1 (.non (.row z))⟩⟩
 ·exact ⟨_,rfl,_,_,rfl,ao _ (ao _ (aE ..)),ht _ ⟨l,ws,rfl,hl,w0,w1,ew,λmv pt lk a r H1 s1 g=>hQ _ _ s1 (.sys mv pt lk r a g),λz H1 s1=>hQ _ _ s1 (.non (.sys z))⟩⟩
inductive zy (K:FG9) (C:Addr) (vs:List V) (H:Hp) (Q:VK) (E9:XK):Prop
 | mk (x r:Addr) (H0 H1:Hp) (mv pt lk:LR9):vs=[.ref x,.ref r]->sP K H0 H C x mv pt lk->iu K H1 H r mv pt lk->kE mv pt lk->sG mv/\sG pt/\sG lk->(∀H',aD H H'->Q (.bl true) H')->zy K C vs H Q E9
end
inductive zE (K:FG9) (vs:List V) (H:Hp) (Q:VK) (E9:XK):Prop
 | mk (b:Addr):vs=[.ref b]->fU H b->(∀r n H',ja n->(bM n).length<=60->jM K H' (.ref r) n->fU H' b->bW b H H'->Q (.ref r) H')->zE K vs H Q E9
theorem rk {n:Int×Int} {a b:Nat} (h1:n.1.natAbs < 10^(a+1)) (h2:n.2.natAbs < 10^(b+1)):(bM n).length<=a+b+4:=by
 have l1:=jR a _ h1;have l2:=jR b _ h2
 have:(dn n.1).length<=a+2:=by
  unfold dn
  split
  ·rw[ah];lia
  ·lia
 unfold bM;rw[ai]
 split
 ·rw[fv];lia
 ·rw[ah];lia
theorem tJ {c m:Nat}:∀{ws:List (List Nat)},(∀w∈ws,w.length<=m)->(bU c ws).length<=(m+1)*ws.length
 | [],_=>by simp [bU]
 | [a],h=>by
  have:=h a (aE ..);simp only[bU,ah,fv]
  lia
 | a :: b :: r,h=>by
  have:=h a (aE ..);have:=tJ (c:=c) (ws:=b :: r) λw hw=>h w (ao _ hw)
  simp only[bU,ah,ai] at this ⊢;rw[Nat.mul_add (m+1) (r.length+1) 1]
  lia
theorem Ap {x:Rat} (h:Dr 1000 x):(bM (nm x)).length<=60:=by
 have:=rk (n:=nm x) (a:=3) (b:=3) (a7 h.1 (by decide)) (by
  show ((x.den:Nat):Int).natAbs < _
  rw[bZ];exact a7 h.2 (by decide))
 lia
theorem Al {x:Rat} (h:Fr 2520 6561 x):(bM (nm x)).length<=18:=by
 have hd:x.den<=2520/\x.num.natAbs<=6561*2520:=by
  exact ⟨h.den_le (by decide),h.num_le (by decide)⟩
 have:=rk (n:=nm x) (a:=8) (b:=3) (a7 hd.2 (by decide)) (by
  show ((x.den:Nat):Int).natAbs < _
  rw[bZ];exact a7 hd.1 (by decide))
 lia
theorem rG {M V:Nat} {g:LR9} (h:GF 2520 6561 g):∀w∈gw g,w.length<=18:=λw hw=>by
 obtain ⟨x,hx,rfl⟩:=be.mp hw;obtain ⟨xs,hxs,hx'⟩:=gR.mp hx;exact Al (h xs hxs x hx')
theorem yk {mv pt lk:LR9} (D:kE mv pt lk) (n3:mv.length<=3) (i2:pt.length<=2) (o2:lk.length<=2) (h1:GF 2520 6561 mv) (h2:GF 2520 6561 pt) (h3:GF 2520 6561 lk):(bU 32 (j5 mv pt lk)).length<=600:=by
 have hw:∀w∈j5 mv pt lk,w.length<=18:=λw hw=>by
  unfold j5 at hw;simp only[aO,az,bg,or_false] at hw;have d:∀m:Nat,m<=8->(bJ m).length<=18:=λm hm=>by rw[vM hm];decide
  have:=D.n8;have:=D.i4;have:=D.o4;rcases hw with ((((rfl | rfl | rfl)) | rfl | h) | rfl | h) | rfl | h
  ·exact d _ (by lia)
  ·exact d _ (by lia)
  ·exact d _ (by lia)
  ·decide
  ·exact rG (M:=0) (V:=0) h1 w h
  ·decide
  ·exact rG (M:=0) (V:=0) h2 w h
  ·decide
  ·exact rG (M:=0) (V:=0) h3 w h
 have:=tJ (c:=32) hw
 have ll:(j5 mv pt lk).length<=27:=by
  unfold j5;simp only[ai,ah,fv];rw[cy D.mw,cy D.pw,cy D.lw];have a:=gU (a:=mv.length) (b:=mv.length) n3 n3;have b:=gU (a:=pt.length) (b:=mv.length) i2 n3;have c:=gU (a:=lk.length) (b:=mv.length) o2 n3
  lia
 lia
theorem zN {x:Str} {v:Int} {H:Hp} {Q:VK} (v0:0<=v) (v1:v < (x.length:Nat)) (hl:x.length<=sizeLine) (h:∀c,Q (.str (sl [c])) H):EW (.str x) (.int v) H Q:=by
 obtain ⟨c,e,_,_⟩:=lL (xs:=x.cps.toList) v0 (by rw[Array.length_toList];exact v1);exact ⟨x,v,c,rfl,rfl,hl,e,h c⟩
theorem oU {l:List Nat} {lo hi:Option Int} {H:Hp} {Q:VK} (hl:l.length<=10000) {m:List Nat} (e:lH l lo hi=m) (h:Q (.str (sl m)) H):ET (.str (sl l)) lo hi H Q:=⟨l,rfl,hl,by rw[e];exact h⟩
theorem o8 {K:FG9} {H H':Hp} {b:Addr} {x:V} {n:Int×Int} (h:jM K H x n) (u:bW b H H') (B:fU H b):jM K H' x n:=by obtain ⟨p,e,s⟩:=h;exact ⟨p,e,u.sqt B s⟩
theorem yr {K:FG9} {H H':Hp} {b p:Addr} {ns:List (Int×Int)} (h:lO K H p ns) (u:bW b H H') (B:fU H b) (n:p≠b):lO K H' p ns:=by obtain ⟨xs,g,r⟩:=h;exact ⟨xs,u.other n g,Paired.imp' (λ_ _ z=>o8 z u B) r⟩
theorem Ag {g:LR9} (h:GF 2520 6561 g):sG g:=λxs hx x hx'=>sR (qL x) (ar (Al (h xs hx x hx')) (by decide))
theorem EZ {n i o c:Nat} {mv pt lk:LR9} (h:PtF n i o 4 c mv pt lk):GF 2520 6561 mv/\GF 2520 6561 pt/\GF 2520 6561 lk:=by
 obtain ⟨M,V1,_,a,b,c,⟨_,rfl,rfl⟩ | ⟨z,_⟩⟩:=h
 ·exact ⟨a,b,c⟩
 ·lia
end L2
open L2
local macro_rules | `(tactic| walk_at "hl") => `(tactic| first | (show _ ≤ sizeLine; with_unfolding_all decide) | (with_unfolding_all exact (by decide)))
local macro_rules | `(tactic| walk_at "sq") => `(tactic| first | with_reducible assumption | with_reducible exact i8.of (by assumption) | with_reducible exact bD.of (by assumption) | with_reducible exact i8.of aA | with_reducible exact bD.of aA | assumption)
local macro_rules | `(tactic| walk_at "sc") => `(tactic| first | (with_reducible show (0 : Int) < _; decide) | with_reducible exact xT (by decide) (by decide) | with_reducible exact fQ (by decide) (by decide) | with_reducible exact cpow_of (by decide) (by decide) (by decide))
local macro_rules | `(tactic| walk_at "rd") => `(tactic| first
  | with_reducible refine Di ?_
  | with_reducible refine A5 ?_
  | with_reducible refine DC ?_
  | with_reducible refine zS ?_
  | ((with_reducible refine' Dd ?hx1 ?_); (case hx1 => with_unfolding_all rfl))
  | with_reducible refine FD ?_
  | with_reducible refine EN ?_
  | with_reducible refine ES ?_
  | with_reducible refine EJ ?_
  | with_reducible refine FE ?_
  | with_reducible refine DA ?_
  | with_reducible refine Dq ?_
  | with_reducible refine Dz ?_
  | with_reducible refine Dp ?_
  | with_reducible refine rd_eqB ?_
  | with_reducible refine rd_neB ?_
  | with_reducible refine rd_iZip ?_
  | with_reducible refine rd_listZip ?_
  | with_reducible refine Dy ?_
  | with_reducible refine A2 ?_
  | with_reducible refine rd_meth ?_
  | with_reducible refine A6 ?_
  | with_reducible refine zR ?_
  | with_reducible refine A1 ?_
  | with_reducible refine EK ?_
  | with_reducible refine Dj ?_
  | with_reducible refine rd_retN ?_
  | with_reducible refine Dw ?_
  | with_reducible refine DD ?_
  | with_reducible refine EM ?_
  | with_reducible refine Dm ?_
  | with_reducible refine Bl ?_
  | with_reducible refine Dl ?_
  | with_reducible refine A4 ?_
  | with_reducible refine rd_ifE ?_
  | with_reducible refine Dc ?_
  | with_reducible refine BJ ?_
  | with_reducible refine E6 ?_
  | with_reducible refine E7 ?_
  | with_reducible refine E8 ?_
  | with_reducible refine EI ?_
  | with_reducible refine Dn ?_
  | with_reducible refine Bg ?_
  | with_reducible refine De ?_
  | with_reducible refine Ds ?_
  | with_reducible refine Bi ?_
  | with_reducible refine EO ?_
  | with_reducible refine Bf ?_
  | with_reducible refine Dk ?_
  | with_reducible refine Bj ?_
  | ((with_reducible refine' rd_aug ?hx1 ?_); (case hx1 => with_unfolding_all rfl))
  | with_reducible refine Dv ?_
  | with_reducible refine A9 ?_
  | with_reducible refine zT ?_
  | with_reducible refine Bc ?_
  | with_reducible refine EL ?_
  | with_reducible refine yt ?_
  | with_reducible refine A3 ?_
  | with_reducible refine Dx ?_
  | with_reducible refine zQ ?_
  | with_reducible refine A7 ?_
  | with_reducible refine zP ?_
  | with_reducible refine rd_iRng2 ?_
  | ((with_reducible refine' Bh ?hx1 ?_); (case hx1 => with_unfolding_all rfl))
  | with_reducible refine A0 ?_
  | with_reducible refine ER ?_
  | with_reducible refine rd_bm0 ?_
  | with_reducible refine rd_brk ?_
  | ((with_reducible refine' A8 ?hx1 ?hx2 ?_); (case hx1 => walk_at "sq"); (case hx2 => with_unfolding_all rfl))
  | with_reducible refine rd_cont ?_
  | ((with_reducible refine' gD ?hx1 ?_); (case hx1 => walk_at "sc"))
  | ((with_reducible refine' Dt ?hx1 ?hx2 ?_); (case hx1 => walk_at "sq"); (case hx2 => with_unfolding_all rfl))
  | ((with_reducible refine' cF ?hx1 ?hx2 ?_); (case hx1 => walk_at "sq"); (case hx2 => with_unfolding_all rfl))
  | ((with_reducible refine' Be ?hx1 ?hx2 ?_); (case hx1 => walk_at "sq"); (case hx2 => with_unfolding_all rfl))
  | ((with_reducible refine' eZ ?hx1 ?hx2 ?hx3 ?_); (case hx1 => with_reducible first | assumption | exact aA); (case hx2 => with_unfolding_all rfl); (case hx3 => with_unfolding_all rfl))
  | with_reducible refine ⟨_, rfl, ?_⟩
  | with_reducible refine ⟨_, _, rfl, ?_⟩)
local macro_rules | `(tactic| walk_at "w") => `(tactic| repeat walk_at "rd")
local macro_rules | `(tactic| walk_at "d") => `(tactic| exact ⟨rfl,rfl,rfl,by decide +kernel,rfl,by decide +kernel,by decide +kernel⟩)
namespace Lw
open PySem PySem.Spec PyProof.Rows L2 Nm
local macro_rules | `(tactic| exists $e) => `(tactic| (walk_at "w";refine $e))
set_option maxHeartbeats 4000000
def top (i:Nat):Stmt:=PySem.Challenge.pw_helmsum_k02_whole_texts_otherwise.main.body.getD i (.Pass ⟨0,0,0,0⟩)
abbrev m7:Stmt:=top 39
abbrev kQ:Stmt:=top 40
abbrev m6:Stmt:=top 41
abbrev jB:Stmt:=top 44
abbrev m9:Stmt:=top 67
abbrev mZ:Stmt:=top 45
abbrev kU:Stmt:=top 48
abbrev mY:Stmt:=top 42
abbrev kT:Stmt:=top 46
abbrev kS:Stmt:=top 43
abbrev oS:Stmt:=top 47
abbrev kb:Stmt:=top 49
abbrev ka:Stmt:=top 50
abbrev fk:Stmt:=top 55
abbrev ik:Stmt:=top 56
abbrev fj:Stmt:=top 57
abbrev j8:Stmt:=top 31
abbrev mV:Stmt:=top 32
abbrev gi:Stmt:=top 15
abbrev jz:Stmt:=top 33
abbrev mU:Stmt:=top 30
abbrev mW:Stmt:=top 34
abbrev kL:Stmt:=top 35
abbrev zI:Stmt:=top 20
abbrev kM:Stmt:=top 36
abbrev kK:Stmt:=top 25
abbrev mX:Stmt:=top 14
abbrev kN:Stmt:=top 16
abbrev qY:Stmt:=top 18
abbrev jA:Stmt:=top 26
abbrev cK:Stmt:=inClass (top 27) 0
abbrev jy:Stmt:=top 37
abbrev kP:Stmt:=top 63
abbrev gv:Stmt:=top 51
abbrev jC:Stmt:=top 52
abbrev iM:Stmt:=top 53
abbrev jD:Stmt:=top 54
abbrev iN:Stmt:=top 58
abbrev kO:Stmt:=top 59
abbrev kW:Stmt:=top 60
abbrev kd:Stmt:=top 61
abbrev il:Stmt:=top 62
abbrev j9:Stmt:=top 64
abbrev kR:Stmt:=top 65
abbrev gn:Stmt:=top 66
abbrev zH:Stmt:=top 68
set_option genInjectivity false in
set_option genSizeOf false in
structure Ads where
 sv:Addr
 rR:FuncData
 p6:Addr
 pS:FuncData
 su:Addr
 rQ:FuncData
 mH:Addr
 mD:FuncData
 sD:Addr
 rS:FuncData
 sq:Addr
 rP:FuncData
 qd:Addr
 pW:FuncData
 so:Addr
 rO:FuncData
 p9:Addr
 pV:FuncData
 p8:Addr
 pU:FuncData
 tW:Addr
 tN:FuncData
 oF:Addr
 oy:FuncData
 oE:Addr
 ow:FuncData
 i5:Addr
 iY:FuncData
 kz:Addr
 kx:FuncData
 iZ:Addr
 iX:FuncData
 oB:Addr
 oq:FuncData
 r8:Addr
 rL:FuncData
 jV:Addr
 jS:FuncData
 dO:Addr
 mB:FuncData
 rZ:Addr
 rK:FuncData
 gI:Addr
 rM:FuncData
 p0:Addr
 pN:FuncData
 CL:Addr
 CI:FuncData
 p3:Addr
 pO:FuncData
 pZ:Addr
 pM:FuncData
 sk:Addr
 rN:FuncData
 p4:Addr
 pP:FuncData
 vU:Addr
 vN:FuncData
 mG:Addr
 mC:FuncData
 fR:Addr
 fP:FuncData
 dN:Addr
 my:FuncData
 p5:Addr
 pR:FuncData
 jX:Addr
 jU:FuncData
 mI:Addr
 mE:FuncData
 lM:Addr
 lD:FuncData
 mJ:Addr
 mF:FuncData
 lN:Addr
 lE:FuncData
 jr:Addr
 pQ:FuncData
 js:Addr
 pX:FuncData
 oG:Addr
 oz:FuncData
 ff:Addr
 ky:FuncData
 oC:Addr
 ou:FuncData
 p7:Addr
 pT:FuncData
 jW:Addr
 jT:FuncData
 CK:Addr
 CH:FuncData
 t_MOST_STATES:Tok
 t_MOST_PUTS:Tok
 t_MOST_LOOKS:Tok
 t_FIGURES:Tok
 a_System:Addr
 a_SumError:Addr
 a_Wrong:Addr
 a_NoThing:Addr
 a_TooMany:Addr
 a_NoNumber:Addr
 a_NoFit:Addr
 a_NotSteered:Addr
 a_NotSeen:Addr
 a_NoText:Addr
 a_NoName:Addr
 a_Taken:Addr
structure Txt (K:W.Frag) (mg:Str->Option Value) (Z:Ads):Prop where
 lh:Df K mg "_law_bag" m7 ["_law_script"] Z.sv Z.rR
 aM:Df K mg "_law_take" kQ ["_law_bag_here","_law_many"] Z.p6 Z.pS
 di:Df K mg "_law_low" m6 ["_law_top","_law_bottom"] Z.su Z.rQ
 fL:Df K mg "_law_number" jB ["_law_bag_here","_law_wide"] Z.mH Z.mD
 jn:Df K mg "_law_any" m9 ["_law_bag_here"] Z.sD Z.rS
 gY:Df K mg "_law_row" mZ ["_law_bag_here","_law_many","_law_wide"] Z.sq Z.rP
 kr:Df K mg "_law_move" kU ["_law_bag_here","_law_n","_law_way","_law_first","_law_wide"] Z.qd Z.pW
 gX:Df K mg "_law_sum" mY ["_law_one","_law_other"] Z.so Z.rO
 kq:Df K mg "_law_plus" kT ["_law_one","_law_other"] Z.p9 Z.pV
 fJ:Df K mg "_law_prod" kS ["_law_one","_law_other"] Z.p8 Z.pU
 nu:Df K mg "_law_by" oS ["_law_factor","_law_row_here"] Z.tW Z.tN
 jH:Df K mg "_law_mixed" kb ["_law_bag_here","_law_move_here","_law_put","_law_look"] Z.oF Z.oy
 jG:Df K mg "_law_parts" ka ["_law_bag_here","_law_n","_law_ins","_law_outs","_law_wide"] Z.oE Z.ow
 cm:Df K mg "_law_number_text" fk ["_law_one"] Z.i5 Z.iY
 gF:Df K mg "_law_row_text" ik ["_law_row_here"] Z.kz Z.kx
 eT:Df K mg "_law_system_text" fj ["_law_parts_here"] Z.iZ Z.iX
 bF:Df K mg "read_whole" j8 ["text"] Z.oB Z.oq
 gV:Df K mg "read_top" mV ["text"] Z.r8 Z.rL
 dY:Df K mg "common_divisor" gi ["one","other"] Z.jV Z.jS
 bP:Df K mg "read_number" jz ["text"] Z.dO Z.mB
 jl:Df K mg "words_in" mU ["text"] Z.rZ Z.rK
 gW:Df K mg "read_row" mW ["text"] Z.gI Z.rM
 b9:Df K mg "read_size" kL ["word","most"] Z.p0 Z.pN
 wF:Df K mg "cut" zI ["row","many","wide"] Z.CL Z.CI
 cb:Df K mg "read_rows" kM ["words","name","many","wide"] Z.p3 Z.pO
 fI:Df K mg "want_list" kK ["thing","at","most"] Z.pZ Z.pM
 jm:Df K mg "is_whole" mX ["thing"] Z.sk Z.rN
 km:Df K mg "is_number" kN ["thing"] Z.p4 Z.pP
 pd:Df K mg "is_row" qY ["thing","many"] Z.vU Z.vN
 eE:Df K mg "copied_rows" jA ["things","wide"] Z.mG Z.mC
 jq:Binds K Z.fP ["self","move","put","look"] []
 ju:Ay K "__init__" "System.__init__" cK Z.fR Z.fP
 eD:Df K mg "read_system" jy ["text"] Z.dN Z.my
 ko:Df K mg "_law_told" kP ["_law_reader","_law_text"] Z.p5 Z.pR
 dZ:Df K mg "_law_is_number" gv ["_law_thing"] Z.jX Z.jU
 fN:Df K mg "_law_is_row" jC ["_law_thing","_law_many"] Z.mI Z.mE
 dI:Df K mg "_law_is_grid" iM ["_law_thing","_law_many","_law_wide"] Z.lM Z.lD
 iU:Df K mg "_law_fields" jD ["_law_system","_law_parts_here"] Z.mJ Z.mF
 dJ:Df K mg "_law_figures" iN ["_law_word_here"] Z.lN Z.lE
 dF:Df K mg "_law_word" kO ["_law_text"] Z.jr Z.pQ
 fM:Df K mg "_law_line" kW ["_law_text"] Z.js Z.pX
 jI:Df K mg "_law_grids" kd ["_law_words","_law_n","_law_ins","_law_outs"] Z.oG Z.oz
 dy:Df K mg "_law_parts_of" il ["_law_text"] Z.ff Z.ky
 gN:Df K mg "_law_right" j9 ["_law_k","_law_text"] Z.oC Z.ou
 iE:Df K mg "_law_sign" kR ["_law_bag_here"] Z.p7 Z.pT
 fK:Df K mg "_law_otherwise" gn ["_law_bag_here","_law_text"] Z.jW Z.jT
 CO:Ay K "law" "law" zH Z.CK Z.CH
 abs:mg "abs"=none
 len:mg "len"=none
 int:mg "int"=none
 str:mg "str"=none
 range:mg "range"=none
 all:mg "all"=none
 isinstance:mg "isinstance"=none
 list:mg "list"=none
 bool:mg "bool"=none
 tuple:mg "tuple"=none
 enumerate:mg "enumerate"=none
 ValueError:mg "ValueError"=none
 any:mg "any"=none
 mg_MOST_STATES:mg "MOST_STATES"=some (.int 8 Z.t_MOST_STATES)
 mg_MOST_PUTS:mg "MOST_PUTS"=some (.int 4 Z.t_MOST_PUTS)
 mg_MOST_LOOKS:mg "MOST_LOOKS"=some (.int 4 Z.t_MOST_LOOKS)
 mg_FIGURES:mg "FIGURES"=some (.str (Str.ofString "0123456789") Z.t_FIGURES)
 mg_System:mg "System"=some (.ref Z.a_System)
 cl_System:AD K Z.a_System
 na_move:fS K Z.a_System "move"
 na_states:fS K Z.a_System "states"
 na_put:fS K Z.a_System "put"
 na_ins:fS K Z.a_System "ins"
 na_look:fS K Z.a_System "look"
 na_outs:fS K Z.a_System "outs"
 mk_System:Mk K Z.a_System Z.fR
 mg_SumError:mg "SumError"=some (.ref Z.a_SumError)
 mg_Wrong:mg "Wrong"=some (.ref Z.a_Wrong)
 mg_NoThing:mg "NoThing"=some (.ref Z.a_NoThing)
 mg_TooMany:mg "TooMany"=some (.ref Z.a_TooMany)
 mg_NoNumber:mg "NoNumber"=some (.ref Z.a_NoNumber)
 mg_NoFit:mg "NoFit"=some (.ref Z.a_NoFit)
 mg_NotSteered:mg "NotSteered"=some (.ref Z.a_NotSteered)
 mg_NotSeen:mg "NotSeen"=some (.ref Z.a_NotSeen)
 mg_NoText:mg "NoText"=some (.ref Z.a_NoText)
 mg_NoName:mg "NoName"=some (.ref Z.a_NoName)
 mg_Taken:mg "Taken"=some (.ref Z.a_Taken)
 ex_NoText:W.excIn K Z.a_NoText yZ "ValueError.__new__"=true
 xm_NoText_SumError:W.exmOne K (.ref Z.a_NoText) (.ref Z.a_SumError)=some true
 ki_NoText_NoText:W.kitOne K (.ref Z.a_NoText) (.ref Z.a_NoText)=some true
 ki_NoText_ValueError:W.kitOne K (.ref Z.a_NoText) (.type "ValueError")=some true
 ka_NoText_0:W.kitAny K (.ref Z.a_NoText) [.ref Z.a_NoFit,.ref Z.a_NoName,.ref Z.a_NoNumber,.ref Z.a_NoThing,.ref Z.a_NotSeen,.ref Z.a_NotSteered,.ref Z.a_Taken,.ref Z.a_TooMany,.ref Z.a_Wrong]=some false
 xc_NoText:Eh K Z.a_NoText
 ty_System:(∀{H:Hp} {a dx:Addr} {fs:List (Str×V)},H a=some (.ins Z.a_System dx fs)->nI K H (.ref a) (.ref Z.a_System))/\W.kitOne K (.ref Z.a_System) (.ref Z.a_System)=some true
section
variable {P:Program} {w:World} {K:W.Frag} {mg:Str->Option Value} {base:Heap} {Z:Ads}
theorem vm:a8 ["_law_script"] ["_law_script"] (aI m7):=by walk_at "d"
theorem vD (T:Txt K mg Z):ck P w K mg base jb 1 Z.sv Z.rR ["_law_script"] (zC K):=by
 refine T.lh.F.ok vm (λvs H Q E h=>?_) (λcdv A outer s H vs Q E hr h=>?_)
 ·obtain ⟨a,ns,rfl,_⟩:=h;rfl
 ·obtain ⟨a,ns,rfl,hS,hlen,k⟩:=h;refine ⟨_,(ak (aL (c9 (aa af (aa af (aa af (aa (du ["_law_cell"] [] [] (cL (cu je (pv 0) fc (b6 af))) (λ_=>(a6 (i:=0) (show ND9 ["_law_cell"] by decide +kernel))) (λ_=>c8) (λ_=>(a5 rX (by rfl) T.abs PyProof.Rows.boot_abs (aa (pv 0) ae)))) ae))))))),?_⟩;refine aV (σ:=[some (.ref a)]) rfl ?_;exists ⟨a,_,rfl,hS,λl hl=>?_⟩;have hcl:(mi (ns.map V.int) none (some 63)).length<=63:=ar (pY _ _ _) (by simpa using hlen);refine ⟨l,rfl,⟨_,bD.of aA⟩,?_⟩;refine de (K:=K) (a:=l) (xs:=mi (ns.map V.int) none (some 63)) (λi ys H'=>H'=upd H l (.lst (mi (ns.map V.int) none (some 63)))/\∃cs:List Int,ys=cs.map V.int/\∀x∈cs,0<=x) (ar hcl (by decide)) ⟨rfl,[],rfl,λ_ z=>nomatch z⟩ (λi ys H' _ ⟨e,_⟩=>by subst e;exact bD.of aA) ?_ ?_
  ·rintro i x ys H' hx hi ⟨rfl,cs,rfl,hcs⟩
   obtain ⟨z,rfl⟩:∃z,x=V.int z:=by
    have hm:x∈ns.map V.int:=fZ (tY (au hx));obtain ⟨z,_,e⟩:=be.mp hm;exact ⟨z,e.symm⟩
   exists ⟨rfl,cs++[if z < 0 then -z else z],by simp,λx hx=>?_⟩;rcases aO.mp hx with hx | hx
   ·exact hcs x hx
   ·have e:x=if z < 0 then -z else z:=by simpa using hx
    subst e
    split <;> lia
  ·rintro ys H' hy ⟨rfl,cs,rfl,hcs⟩ p hp;exists ⟨by show 4<=sizeLine;decide,λb hb=>?_⟩;have n1:b≠p:=λz=>by rw[z,aA] at hb;cases hb
   have hb1:(upd H l (.lst (mi (ns.map V.int) none (some 63)))) b=none:=by rw[aU n1] at hb;exact hb
   have s1:aD H (upd H l (.lst (mi (ns.map V.int) none (some 63)))):=aD.new hl;refine k b _ (s1.free hb1) ⟨p,0,1234567891,0,cs,aA,by rw[aU n1.symm];exact aA,by decide,by decide,by lia,hcs⟩ ((s1.trans (aD.new hp)).trans (aD.new hb))
theorem dE:a8 ["_law_bag_here","_law_many","_law_more","_law_cell","_law_value","_law_first","_law_second"] ["_law_bag_here","_law_many"] (aI kQ):=by walk_at "d"
theorem aS (T:Txt K mg Z):ck P w K mg base jb 1 Z.p6 Z.pS ["_law_bag_here","_law_many"] AU:=by
 refine T.aM.F.ok dE (λvs H Q E h=>?_) (λcdv A outer s H vs Q E hr h=>?_)
 ·obtain ⟨p,n,rfl,_⟩:=h;rfl
 ·obtain ⟨p,n,rfl,⟨q,a,b,c,cs,hp,hq,ha,hc,hcl,hcs⟩,hn,hn2,k⟩:=h;have nqp:q≠p:=yM hp hq
  refine ⟨_,(eJ (bh (aB cH (a9 bc (pv 0) af) af (aJ _)) (ag (aY (i:=2) dE.nd rfl (Or.inl rfl) af)
   (eJ (bh (aB kv (a9 bc (pv 0) af) (a5 aW (by rfl) T.len aH (aa (a9 bc (pv 0) af) ae)) (aJ _)) (ag (aY (i:=3) dE.nd rfl (Or.inl rfl) (a9 bc (a9 bc (pv 0) af) (a9 bc (pv 0) af)))
   (ag (Br (pv 0) af Ah af DZ set_list)
   (ag (bh (aB tz (pv 3) af (aJ _)) (ak (fm (pv 3) (ip (pv 0) af set_list))) aN)
   (ak (aY (i:=2) dE.nd rfl (Or.inl rfl) (aZ bT (aZ jE (pv 3) af) af)))))) aN)
   (ak (fm (aZ jE (aZ bT (aZ cp (a9 bc (pv 0) af) af) (pv 2)) af) (ip (pv 0) af set_list))))) aN)
   (ag (bh (aB kZ (a9 bc (pv 0) af) af (aJ _)) (ag (aY (i:=4) dE.nd rfl (Or.inl rfl) (aZ jE (a9 bc (pv 0) af) (pv 1)))
   (ag (fm (aZ nV (a9 bc (pv 0) af) (pv 1)) (ip (pv 0) af set_list))
   (ak (aL (pv 4))))) aN)
   (ag (aY (i:=5) dE.nd rfl (Or.inl rfl) (aZ jE (aZ cp (a9 bc (pv 0) af) af) af))
   (ag (aY (i:=6) dE.nd rfl (Or.inl rfl) (aZ jE (aZ cp (pv 5) af) af))
   (ag (bh (aB kZ (pv 1) af (aJ _)) (ak (aL (aZ jE (aZ bT (aZ cp (pv 6) af) (pv 5)) (pv 1)))) aN)
   (ak (aL (aZ jE (aZ nV (pv 6) af) (pv 1))))))))),?_⟩
  refine aV (σ:=[some (.ref p),some (.int n),none,none,none,none,none]) rfl ?_;refine ⟨λσ' H'=>∃(x y:Option V) (a' b' c':Int),σ'=[some (.ref p),some (.int n),x,y,none,none,none]/\H' p=some (.lst [.int a',.int b',.int c',.ref q])/\0<=a'/\0<=c'/\c'<=cs.length/\bW p H H',?_,?_⟩
  ·exists gZ (λh0=>?_) (λh0=>?_)
   ·exists ⟨λσ' H'=>∃(m:Int) (y:Option V) (a' c':Int),σ'=[some (.ref p),some (.int n),some (.int m),y,none,none,none]/\H' p=some (.lst [.int a',.int b,.int c',.ref q])/\0<=a'/\0<=c'/\c'<=cs.length/\bW p H H',?_,?_⟩
    ·exists ⟨_,_,rfl,.inl (bD.of hq),?_⟩;exists gZ (λh1=>?_) (λh1=>?_)
     ·have h1':c < cs.length:=by simpa using of_decide_eq_true h1
      obtain ⟨z,hz⟩:∃z,cs[c.toNat]?=some z:=⟨_,aF (by lia)⟩;have hz0:0<=z:=hcs z (au hz);exists cF (bD.of hq) (v:=.int z) ?_ ?_
      ·have:=c6 (xs:=cs.map V.int) (j:=c.toNat) (v:=.int z) (by rw[bH,hz];rfl);rwa [Int.toNat_of_nonneg hc] at this
      exists gZ (λh2=>?_) (λh2=>?_)
      ·exists ⟨_,_,z,c+1,rfl,aA,hz0,by lia,by lia,(bW.set hp).trans (bW.set aA)⟩
      ·exists ⟨_,_,a,c+1,rfl,aA,ha,by lia,by lia,bW.set hp⟩
     ·exists ⟨_,_,a,c,rfl,hp,ha,hc,hcl,bW.refl _⟩
    ·rintro σ' H' ⟨m,y,a',c',rfl,hp',ha',hc',hcl',u'⟩;exists ⟨_,_,a',_,c',rfl,aA,ha',hc',hcl',u'.trans (bW.set hp')⟩
   ·exists ⟨_,_,a,b,c,rfl,hp,ha,hc,hcl,bW.refl _⟩
  ·rintro σ' H' ⟨x,y,a',b',c',rfl,hp',ha',hc',hcl',u'⟩;have hq':H' q=some (.lst (cs.map V.int)):=u'.1 q _ hq nqp
   have sn:Sz 8999 n:=by
    show n.natAbs < 2^8999
    exact av (show n.natAbs < 2^64 by lia) (aG (by decide) (by decide))
   exists gZ (λh0=>?_) (λh0=>?_)
   ·exists gD (show (0:Int) < n from hn) ?_;exists gD (show vW _ _ from ⟨by lia,sn⟩) ?_;exists k _ _ (iG _ (by lia)) (fh _ hn) ⟨q,_,b',c',cs,aA,by rw[aU nqp];exact hq',?_,hc',hcl',hcs⟩ (u'.trans (bW.set hp'));rw[mS _ (by lia)];exact Int.ediv_nonneg ha' (by lia)
   ·exists gZ (λh1=>?_) (λh1=>?_)
    ·exists gD (show (0:Int) < n from hn) ?_;exact k _ _ (iG _ (by lia)) (fh _ hn) ⟨q,a',b',c',cs,hp',hq',ha',hc',hcl',hcs⟩ u'
    ·exists gD (show vW _ _ from ⟨by decide,by show (3:Nat) < 2^8999;exact av (show 3 < 2^2 by decide) (aG (by decide) (by decide))⟩) ?_;exists gD (show (0:Int) < n from hn) ?_;exact k _ _ (iG _ (by lia)) (fh _ hn) ⟨q,a',b',c',cs,hp',hq',ha',hc',hcl',hcs⟩ u'
theorem jf:a8 ["_law_top","_law_bottom","_law_one","_law_other"] ["_law_top","_law_bottom"] (aI m6):=by walk_at "d"
theorem eC (T:Txt K mg Z):ck P w K mg base jb 1 Z.su Z.rQ ["_law_top","_law_bottom"] C2:=by
 refine T.di.F.ok jf (λvs H Q E h=>?_) (λcdv A outer s H vs Q E hr h=>?_)
 ·obtain ⟨t,b,rfl,_⟩:=h;rfl
 ·obtain ⟨t,b,rfl,hb,hs,k⟩:=h
  refine ⟨_,(ag (aY (i:=2) jf.nd rfl (Or.inl rfl) (a5 rX (by rfl) T.abs PyProof.Rows.boot_abs (aa (pv 0) ae)))
   (ag (aY (i:=3) jf.nd rfl (Or.inl rfl) (pv 1))
   (ag (vq PassesOwn.never (aB iR (pv 2) af (aJ _))
    (ak (DH (i:=2) (j:=3) rfl jf.nd rfl rfl (by decide) rfl rfl (aa (aZ jE (pv 3) (pv 2)) (aa (pv 2) ae)) rfl)))
   (ak (aL (cn (aa (aZ nV (pv 0) (pv 3)) (aa (aZ nV (pv 1) (pv 3)) ae)))))))),?_⟩
  refine aV (σ:=[some (.int t),some (.int b),none,none]) rfl ?_;walk_at "w"
  refine xg (λσ' H'=>∃(u v:Int),σ'=[some (.int t),some (.int b),some (.int u),some (.int v)]/\H'=H/\0<=u/\0 < v/\Int.gcd u v=Int.gcd t b) (λσ' _=>match σ' with | [_,_,some (.int u),_]=>u.natAbs | _=>0) ⟨_,b,rfl,rfl,by split <;> lia,hb,by
   split
   ·rw[Int.neg_gcd]
   ·rfl⟩ ?_
  rintro σ' H' ⟨u,v,rfl,rfl,hu,hv,hg⟩;exists gZ (λh=>?_) (λh=>?_)
  ·have hu0:u≠0:=λz=>by subst z;simp at h
   exists gD (show (0:Int) < u by lia) ?_;walk_at "w";have h1:=iG v hu0;have h2:=fh v (show 0 < u by lia);exact ⟨⟨v % u,u,rfl,rfl,h1,by lia,by rw[jx,Aj,jx];exact hg⟩,by show (v % u).natAbs < u.natAbs;lia⟩
  ·have hu0:u=0:=by
    by_cases z:u=0
    ·exact z
    ·exfalso;apply h;simp [z]
   subst hu0
   have e:v=g t b:=by
    unfold g;rw[<- hg,Int.gcd_zero_left]
    lia
   have hgs:Sz 8999 v:=hs.le (by
    rw[e];have h1:(g t b).natAbs=Int.gcd t b:=by unfold g;simp
    rw[h1];exact Nat.le_of_dvd (by lia) (by have:=fW (a:=t) (b:=b);exact sH.mpr this |> λz=>by simpa using z))
   exists gD (show vW _ _ from ⟨by lia,hgs⟩) ?_;exists gD (show vW _ _ from ⟨by lia,hgs⟩) ?_;exists bz λr H' s' h'=>?_
   rw[mS _ (by lia),mS _ (by lia),e] at h';exact k r H' s' h'
theorem kJ:a8 ["_law_bag_here","_law_wide","_law_way"] ["_law_bag_here","_law_wide"] (aI jB):=by walk_at "d"
theorem k9 (T:Txt K mg Z):ck P w K mg base jb 2 Z.mH Z.mD ["_law_bag_here","_law_wide"] (qS K):=by
 refine T.fL.F.ok kJ (λvs H Q E h=>?_) (λcdv A outer s H vs Q E hr h=>?_)
 ·obtain ⟨b,w,rfl,_⟩:=h;rfl
 ·obtain ⟨b,w,rfl,hB,w0,w1,k⟩:=h
  refine ⟨_,(ag (aY (i:=2) kJ.nd rfl (Or.inl rfl) (cW (aS T) hr T.aM (aa (pv 0) (aa af ae))))
   (ag (bh (aB kv (pv 2) af (aJ _)) (ak (aL (cn (aa af (aa af ae))))) aN)
   (ag (bh (aB kv (pv 2) af (aJ _)) (ak (aL (cn (aa (aZ o5 (cW (aS T) hr T.aM (aa (pv 0) (aa af ae))) af) (aa af ae))))) aN)
   (ag (bh (aB cH (pv 2) af (aJ _)) (ak (aL (cW (eC T) hr T.di (aa (aZ o5 (cW (aS T) hr T.aM (aa (pv 0) (aa af ae))) af) (aa (aZ bT af (cW (aS T) hr T.aM (aa (pv 0) (aa af ae)))) ae))))) aN)
   (ak (aL (cW (eC T) hr T.di (aa (aZ o5 (cW (aS T) hr T.aM (aa (pv 0) (aa (aZ bT (aZ cp af (pv 1)) af) ae))) (pv 1)) (aa (aZ bT af (cW (aS T) hr T.aM (aa (pv 0) (aa (pv 1) ae)))) ae))))))))),?_⟩
  refine aV (σ:=[some (.ref b),some (.int w),none]) rfl ?_;exists ⟨b,8,rfl,hB,by decide,by decide,λv H1 v0 v1 B1 u1=>?_⟩;exists gZ (λh0=>?_) (λh0=>?_)
  ·exists bz λr H2 s2 g2=>?_
   exact k r 0 _ ⟨bf _,by show 1<=_;lia⟩ (cg.mk g2 rfl) (B1.same s2) (u1.same s2)
  exists gZ (λh1=>?_) (λh1=>?_)
  ·exists ⟨b,7,rfl,B1,by decide,by decide,λa H2 a0 a1 B2 u2=>?_⟩;exists bz λr H3 s3 g3=>?_
   exact k r ((a - 3:Int):Rat) _ ⟨by show (a - 3).natAbs<=_;lia,by show 1<=_;lia⟩ (cg.mk g3 rfl) (B2.same s3) ((u1.trans u2).same s3)
  exists gZ (λh2=>?_) (λh2=>?_)
  ·exists ⟨b,13,rfl,B1,by decide,by decide,λa H2 a0 a1 B2 u2=>?_⟩;exists ⟨b,6,rfl,B2,by decide,by decide,λc H3 c0 c1 B3 u3=>?_⟩;exists ⟨_,_,rfl,by lia,(zc (by lia)).mono (by decide),λr H4 s4 g4=>?_⟩;obtain ⟨q,e,d,_⟩:=z9 (t:=a - 6) (b:=1+c) (W:=max w 6) (by lia) (by lia) (by lia);exact k r q _ d (cg.mk g4 e) (B3.same s4) (((u1.trans u2).trans u3).same s4)
  exists ⟨b,_,rfl,B1,by lia,by lia,λa H2 a0 a1 B2 u2=>?_⟩;exists ⟨b,_,rfl,B2,by lia,by lia,λc H3 c0 c1 B3 u3=>?_⟩;exists ⟨_,_,rfl,by lia,(zc (by lia)).mono (by decide),λr H4 s4 g4=>?_⟩;obtain ⟨q,e,d,_⟩:=z9 (t:=a - w) (b:=1+c) (W:=max w 6) (by lia) (by lia) (by lia);exact k r q _ d (cg.mk g4 e) (B3.same s4) (((u1.trans u2).trans u3).same s4)
theorem pF:a8 ["_law_bag_here","_law_top"] ["_law_bag_here"] (aI m9):=by walk_at "d"
theorem pJ (T:Txt K mg Z):ck P w K mg base jb 3 Z.sD Z.rS ["_law_bag_here"] (zE K):=by
 refine T.jn.F.ok pF (λvs H Q E h=>?_) (λcdv A outer s H vs Q E hr h=>?_)
 ·obtain ⟨p,rfl,_⟩:=h;rfl
 ·obtain ⟨p,rfl,hB,k⟩:=h
  refine ⟨_,(ag (bh (aB cH (cW (aS T) hr T.aM (aa (pv 0) (aa af ae))) af (aJ _)) (ag (aY (i:=1) pF.nd rfl (Or.inl rfl) (b5 iI (by rfl) T.int PyProof.Rows.boot_int (aa (aZ dm (aZ By bB (cW (aS T) hr T.aM (aa (pv 0) (aa af ae)))) (b5 (gH rfl) (by rfl) T.str PyProof.Rows.boot_str (aa (cW (aS T) hr T.aM (aa (pv 0) (aa af ae))) ae))) ae)))
   (ak (aL (cW (eC T) hr T.di (aa (a9 bc (c9 (aa (pv 1) (aa (vw qM (pv 1)) ae))) (cW (aS T) hr T.aM (aa (pv 0) (aa af ae)))) (aa (aZ bT af (cW (aS T) hr T.aM (aa (pv 0) (aa af ae)))) ae)))))) aN)
   (ak (aL (cW (k9 T) hr T.fL (aa (pv 0) (aa af ae)))))),?_⟩
  refine aV (σ:=[some (.ref p),none]) rfl ?_;have d3:∀m:Nat,m < 1000->(bJ m).length<=3:=λm hm=>jR 2 m (by lia)
  have t3:∀m:Nat,dn ((m:Nat):Int)=bJ m:=λm=>by unfold dn;rw[if_neg (by lia),bZ]
  have s7:Str.ofString "7"=sl [55]:=by decide +kernel
  exists ⟨p,3,rfl,hB,by decide,by decide,λw H1 w0 w1 B1 u1=>?_⟩;exists gZ (λh0=>?_) (λh0=>?_)
  rotate_left
  ·exists ⟨p,1000,rfl,B1,by decide,by decide,λr x H2 dr nq B2 u2=>k r (nm x) H2 (sR (qL x) (ar (Ap dr) (by decide))) (Ap dr) nq B2 (u1.trans u2)⟩
  exists ⟨p,20,rfl,B1,by decide,by decide,λa H2 a0 a1 B2 u2=>?_⟩;obtain ⟨a,rfl⟩:=bL a0;exists ⟨55,a,congrArg V.str s7,rfl,by lia,?_⟩;exists ⟨p,1000,rfl,B2,by decide,by decide,λb H3 b0 b1 B3 u3=>?_⟩;obtain ⟨b,rfl⟩:=bL b0;have lb:=d3 b (by lia);exists ⟨qv (show Sz 8000 ((b:Nat):Int) from av (show ((b:Nat):Int).natAbs < 2^10 by lia) (aG (by decide) (by decide))),?_⟩;exists ⟨_,_,rfl,rfl,by rw[t3,aR,aR,dG];exact bo (by lia),?_⟩;rw[t3,iK];walk_at "w";obtain ⟨c0,r0,e0,_⟩:=iH b;refine ⟨by rw[e0];simp,x8 (xZ (by decide)) (hJ b),by rw[ai,dG];lia,?_⟩;have u3':=(u1.trans u2).trans u3;have z3:NumText.digitsVal (List.replicate a 55++bJ b) < 10^23:=av (yY (x8 (xZ (by decide)) (hJ b))) (aG (by decide) (by rw[ai,dG];lia));generalize NumText.digitsVal (List.replicate a 55++bJ b)=t0 at z3 ⊢;exists cE λl8 H8 s8 n8 g8=>?_
  exists ⟨p,2,rfl,B3.same s8,by decide,by decide,λv H9 v0 v1 B9 u9=>?_⟩;have g9:=u9.other (λz=>B3.at (by rw[<- z];exact n8)) g8;obtain ⟨x,ex,mx,_⟩:=lL (xs:=[V.int (t0:Nat),V.int (-(t0:Nat))]) v0 (by simpa using v1)
  obtain ⟨t2,rfl,z2⟩:∃t2:Int,x=.int t2/\t2.natAbs < 10^23:=by
   simp only[az,bg,or_false] at mx;rcases mx with rfl | rfl
   ·exact ⟨_,rfl,by rw[bZ];exact z3⟩
   ·exact ⟨_,rfl,by rw[Int.natAbs_neg,bZ];exact z3⟩
  exists cF (bD.of g9) ex ?_;exists ⟨p,1000000,rfl,B9,by decide,by decide,λv' HB v0' v1' BB uB=>?_⟩;have hb:(1+v').natAbs < 10^7:=by lia
  walk_at "w";have q2:=a7 (lo_le (t:=t2) (b:=1+v') (by lia)) z2;have q3:=a7 (CA (t:=t2) (b:=1+v') (by lia)) hb;have zz:∀{i:Int} {e:Nat},i.natAbs < 10^e->e<=23->∀m,92<=m->Sz m i:=λ{i e} h he m hm=>av h (ar (aG (by decide) he) (ar (show 10^23<=2^92 by decide) (aG (by decide) hm)))
  refine ⟨t2,1+v',rfl,by lia,zz hb (by decide) _ (by decide),λr HC sC gC=>?_⟩;exact k r (lo t2 (1+v'),hi t2 (1+v')) HC ⟨uG (by lia),nZ (by lia),zz q2 (by decide) _ (by decide),zz q3 (by decide) _ (by decide)⟩ (ar (rk (a:=22) (b:=6) q2 q3) (by decide)) ⟨r,rfl,i8.of gC⟩ (BB.same sC) (((u3'.trans s8.upto).trans (u9.trans uB)).trans sC.upto)
theorem vk:a8 ["_law_bag_here","_law_many","_law_wide"] ["_law_bag_here","_law_many","_law_wide"] (aI mZ):=by walk_at "d"
theorem pI (T:Txt K mg Z):ck P w K mg base jb 3 Z.sq Z.rP ["_law_bag_here","_law_many","_law_wide"] (vc K):=by
 refine T.gY.F.ok vk (λvs H Q E h=>?_) (λcdv A outer s H vs Q E hr h=>?_)
 ·obtain ⟨b,m,w,rfl,_⟩:=h;rfl
 ·obtain ⟨b,m,w,rfl,hB,hm,w0,w1,k⟩:=h;refine ⟨_,(ak (aL (du ["_law_k"] ["_law_bag_here","_law_wide"] [0,2] (cx rfl T.range (aa (pv 1) ae)) (λ_=>(a6 (i:=0) (show ND9 ["_law_k","_law_bag_here","_law_wide"] by decide +kernel))) (λ_=>c8) (λ_=>(cW (k9 T) hr T.fL (aa (pv 1) (aa (pv 2) ae))))))),?_⟩;refine aV (σ:=[some (.ref b),some (.int m),some (.int w)]) rfl ?_;exists ⟨by lia,by lia,?_⟩;refine tQ (n:=m) (cg K) (Dr (max w 6)) hB hm (λa u B=>a.upto u B) ?_ ?_
  ·rintro i H' NY NN hi u B k1;exists ⟨b,w,rfl,B,w0,w1,λr x H2 hx h2 B2 u2=>k1 _ x _ u2 B2 hx h2⟩
  ·rintro ys cs H' p hp u B g lc hc pr nx;exact k p cs H' hp ⟨ys,g,pr⟩ lc hc B u
theorem fE:a8 ["_law_bag_here","_law_n","_law_way","_law_first","_law_wide","_law_move_here","_law_i","_law_row_here","_law_j"] ["_law_bag_here","_law_n","_law_way","_law_first","_law_wide"] (aI kU):=by walk_at "d"
theorem ux (T:Txt K mg Z):ck P w K mg base jb 4 Z.qd Z.pW ["_law_bag_here","_law_n","_law_way","_law_first","_law_wide"] (vb K):=by
 refine T.kr.F.ok fE (λvs H Q E h=>?_) (λcdv A outer s H vs Q E hr h=>?_)
 ·obtain ⟨b,n,w,way,first,rfl,_⟩:=h;rfl
 ·obtain ⟨b,n,w,way,first,rfl,hB,n8,w0,w1,k⟩:=h
  refine ⟨_,(ag (aY (i:=5) fE.nd rfl (Or.inl rfl) (c9 ae))
   (ag (dQ PassesOwn.never rfl (cx rfl T.range (aa (pv 1) ae)) (a6 (i:=6) fE.nd)
    (ag (aY (i:=7) fE.nd rfl (Or.inl rfl) (cW (pI T) hr T.gY (aa (pv 0) (aa (pv 1) (aa (pv 4) ae)))))
   (ag (dQ PassesOwn.never rfl (cx rfl T.range (aa (pv 1) ae)) (a6 (i:=8) fE.nd)
    (eJ (bh (PW.pt (eh (aB cH (pv 2) af (aJ _)) (eI (aB kZ (cW (aS T) hr T.aM (aa (pv 0) (aa af ae))) af (aJ _))))) (ak (fm (cn (aa af (aa af ae))) (ip (pv 7) (pv 8) set_list))) aN)
   (eJ (bh (PW.pt (eh (aB cH (pv 2) af (aJ _)) (eI (aB kv (aZ bT (pv 6) af) (pv 1) (aJ _))))) (ak (fm (cn (aa (b5 pB (by rfl) T.int PyProof.Rows.boot_int (aa (gL cH (pv 8) (aZ bT (pv 6) af) (aJ _)) ae)) (aa af ae))) (ip (pv 7) (pv 8) set_list))) aN)
   (eJ (bh (PW.pt (df (PW.pt (eh (aB cH (pv 2) af (aJ _)) (eh (aB tz (pv 6) (pv 3) (aJ _)) (eI (aB kv (pv 8) (pv 3) (aJ _)))))) (cT (PW.pt (eh (aB cH (pv 2) af (aJ _)) (eh (aB kv (pv 6) (pv 3) (aJ _)) (eI (aB tz (pv 8) (pv 3) (aJ _))))))))) (ak (fm (cn (aa af (aa af ae))) (ip (pv 7) (pv 8) set_list))) aN)
   (ak (bh (aB cH (pv 2) af (aJ _)) (ak (fm (cn (aa (aZ cp (a9 bc (c9 (aa af (aa af (aa (vw qM af) (aa af ae))))) (aZ jE (pv 3) af)) (b5 pB (by rfl) T.int PyProof.Rows.boot_int (aa (gL cH (pv 6) (pv 8) (aJ _)) ae))) (aa af ae))) (ip (pv 7) (pv 8) set_list))) aN))))))
   (ak (jh (iO eR iz iw lU (pv 5) (aa (pv 7) ae)))))))
   (ak (aL (pv 5))))),?_⟩
  refine aV (σ:=[some (.ref b),some (.int n),some (.int way),some (.int first),some (.int w),none,none,none,none]) rfl ?_;have W1:1<=max w 6:=by lia
  exists cE λr H1 s1 n1 g1=>?_
  have rb:r≠b:=λz=>hB.at (by rw[<- z];exact n1)
  obtain ⟨q0,I0,xs0,gq0⟩:=hB.inner;have I1:Inner H1 b q0:=(s1.upto (p:=b)).2 _ I0;obtain ⟨A,eA⟩:∃A:Addr->Prop,A=λq=>H q=none/\q≠r:=⟨_,rfl⟩
  have nb:¬A b:=by rw[eA];exact λz=>hB.at z.1
  have nr:¬A r:=by rw[eA];exact λz=>z.2 rfl
  have nq:¬A q0:=by rw[eA];exact λz=>by have z1:=z.1;rw[gq0] at z1;cases z1
  have rq:r≠q0:=λz=>by rw[<- z,n1] at gq0;cases gq0
  exists ⟨by lia,by lia,?_⟩;refine eF (n:=n) (λi σ' H'=>∃(x1 x2 x3:Option V) (us:List V),σ'=[some (.ref b),some (.int n),some (.int way),some (.int first),some (.int w),some (.ref r),x1,x2,x3]/\H' r=some (.lst us)/\us.length=i/\us.Nodup/\(∀x∈us,fq K A H' n (Dr (max w 6)) x)/\fU H' b/\Inner H' b q0/\bW b H H') ⟨none,none,none,[],rfl,g1,rfl,CT,(λ_ z=>nomatch z),hB.same s1,I1,s1.upto⟩ ?_ ?_
  ·rintro i σ' H' hi ⟨x1,x2,x3,us,rfl,gu,lu,nd,ru,B',I',u'⟩;exists ⟨b,n,w,rfl,B',by lia,w0,w1,λp xs Ha np Ra la da Ba ua=>?_⟩;have hp0:H p=none:=u'.none B' np
   have pn:V.ref p∉us:=λz=>by
    obtain ⟨q',_,_,e',_,g',_⟩:=(ru _ z).at;cases e';rw[np] at g';cases g'
   have ap':H p=none/\p≠r:=⟨hp0,λz=>by rw[z,gu] at np;cases np⟩;have ap:A p:=by rw[eA];exact ap'
   have X0:ya K A n (Dr (max w 6)) r p b q0 us H Ha:=⟨ua.other rb gu,λx hx=>(ru x hx).upto ua B' nb,⟨p,xs,rfl,ap,Ra,la,da⟩,Ba,ua.2 _ I',u'.trans ua⟩;clear ru Ra gu;exists ⟨by lia,by lia,?_⟩;refine eF (n:=n) (λj σ' H'=>(∃x3,σ'=[some (.ref b),some (.int n),some (.int way),some (.int first),some (.int w),some (.ref r),some (.int i),some (.ref p),x3])/\ya K A n (Dr (max w 6)) r p b q0 us H H') ⟨⟨_,rfl⟩,X0⟩ ?_ ?_
   ·rintro j σ' Hj hj ⟨⟨x3,rfl⟩,X⟩;exists ⟨λσ' H'=>σ'=[some (.ref b),some (.int n),some (.int way),some (.int first),some (.int w),some (.ref r),some (.int i),some (.ref p),some (.int j)]/\ya K A n (Dr (max w 6)) r p b q0 us H H',?_,?_⟩
    ·exists gZ (λ_=>?_) (λ_=>?_)
     ·exists ⟨b,3,rfl,X.bag,by decide,by decide,λd Hd d0 d1 Bd ud=>?_⟩;replace X:=X.upto ud Bd nb rb
      repeat' (first | walk_at "rd" | refine gZ (λ_=>?_) (λ_=>?_))
      all_goals first
       | exact ⟨rfl,X⟩
       | (refine bz λt Hb sb gb=>?_;walk_at "w";obtain ⟨zs,gz,lz,Xz⟩:=(X.same sb).put ap nr nb nq hp0 (cg.mk (q:=0) gb rfl) (lA (i:=0) (bf _) W1) j;refine eZ gz (fO (by lia)) rfl ?_;exact ⟨rfl,Xz⟩)
     ·exists ⟨rfl,X⟩
    clear X;rintro σ' Hj ⟨rfl,X⟩;refine ⟨λσ' H'=>σ'=[some (.ref b),some (.int n),some (.int way),some (.int first),some (.int w),some (.ref r),some (.int i),some (.ref p),some (.int j)]/\ya K A n (Dr (max w 6)) r p b q0 us H H',?_,?_⟩
    ·repeat' (first | walk_at "rd" | refine gZ (λ_=>?_) (λ_=>?_))
     all_goals first
      | exact ⟨rfl,X⟩
      | (refine bz λt Hb sb gb=>?_;walk_at "w";obtain ⟨zs,gz,lz,Xz⟩:=(X.same sb).put ap nr nb nq hp0 (cg.mk (q:=((if decide ((j:Int)=(i:Int)+1)=true then (1:Int) else 0:Int):Rat)) gb rfl) (lA (by split <;> lia) W1) j;refine eZ gz (fO (by lia)) rfl ?_;exact ⟨rfl,Xz⟩)
    clear X;rintro σ' Hj ⟨rfl,X⟩;refine ⟨λσ' H'=>σ'=[some (.ref b),some (.int n),some (.int way),some (.int first),some (.int w),some (.ref r),some (.int i),some (.ref p),some (.int j)]/\ya K A n (Dr (max w 6)) r p b q0 us H H',?_,?_⟩
    ·repeat' (first | walk_at "rd" | refine gZ (λ_=>?_) (λ_=>?_))
     all_goals first
      | exact ⟨rfl,X⟩
      | (refine bz λt Hb sb gb=>?_;walk_at "w";obtain ⟨zs,gz,lz,Xz⟩:=(X.same sb).put ap nr nb nq hp0 (cg.mk (q:=0) gb rfl) (lA (i:=0) (bf _) W1) j;refine eZ gz (fO (by lia)) rfl ?_;exact ⟨rfl,Xz⟩)
    clear X;rintro σ' Hj ⟨rfl,X⟩;exists gZ (λ_=>?_) (λ_=>?_)
    ·exists cE λl0 Hc sc nc gc=>?_
     walk_at "w";obtain ⟨x,ex,mx,_⟩:=lL (xs:=[V.int 2,V.int 1,V.int (-1),V.int 0]) (i:=first % 4) (iG _ (by decide)) (by have:=fh first (show (0:Int) < 4 by decide);simpa using this)
     obtain ⟨z,rfl,hz⟩:∃z:Int,x=.int z/\z.natAbs<=2:=by
      simp only[az,bg,or_false] at mx;rcases mx with rfl | rfl | rfl | rfl
      ·exact ⟨2,rfl,by decide⟩
      ·exact ⟨1,rfl,by decide⟩
      ·exact ⟨-1,rfl,by decide⟩
      ·exact ⟨0,rfl,by decide⟩
     refine cF (bD.of gc) ex ?_;exists gD (fQ (by lia) (by lia)) ?_;exists bz λt Hb sb gb=>?_
     walk_at "w";obtain ⟨zs,gz,lz,Xz⟩:=((X.same sc).same sb).put ap nr nb nq hp0 (cg.mk (q:=((z*(if decide ((i:Int)=(j:Int))=true then (1:Int) else 0):Int):Rat)) gb rfl) (lA (by split <;> lia) W1) j;refine eZ gz (fO (by lia)) rfl ?_;exact ⟨⟨_,rfl⟩,Xz⟩
    ·exists ⟨⟨_,rfl⟩,X⟩
   ·rintro σ' Hj ⟨⟨x3,rfl⟩,X⟩;exists ⟨.inl ⟨rfl,_,bD.of X.gr⟩,?_⟩;exists oV X.gr (b4 (by lia)) ?_;refine ⟨_,_,_,us++[.ref p],rfl,aA,by simp [lu],rz nd pn,λx hx=>?_,X.bag.upd X.inn rb rq,X.inn.upd rb,X.up.after n1⟩;rcases aO.mp hx with hx | hx
    ·exact (X.ru x hx).other X.gr nr
    ·have e:x=V.ref p:=by simpa using hx
     rw[e];exact X.rp.other X.gr nr
  ·rintro σ' H' ⟨x1,x2,x3,us,rfl,gu,lu,nd,ru,B',I',u'⟩;exists k r us H' n1 gu lu nd (by rw[eA] at ru;exact ru) B' u'
theorem vh:a8 ["_law_one","_law_other"] ["_law_one","_law_other"] (aI mY):=by walk_at "d"
theorem k6 (T:Txt K mg Z):ck P w K mg base jb 2 Z.so Z.rO ["_law_one","_law_other"] (oP K (λx y=>x+y)):=by
 refine T.gX.F.ok vh (λvs H Q E h=>?_) (λcdv A outer s H vs Q E hr h=>?_)
 ·obtain ⟨p,q,a,b,c,d,rfl,hp,hq,hb,hd,sa,sb,sc,sd,k⟩:=x9 h;rfl
 ·obtain ⟨p,q,a,b,c,d,rfl,hp,hq,hb,hd,sa,sb,sc,sd,k⟩:=x9 h;refine ⟨_,(ak (aL (cW (eC T) hr T.di (aa (aZ bT (aZ cp (a9 bN (pv 0) af) (a9 bN (pv 1) af)) (aZ cp (a9 bN (pv 1) af) (a9 bN (pv 0) af))) (aa (aZ cp (a9 bN (pv 0) af) (a9 bN (pv 1) af)) ae))))),?_⟩;refine aV (σ:=[some (.ref p),some (.ref q)]) rfl ?_;have hbd:0 < b*d:=Int.mul_pos hb hd;have sbd:Sz 8999 (b*d):=(sb.mul sd).mono (by decide);exists gD (show mM _ _ from .inr ⟨_,_,sa,sd,by decide⟩) ?_;exists gD (show mM _ _ from .inr ⟨_,_,sc,sb,by decide⟩) ?_;exists gD (show mM _ _ from .inr ⟨_,_,sb,sd,by decide⟩) ?_;walk_at "w";exists ⟨_,_,rfl,hbd,sbd,k⟩
theorem uo:a8 ["_law_one","_law_other"] ["_law_one","_law_other"] (aI kT):=by walk_at "d"
theorem uw (T:Txt K mg Z):ck P w K mg base jb 3 Z.p9 Z.pV ["_law_one","_law_other"] (va K):=by
 refine T.kq.F.ok uo (λvs H Q E h=>?_) (λcdv A outer s H vs Q E hr h=>?_)
 ·obtain ⟨p,q,xs,ys,rfl,_⟩:=h;rfl
 ·obtain ⟨p,q,xs,ys,rfl,hp,hq,hl,hz,h1,h2,kk⟩:=h;refine ⟨_,(ak (aL (du ["_law_k"] ["_law_one","_law_other"] [0,1] (cx rfl T.range (aa (a5 aW (by rfl) T.len aH (aa (pv 0) ae)) ae)) (λ_=>(a6 (i:=0) (show ND9 ["_law_k","_law_one","_law_other"] by decide +kernel))) (λ_=>c8) (λ_=>(cW (k6 T) hr T.gX (aa (a9 (vI K (by rfl)) (pv 1) (pv 0)) (aa (a9 (vI K (by rfl)) (pv 2) (pv 0)) ae))))))),?_⟩;refine aV (σ:=[some (.ref p),some (.ref q)]) rfl ?_;obtain ⟨us,gu,qu⟩:=id hp;obtain ⟨ws,gw,qw⟩:=id hq;have lu:=qu.length;exists ⟨_,_,rfl,.inl (bD.of gu),?_⟩;exists ⟨by lia,by lia,?_⟩;refine pA (n:=us.length) (cg K) (λi=>xs.getD i 0+ys.getD i 0) (by lia) (λa b=>a.same b) ?_ ?_
  ·rintro i H' NY NN hi s k1;have ix:i < xs.length:=by lia
   have iy:i < ys.length:=by lia
   obtain ⟨vx,ex,nx⟩:=Eb (Paired.imp' (λ_ _ z=>z.same s) qu) ix;obtain ⟨vy,ey,ny⟩:=Eb (Paired.imp' (λ_ _ z=>z.same s) qw) iy;exists cF (bD.of (s _ _ gu)) ex ?_;exists cF (bD.of (s _ _ gw)) ey ?_;exists ⟨_,_,_,_,rfl,nx,ny,h1 _ (getD_mem ix),h2 _ (getD_mem iy),λr3 H3 s3 n3=>k1 _ _ s3 n3⟩
  ·rintro ys' H' l hl' s g pr nx;exact kk l H' hl' s ⟨ys',g,by rw[yh (by lia)];rw[<- lu] at pr;exact pr⟩
theorem uj:a8 ["_law_one","_law_other"] ["_law_one","_law_other"] (aI kS):=by walk_at "d"
theorem kl (T:Txt K mg Z):ck P w K mg base jb 2 Z.p8 Z.pU ["_law_one","_law_other"] (oP K (λx y=>x*y)):=by
 refine T.fJ.F.ok uj (λvs H Q E h=>?_) (λcdv A outer s H vs Q E hr h=>?_)
 ·obtain ⟨p,q,a,b,c,d,rfl,hp,hq,hb,hd,sa,sb,sc,sd,k⟩:=xB h;rfl
 ·obtain ⟨p,q,a,b,c,d,rfl,hp,hq,hb,hd,sa,sb,sc,sd,k⟩:=xB h;refine ⟨_,(ak (aL (cW (eC T) hr T.di (aa (aZ cp (a9 bN (pv 0) af) (a9 bN (pv 1) af)) (aa (aZ cp (a9 bN (pv 0) af) (a9 bN (pv 1) af)) ae))))),?_⟩;refine aV (σ:=[some (.ref p),some (.ref q)]) rfl ?_;have hbd:0 < b*d:=Int.mul_pos hb hd;have sbd:Sz 8999 (b*d):=(sb.mul sd).mono (by decide);exists gD (show mM _ _ from .inr ⟨_,_,sa,sc,by decide⟩) ?_;exists gD (show mM _ _ from .inr ⟨_,_,sb,sd,by decide⟩) ?_;walk_at "w";exists ⟨_,_,rfl,hbd,sbd,k⟩
theorem wq:a8 ["_law_factor","_law_row_here"] ["_law_factor","_law_row_here"] (aI oS):=by walk_at "d"
theorem wB (T:Txt K mg Z):ck P w K mg base jb 3 Z.tW Z.tN ["_law_factor","_law_row_here"] (zB K):=by
 refine T.nu.F.ok wq (λvs H Q E h=>?_) (λcdv A outer s H vs Q E hr h=>?_)
 ·obtain ⟨u,q,c,ys,rfl,_⟩:=h;rfl
 ·obtain ⟨u,q,c,ys,rfl,hc,sc,hq,hz,h2,kk⟩:=h;refine ⟨_,(ak (aL (du ["_law_one"] ["_law_factor"] [0] (cL (pv 1)) (λ_=>(a6 (i:=0) (show ND9 ["_law_one","_law_factor"] by decide +kernel))) (λ_=>c8) (λ_=>(cW (kl T) hr T.fJ (aa (pv 1) (aa (pv 0) ae))))))),?_⟩;refine aV (σ:=[some u,some (.ref q)]) rfl ?_;obtain ⟨us,gu,qu⟩:=id hq;exists ⟨⟨_,bD.of gu⟩,?_⟩;refine tO (K:=K) (F:=cg K) (cg K) (λy=>c*y) gu qu hz (λa b=>a.same b) (λa b=>a.same b) ?_ ?_
  ·rintro i y x H' NY NN en s hx k;exists ⟨_,_,_,_,rfl,hc.same s,hx,sc,h2 y (au en),λr H2 s2 h2'=>k _ _ s2 h2'⟩
  ·rintro ys' H' r hr s g pr nx;exact kk r H' hr s ⟨ys',g,pr⟩
theorem cD:a8 ["_law_bag_here","_law_move_here","_law_put","_law_look","_law_n","_law_turn","_law_i","_law_j","_law_by_here","_law_less","_law_row_here"] ["_law_bag_here","_law_move_here","_law_put","_law_look"] (aI kb):=by walk_at "d"
theorem sL (T:Txt K mg Z):ck P w K mg base jb 4 Z.oF Z.oy ["_law_bag_here","_law_move_here","_law_put","_law_look"] (sY K):=by
 refine T.jH.F.ok cD (λvs H Q E h=>?_) (λcdv A outer s H vs Q E hr h=>?_)
 ·obtain ⟨b,m,p,l,q0,n,M,WV,A,us,ws,vs,rfl,_⟩:=h;rfl
 ·obtain ⟨b,m,p,l,q0,n,M,WV,A,us,ws,vs,rfl,MA,X,n8,i4,o4,M0,M1,V1,hA,k⟩:=h
  refine ⟨_,(ag (aY (i:=4) cD.nd rfl (Or.inl rfl) (a5 aW (by rfl) T.len aH (aa (pv 1) ae)))
   (ag (bh (PW.pt (df (aB kv (pv 4) af (aJ _)) (cT (aB cH (cW (aS T) hr T.aM (aa (pv 0) (aa af ae))) af (aJ _))))) (ak (aL (cn (aa (pv 1) (aa (pv 2) (aa (pv 3) ae)))))) aN)
   (ag (dQ PassesOwn.never rfl (cx rfl T.range (aa (aZ bT af (cW (aS T) hr T.aM (aa (pv 0) (aa af ae)))) ae)) (a6 (i:=5) cD.nd)
    (ag (aY (i:=6) cD.nd rfl (Or.inl rfl) (cW (aS T) hr T.aM (aa (pv 0) (aa (pv 4) ae))))
   (ag (aY (i:=7) cD.nd rfl (Or.inl rfl) (aZ jE (aZ bT (aZ bT (pv 6) af) (cW (aS T) hr T.aM (aa (pv 0) (aa (aZ o5 (pv 4) af) ae)))) (pv 4)))
   (ag (aY (i:=8) cD.nd rfl (Or.inl rfl) (cn (aa (a9 bc (c9 (aa af (aa (vw qM af) (aa af (aa (vw qM af) ae))))) (cW (aS T) hr T.aM (aa (pv 0) (aa af ae)))) (aa af ae))))
   (ag (aY (i:=9) cD.nd rfl (Or.inl rfl) (cn (aa (aZ o5 af (a9 bN (pv 8) af)) (aa af ae))))
   (ag (fm (cW (uw T) hr T.kq (aa (a9 bc (pv 1) (pv 6)) (aa (cW (wB T) hr T.nu (aa (pv 8) (aa (a9 bc (pv 1) (pv 7)) ae))) ae))) (ip (pv 1) (pv 6) set_list))
   (ag (dQ PassesOwn.never rfl (cL (aZ DO (pv 1) (pv 3))) (a6 (i:=10) cD.nd)
    (ak (fm (cW (k6 T) hr T.gX (aa (a9 bc (pv 10) (pv 7)) (aa (cW (kl T) hr T.fJ (aa (pv 9) (aa (a9 bc (pv 10) (pv 6)) ae))) ae))) (ip (pv 10) (pv 7) set_list))))
   (ak (dQ PassesOwn.never rfl (cL (pv 2)) (a6 (i:=10) cD.nd)
    (ak (fm (cW (k6 T) hr T.gX (aa (a9 bc (pv 10) (pv 6)) (aa (cW (kl T) hr T.fJ (aa (pv 8) (aa (a9 bc (pv 10) (pv 7)) ae))) ae))) (ip (pv 10) (pv 6) set_list))))))))))))
   (ak (aL (cn (aa (pv 1) (aa (pv 2) (aa (pv 3) ae))))))))),?_⟩
  refine aV (σ:=[some (.ref b),some (.ref m),some (.ref p),some (.ref l),none,none,none,none,none,none,none]) rfl ?_;have done:∀r us' H' t,t<=3->H' r=some (.tup [.ref m,.ref p,.ref l])->gJ K A H' n (λ_=>Fr M (9^t*WV)) m p l b q0 us' ws vs->eQ A b m H H'->Q (.ref r) H':=λr us' H' t ht g x kp=>k r us' H' g (x.weak λ_ _ y h=>h.mono (bY _ (aG (by decide) ht))) kp
  have X0:gJ K A H n (λ_=>Fr M (9^0*WV)) m p l b q0 us ws vs:=X.weak λ_ _ y h=>h.mono (by simp)
  clear X k;have gu:=X0.gm;have lu:=X0.lm;exists ⟨_,_,rfl,.inl (bD.of gu),?_⟩;rw[lu];clear gu lu;have kp0:eQ A b m H H:=λ_ _ h _ _ _=>h
  exists gZ (λh0=>?_) (λh0=>?_)
  ·exists bz λr H' s' g'=>?_
   exact done r us H' 0 (by decide) g' (X0.same s') (kp0.same s')
  have n2:2<=n:=by
   rcases md n 2 with z | z
   ·exact absurd (decide_eq_true (show (n:Int) < 2 by lia)) h0
   ·exact z
  exists ⟨b,2,rfl,X0.bag,by decide,by decide,λv H1 v0 v1 B1 u1=>?_⟩;have X1:=X0.upto MA u1 B1;have kp1:=kp0.upto u1;exists gZ (λh1=>?_) (λh1=>?_)
  ·exists bz λr H' s' g'=>?_
   exact done r us H' 0 (by decide) g' (X1.same s') (kp1.same s')
  exists ⟨b,3,rfl,B1,by decide,by decide,λc H2 c0 c1 B2 u2=>?_⟩;have X2:=X1.upto MA u2 B2;have kp2:=kp1.upto u2;clear X0 X1 kp0 kp1 u1 u2 B1;exists ⟨by lia,by lia,?_⟩;refine eF (n:=(1+c).toNat) (λt σ' H'=>∃(x1 x2 x3 x4 x5 x6:Option V) (us:List V),σ'=[some (.ref b),some (.ref m),some (.ref p),some (.ref l),some (.int n),x1,x2,x3,x4,x5,x6]/\gJ K A H' n (λ_=>Fr M (9^t*WV)) m p l b q0 us ws vs/\eQ A b m H H') ⟨none,none,none,none,none,none,us,rfl,X2,kp2⟩ ?_ ?_
  ·rintro t σ' H' ht ⟨x1,x2,x3,x4,x5,x6,us,rfl,X,kp⟩;have t3:t<=2:=by lia
   exists ⟨b,n,rfl,X.bag,by lia,by lia,λii Ha i0 i1 Ba ua=>?_⟩;obtain ⟨ii,rfl⟩:=bL i0;have Xa:=X.upto MA ua Ba;have kpa:=kp.upto ua;exists ⟨b,_,rfl,Ba,by lia,by lia,λd Hb d0 d1 Bb ub=>?_⟩;have Xb:=Xa.upto MA ub Bb;have kpb:=kpa.upto ub;exists gD (show (0:Int) < n by lia) ?_;have j0:=iG ((ii:Int)+1+d) (show (n:Int)≠0 by lia);have j1:=fh ((ii:Int)+1+d) (show (0:Int) < n by lia);generalize ((ii:Int)+1+d) % (n:Int)=jj at j0 j1 ⊢;obtain ⟨jj,rfl⟩:=bL j0;exists cE λl0 Hc sc nc gc=>?_
   exists ⟨b,4,rfl,Bb.same sc,by decide,by decide,λv' Hd v0' v1' Bd ud=>?_⟩;have gd:=ud.other (λz=>Bb.at (by rw[<- z];exact nc)) gc;obtain ⟨x,ex,mx,_⟩:=lL (xs:=[V.int 1,V.int (-1),V.int 2,V.int (-2)]) v0' (by simpa using v1')
   obtain ⟨z,rfl,hz⟩:∃z:Int,x=.int z/\z.natAbs<=2:=by
    simp only[az,bg,or_false] at mx;rcases mx with rfl | rfl | rfl | rfl
    ·exact ⟨1,rfl,by decide⟩
    ·exact ⟨-1,rfl,by decide⟩
    ·exact ⟨2,rfl,by decide⟩
    ·exact ⟨-2,rfl,by decide⟩
   have Xd:=(Xb.same sc).upto MA ud Bd;have kpd:=(kpb.same sc).upto ud;exists cF (bD.of gd) ex ?_;exists bz λbt He se ge=>?_
   exists bz λlt Hf sf gf=>?_
   have Xf:=(Xd.same se).same sf;have kpf:=(kpd.same se).same sf;have nb:cg K Hf ((z:Int):Rat) (.ref bt):=cg.mk (sf _ _ ge) rfl;have nl:cg K Hf ((0 - z:Int):Rat) (.ref lt):=cg.mk gf rfl;clear X Xa Xb Xd kp kpa kpb kpd ua ub ud sc gc gd ex mx ge gf se sf Ba Bb Bd nc;have gu:=Xf.gm;have lu:=Xf.lm;have ru:∀x∈us,fq K A Hf n (Fr M (9^t*WV)) x:=λx hx=>Xf.row x (by simp [hx])
   have e1:us[ii]?=some (us[ii]'(by lia)):=by simp
   have e2:us[jj]?=some (us[jj]'(by lia)):=by simp
   obtain ⟨q1,z1,qs1,w1,a1,g1,k1,p1,l1,c1⟩:=(ru _ (au e1)).at;obtain ⟨q2,z2,qs2,w2,a2,g2,k2,p2,l2,c2⟩:=(ru _ (au e2)).at;rw[w1] at e1;rw[w2] at e2;generalize eW:9^t*WV=W at *
   have W9:9*W<=2^140:=by rw[<- eW];exact Bs (by lia) V1 (by decide)
   have sz9:∀{x:Rat} {U:Nat},U<=9*W->Fr M U x->Aw x:=λhU h=>BM M0 M1 (ar hU W9) h
   exists cF (bD.of gu) (c6 e1) ?_;exists cF (bD.of gu) (c6 e2) ?_;exists ⟨_,q2,_,qs2,rfl,nb,t5 (by lia),⟨z2,g2,p2⟩,by lia,λy hy=>sz9 (by lia) (c2 y hy),λr1 Hg n1 sg R1=>?_⟩;exists ⟨q1,r1,qs1,_,rfl,⟨z1,sg _ _ g1,Paired.imp' (λ_ _ y=>y.same sg) p1⟩,R1,by rw[ay,l1,l2],by lia,λy hy=>sz9 (by lia) (c1 y hy),λy hy=>?_,λr2 Hh n2' sh R2=>?_⟩
   ·obtain ⟨y',hy',rfl⟩:=be.mp hy;exact qP hz (c2 y' hy') M0 M1 (by lia)
   have sfh:=sg.trans sh
   have new:V.ref r2∉us++vs++ws:=λz=>by
    obtain ⟨q',_,_,e',_,g',_⟩:=((Xf.same sg).row _ z).at;cases e';rw[n2'] at g';cases g'
   have Xh:=(Xf.same sfh).weak (C':=λx y=>(x∈ws->Fr M W y)/\Fr M (3*W) y) λx _ y h=>⟨λ_=>h,h.mono (by lia)⟩
   have kph:=kpf.same sfh;have guh:=sfh _ _ gu;have ar2:A r2:=(kpf.same sg).new hA (Xf.same sg).bag (by rw[sg _ _ gu];simp) n2'
   have rp2:fq K A Hh n (λy=>(V.ref r2∈ws->Fr M W y)/\Fr M (3*W) y) (.ref r2):=by
    refine ⟨r2,_,rfl,ar2,R2,by rw[List.length_zipWith,ay];lia,λy hy=>⟨λz=>absurd (aO.mpr (.inr z)) new,?_⟩⟩;obtain ⟨j',hj',e⟩:=List.getElem_of_mem hy;rw[List.getElem_zipWith,List.getElem_map] at e;rw[<- e];exact uI hz (c1 _ (j4 _)) (c2 _ (j4 _))
   exists eZ guh (fO (by lia)) rfl ?_;have Xi:=Xh.set MA rp2 new ii;have kpi:=kph.upd (o:=.lst (us.set ii (.ref r2))) (q:=m) (.inr rfl);have nli:cg K (upd Hh m (.lst (us.set ii (.ref r2)))) ((0 - z:Int):Rat) (.ref lt):=(nl.same sfh).updL guh;have nbi:cg K (upd Hh m (.lst (us.set ii (.ref r2)))) ((z:Int):Rat) (.ref bt):=(nb.same sfh).updL guh;generalize upd Hh m (.lst (us.set ii (.ref r2)))=Hi at Xi kpi nli nbi ⊢;generalize us.set ii (.ref r2)=um at Xi;clear nb nl Xf kpf gu ru e1 e2 g1 p1 g2 p2 R1 R2 Xh kph guh rp2 sg sh sfh new;have gm:=Xi.gm;have lm:=Xi.lm;have gl:=Xi.gl;have nd:=Xi.nd;obtain ⟨nd1,nd2,nd3⟩:=fV.mp nd;exists DB gm gl (bR (b4 (by lia))) λcl Hj sj nj gj=>?_
   have kpj:=kpi.same sj
   have rows:∀x∈um++vs,∀q,x=V.ref q->q≠cl:=λx hx q e y=>by
    obtain ⟨q',zs,_,e',_,g',_⟩:=(Xi.row x (aO.mpr (.inl hx))).at;rw[e] at e';cases e';rw[y,nj] at g';cases g'
   have Xj:=(Xi.same sj).weak (C':=λx y=>(x∈ws->Fr M W y)/\(x∈(um++vs).drop 0->Fr M (3*W) y)/\Fr M (9*W) y) λx _ y h=>⟨h.1,λ_=>h.2,h.2.mono (by lia)⟩
   have lj:cg K Hj ((0 - z:Int):Rat) (.ref lt):=nli.same sj;have bj:cg K Hj ((z:Int):Rat) (.ref bt):=nbi.same sj;clear Xi kpi nli nbi;refine ⟨_,rfl,⟨_,bD.of gj⟩,?_⟩;refine iW (K:=K) (a:=cl) (xs:=um++vs) (λs σ' H'=>∃x6:Option V,σ'=[some (.ref b),some (.ref m),some (.ref p),some (.ref l),some (.int n),some (.int t),some (.int ii),some (.int jj),some (.ref bt),some (.ref lt),x6]/\gJ K A H' n (λx y=>(x∈ws->Fr M W y)/\(x∈(um++vs).drop s->Fr M (3*W) y)/\Fr M (9*W) y) m p l b q0 um ws vs/\eQ A b m H H'/\H' cl=some (.lst (um++vs))/\cg K H' ((0 - z:Int):Rat) (.ref lt)/\cg K H' ((z:Int):Rat) (.ref bt)) ⟨_,rfl,Xj,kpj,gj,lj,bj⟩ (λs σ' H' _ ⟨_,_,_,_,e,_⟩=>bD.of e) ?_ ?_
   ·rintro s x σ' Hk hx ⟨y6,rfl,Xk,kpk,gk,lk,bk⟩;have hs:s < (um++vs).length:=(aK.mp hx).1;have mx:=au hx
    have xd:x∈(um++vs).drop s:=by
     rw[cU hs,(aK.mp hx).2];exact .head _
    have xd2:x∉(um++vs).drop (s+1):=λz=>by
     have:=nd1.sublist (List.drop_sublist s _);rw[cU hs,cR,(aK.mp hx).2] at this;exact this.1 z
    have xw:x∉ws:=λz=>nd3 x mx x z rfl
    have rx:=Xk.row x (aO.mpr (.inl mx));obtain ⟨q,zs,qs,rfl,aq,gq,lq,pq,lq2,cq⟩:=rx.at;have qcl:=rows _ mx q rfl;obtain ⟨vj,ej,nj'⟩:=Eb pq (j:=jj) (by lia);obtain ⟨vi,ei,ni'⟩:=Eb pq (j:=ii) (by lia);have cj:=(cq _ (getD_mem (xs:=qs) (i:=jj) (by lia))).2.1 xd;have ci:=(cq _ (getD_mem (xs:=qs) (i:=ii) (by lia))).2.1 xd;exists cF (bD.of gq) ej ?_;exists cF (bD.of gq) ei ?_;exists ⟨_,_,_,_,rfl,lk,ni',t5 (by lia),sz9 (by lia) ci,λr3 Hl sl n3=>?_⟩;exists ⟨_,_,_,_,rfl,nj'.same sl,n3,sz9 (by lia) cj,qP (by lia) ci M0 M1 (by lia),λr4 Hm sm n4=>?_⟩;have slm:=sl.trans sm;exists eZ (slm _ _ gq) (fO (by lia)) rfl ?_;refine ⟨_,rfl,?_,(kpk.same slm).upd (.inl aq),by rw[aU qcl.symm];exact slm _ _ gk,(lk.same slm).updL (slm _ _ gq),(bk.same slm).updL (slm _ _ gq)⟩;refine ((Xk.same slm).weak λx' _ y h=>⟨h.1,λz=>h.2.1 ?_,h.2.2⟩).put MA aq (slm _ _ gq) n4 ⟨λz=>absurd z xw,λz=>absurd z xd2,?_⟩ jj
    ·rw[cU hs];exact .tail _ z
    ·exact (uI (by lia) cj ci).mono (by lia)
   ·rintro σ' Hk ⟨y6,rfl,Xk,kpk,gk,lk,bk⟩;have gp:=Xk.gp;have Xk2:=Xk.weak (C':=λx y=>(x∈ws.drop 0->Fr M W y)/\Fr M (9*W) y) λx _ y h=>⟨λz=>h.1 (by simpa using z),h.2.2⟩
    clear Xk;exists ⟨⟨_,bD.of gp⟩,?_⟩;refine iW (K:=K) (a:=p) (xs:=ws) (λs σ' H'=>∃x6:Option V,σ'=[some (.ref b),some (.ref m),some (.ref p),some (.ref l),some (.int n),some (.int t),some (.int ii),some (.int jj),some (.ref bt),some (.ref lt),x6]/\gJ K A H' n (λx y=>(x∈ws.drop s->Fr M W y)/\Fr M (9*W) y) m p l b q0 um ws vs/\eQ A b m H H'/\cg K H' ((z:Int):Rat) (.ref bt)) ⟨_,rfl,Xk2,kpk,bk⟩ (λs σ' H' _ ⟨_,_,X,_⟩=>bD.of X.gp) ?_ ?_
    ·rintro s x σ' Hl hx ⟨w6,rfl,Xl,kpl,bl⟩;have hs:s < ws.length:=(aK.mp hx).1;have mx:=au hx
     have xd:x∈ws.drop s:=by
      rw[cU hs,(aK.mp hx).2];exact .head _
     have xd2:x∉ws.drop (s+1):=λz=>by
      have:=nd2.sublist (List.drop_sublist s _);rw[cU hs,cR,(aK.mp hx).2] at this;exact this.1 z
     have rx:=Xl.row x (aO.mpr (.inr mx));obtain ⟨q,zs,qs,rfl,aq,gq,lq,pq,lq2,cq⟩:=rx.at;obtain ⟨vj,ej,nj'⟩:=Eb pq (j:=jj) (by lia);obtain ⟨vi,ei,ni'⟩:=Eb pq (j:=ii) (by lia);have cj:=(cq _ (getD_mem (xs:=qs) (i:=jj) (by lia))).1 xd;have ci:=(cq _ (getD_mem (xs:=qs) (i:=ii) (by lia))).1 xd;exists cF (bD.of gq) ei ?_;exists cF (bD.of gq) ej ?_;exists ⟨_,_,_,_,rfl,bl,nj',t5 (by lia),sz9 (by lia) cj,λr3 Hm sm n3=>?_⟩;exists ⟨_,_,_,_,rfl,ni'.same sm,n3,sz9 (by lia) ci,qP (by lia) cj M0 M1 (by lia),λr4 Hn sn n4=>?_⟩;have smn:=sm.trans sn;exists eZ (smn _ _ gq) (fO (by lia)) rfl ?_;refine ⟨_,rfl,?_,(kpl.same smn).upd (.inl aq),(bl.same smn).updL (smn _ _ gq)⟩;refine ((Xl.same smn).weak λx' _ y h=>⟨λz=>h.1 ?_,h.2⟩).put MA aq (smn _ _ gq) n4 ⟨λz=>absurd z xd2,?_⟩ ii
     ·rw[cU hs];exact .tail _ z
     ·exact (uI (by lia) ci cj).mono (by lia)
    ·rintro σ' Hl ⟨w6,rfl,Xl,kpl,bl⟩;refine ⟨_,_,_,_,_,_,um,rfl,Xl.weak λ_ _ y h=>h.2.mono ?_,kpl⟩;rw[<- eW,lZ,ye (9^t) 9,oN];exact ax _
  ·rintro σ' H' ⟨x1,x2,x3,x4,x5,x6,us',rfl,X,kp⟩;exists bz λr H2' s' g'=>?_
   exact done r us' H2' _ (by lia) g' (X.same s') (kp.same s')
theorem cC:a8 ["_law_bag_here","_law_n","_law_ins","_law_outs","_law_wide","_law_way","_law_first","_law_move_here","_law_put","_law_look","_law_k","_law_row_here"] ["_law_bag_here","_law_n","_law_ins","_law_outs","_law_wide"] (aI ka):=by walk_at "d"
theorem sJ (T : Txt K mg Z) : ck P w K mg base jb 5 Z.oE Z.ow ["_law_bag_here", "_law_n", "_law_ins", "_law_outs", "_law_wide"] (sX K) := by
  have jt := aS (P := P) (w := w) (base := base) T;have vV := ux (P := P) (w := w) (base := base) T;have sF := pI (P := P) (w := w) (base := base) T;have uP := sL (P := P) (w := w) (base := base) T;refine T.jG.F.ok cC (λvs H Q E h => ?_) (λcdv A outer s H vs Q E hr h => ?_)
  · obtain ⟨b, n, i, o, w, c, rfl, _⟩ := h;rfl
  · obtain ⟨b, n, i, o, w, c, rfl, hB, n8, i4, o4, w0, w1, hc, hc20, hcM, k⟩ := h
    refine ⟨_, (ag (aY (i := 5) cC.nd rfl (Or.inl rfl) (cW jt hr T.aM (aa (pv 0) (aa af ae))))
      (ag (aY (i := 6) cC.nd rfl (Or.inl rfl) (cW jt hr T.aM (aa (pv 0) (aa (aZ bT (pv 1) af) ae))))
      (ag (aY (i := 7) cC.nd rfl (Or.inl rfl) (cW vV hr T.kr (aa (pv 0) (aa (pv 1) (aa (pv 5) (aa (pv 6) (aa (pv 4) ae)))))))
      (ag (qA 8 ["_law_k"] ["_law_bag_here", "_law_n", "_law_wide"] [0, 1, 4] cC.nd rfl rfl (cx rfl T.range (aa (pv 2) ae)) (λ_ => (a6 (i := 0) (show List.Nodup (α := PySem.Str) ["_law_k", "_law_bag_here", "_law_n", "_law_wide"] by decide +kernel))) (λ_ => c8) (λ_ => (cW sF hr T.gY (aa (pv 1) (aa (pv 2) (aa (pv 3) ae))))))
      (ag (qA 9 ["_law_k"] ["_law_bag_here", "_law_n", "_law_wide"] [0, 1, 4] cC.nd rfl rfl (cx rfl T.range (aa (pv 3) ae)) (λ_ => (a6 (i := 0) (show List.Nodup (α := PySem.Str) ["_law_k", "_law_bag_here", "_law_n", "_law_wide"] by decide +kernel))) (λ_ => c8) (λ_ => (cW sF hr T.gY (aa (pv 1) (aa (pv 2) (aa (pv 3) ae))))))
      (ag (dQ PassesOwn.never rfl (cx rfl T.range (aa (pv 1) ae)) (a6 (i := 10) cC.nd)
        (ag (dQ PassesOwn.never rfl (cL (pv 8)) (a6 (i := 11) cC.nd)
        (ak (bh (PW.pt (df (PW.pt (eh (aB cH (pv 5) af (aJ _)) (eI (aB tz (pv 10) (pv 6) (aJ _))))) (cT (PW.pt (eh (aB cH (pv 5) af (aJ _)) (eh (aB kv (aZ bT (pv 10) af) (pv 1) (aJ _)) (eI (aB cH (cW jt hr T.aM (aa (pv 0) (aa af ae))) af (aJ _))))))))) (ak (fm (cn (aa af (aa af ae))) (ip (pv 11) (pv 10) set_list))) aN)))
      (ak (dQ PassesOwn.never rfl (cL (pv 9)) (a6 (i := 11) cC.nd)
        (ak (bh (PW.pt (df (PW.pt (eh (aB cH (pv 5) af (aJ _)) (eI (aB tz (pv 10) (pv 6) (aJ _))))) (cT (PW.pt (eh (aB cH (pv 5) af (aJ _)) (eh (aB kZ (pv 10) af (aJ _)) (eI (aB cH (cW jt hr T.aM (aa (pv 0) (aa af ae))) af (aJ _))))))))) (ak (fm (cn (aa af (aa af ae))) (ip (pv 11) (pv 10) set_list))) aN))))))
      (ak (aL (cW uP hr T.jH (aa (pv 0) (aa (pv 7) (aa (pv 8) (aa (pv 9) ae))))))))))))), ?_⟩
    refine aV (σ := [some (.ref b), some (.int n), some (.int i), some (.int o), some (.int w), none, none, none, none, none, none, none]) rfl ?_;have W1 : 1 ≤ max w 6 := by lia
    obtain ⟨q0, I0, xs0, gq0⟩ := hB.inner;exists ⟨b, 6, rfl, hB, by decide, by decide, λway H1 a0 a1 B1 u1 => ?_⟩;exists ⟨b, _, rfl, B1, by lia, by lia, λfirst H2 f0 f1 B2 u2 => ?_⟩;have u02 := u1.trans u2;exists ⟨b, n, w, way, first, rfl, B2, n8, w0, w1, λm us H3 nm0 gm lm ndm rm B3 u3 => ?_⟩;have u03 := u02.trans u3;exists ⟨by lia, by lia, ?_⟩;refine tR (n := i) (b := b) (jL K H3) (λxs => xs.length = n /\ ∀ x ∈ xs, Dr (max w 6) x) B3 (by lia) (λa u B => a.upto u B B3.at) (λ⟨q, e, _, _, g, _⟩ => ⟨q, e, by rw [g]; exact λz => nomatch z⟩) ?_ ?_
    · rintro s H' NY NN hi u B k1;exists ⟨b, n, w, rfl, B, by lia, w0, w1, λr xs H2 nr R lx dx B2 u2 => k1 _ xs _ u2 B2 ⟨lx, dx⟩ ⟨r, rfl, u.none B nr, R⟩ ⟨r, rfl, nr⟩⟩
    rintro ws puts H4 p np u4 B4 gp lp ndp hp pr4 nx4;have u04 := u03.trans u4;exists ⟨by lia, by lia, ?_⟩;refine tR (n := o) (b := b) (jL K H4) (λxs => xs.length = n /\ ∀ x ∈ xs, Dr (max w 6) x) B4 (by lia) (λa u B => a.upto u B B4.at) (λ⟨q, e, _, _, g, _⟩ => ⟨q, e, by rw [g]; exact λz => nomatch z⟩) ?_ ?_
    · rintro s H' NY NN hi u B k1;exists ⟨b, n, w, rfl, B, by lia, w0, w1, λr xs H2 nr R lx dx B2 u2 => k1 _ xs _ u2 B2 ⟨lx, dx⟩ ⟨r, rfl, u.none B nr, R⟩ ⟨r, rfl, nr⟩⟩
    rintro vs looks H5 l nl u5 B5 gl ll ndl hl pr5 nx5;have u05 := u04.trans u5;have hm0 : H m = none := u02.none B2 nm0;have hp0 : H p = none := u03.none B3 np;have hl0 : H l = none := u04.none B4 nl;have mb : m ≠ b := λz => B2.at (by rw [<- z]; exact nm0)
    have pb : p ≠ b := λz => B3.at (by rw [<- z]; exact np)
    have lb : l ≠ b := λz => B4.at (by rw [<- z]; exact nl)
    have gm4 := u4.other mb gm;have gm5 := u5.other mb gm4;have gp5 := u5.other pb gp;have mp : m ≠ p := λz => by rw [z, np] at gm; cases gm
    have ml : m ≠ l := λz => by rw [z, nl] at gm4; cases gm4
    have pl : p ≠ l := λz => by rw [z, nl] at gp; cases gp
    have mq : m ≠ q0 := λz => Inner.at B2 (u02.2 _ I0) (by rw [<- z]; exact nm0)
    obtain ⟨A, eA⟩ : ∃ A : Addr → Prop, A = λq => H q = none /\ q ≠ m /\ q ≠ p /\ q ≠ l := ⟨_, rfl⟩
    have mkA : ∀ {q}, H q = none → q ≠ m → q ≠ p → q ≠ l → A q := λh1 h2 h3 h4 => by rw [eA]; exact ⟨h1, h2, h3, h4⟩
    have unA : ∀ {q}, A q → H q = none /\ q ≠ m /\ q ≠ p /\ q ≠ l := λh => by rw [eA] at h; exact h
    have MA : xc A m p l b q0 := ⟨λz => (unA z).2.1 rfl, λz => (unA z).2.2.1 rfl, λz => (unA z).2.2.2 rfl, λz => hB.at (unA z).1, (λz => by have z1 := (unA z).1; rw [gq0] at z1; cases z1), mb, pb, lb, mp, ml, mq⟩;clear eA;have lws : ws.length = i := by rw [<- pr4.length]; exact lp
    have lvs : vs.length = o := by rw [<- pr5.length]; exact ll
    have alM : ∀ q, V.ref q ∈ us → H3 q ≠ none /\ q ≠ b /\ H4 q ≠ none := λq hq => by
      obtain ⟨q', qs, e, ⟨a1, a2⟩, r, z⟩ := rm _ hq;cases e;have qb : q ≠ b := λy => B2.at (by rw [<- y]; exact a1)
      obtain ⟨xq, gq, _⟩ := id r;obtain ⟨xq4, gq4, _⟩ := r.upto u4 B3 qb;exact ⟨(by rw [gq]; exact λz => nomatch z), qb, (by rw [gq4]; exact λz => nomatch z)⟩
    have alP : ∀ q, V.ref q ∈ ws → H3 q = none /\ H4 q ≠ none := λq hq => by
      obtain ⟨_, _, q', e, a, _, g, _⟩ := dk pr4 hq;cases e;exact ⟨a, by rw [g]; exact λz => nomatch z⟩
    have alL : ∀ q, V.ref q ∈ vs → H4 q = none := λq hq => by
      obtain ⟨_, _, q', e, a, _⟩ := dk pr5 hq;cases e;exact a
    have isR : ∀ x, x ∈ us \/ x ∈ ws \/ x ∈ vs → ∃ q, x = V.ref q := λx hx => by
      rcases hx with hx | hx | hx
      · obtain ⟨q, _, e, _⟩ := rm x hx; exact ⟨q, e⟩
      · obtain ⟨_, _, q, e, _⟩ := dk pr4 hx; exact ⟨q, e⟩
      · obtain ⟨_, _, q, e, _⟩ := dk pr5 hx; exact ⟨q, e⟩
    have nd : (us ++ vs ++ ws).Nodup := by
      refine fV.mpr ⟨fV.mpr ⟨ndm, ndl, λx hx y hy e => ?_⟩, ndp, λx hx y hy e => ?_⟩
      · subst e;obtain ⟨q, rfl⟩ := isR x (.inl hx);exact (alM q hx).2.2 (alL q hy)
      · subst e;obtain ⟨q, rfl⟩ := isR x (.inr (.inl hy));rcases aO.mp hx with hx | hx
        · exact (alM q hx).1 (alP q hy).1
        · exact (alP q hy).2 (alL q hx)
    have X5 : xb K A n (Dr (max w 6)) m p l b q0 us ws vs H H5 := by
      refine ⟨⟨B5, u05.2 _ I0, gm5, gp5, gl, lm, λx hx => ?_, nd⟩, gp5, gl, λc u e n1 _ _ => u05.1 c u e n1⟩;rcases aO.mp hx with hx | hx
      · rcases aO.mp hx with hx | hx
        · obtain ⟨q, qs, e, ⟨a1, a2⟩, r, z⟩ := rm x hx;obtain ⟨xq, gq, _⟩ := id r;have qb : q ≠ b := λy => B2.at (by rw [<- y]; exact a1)
          have r4 := r.upto u4 B3 qb;obtain ⟨xq4, gq4, _⟩ := id r4;exact ⟨q, qs, e, mkA (u02.none B2 a1) a2 (λy => by rw [y, np] at gq; cases gq) (λy => by rw [y, nl] at gq4; cases gq4), r4.upto u5 B4 qb, z⟩
        · refine zM (A := A) pr5 hl (λq hq a b' => ?_) x hx;exact mkA (u04.none B4 a) (λy => by rw [y, gm4] at a; cases a) (λy => by rw [y, gp] at a; cases a) (λy => vE nx5 (by rw [<- y]; exact hq))
      · refine fq.upto (zM (A := A) pr4 hp (λq hq a b' => ?_) x hx) u5 B4 MA.ab;exact mkA (u03.none B3 a) (λy => by rw [y, gm] at a; cases a) (λy => vE nx4 (by rw [<- y]; exact hq)) (λy => b' (by rw [y]; exact nl))
    clear alM alP alL isR rm pr4 pr5 nx4 nx5 gm gm4 gm5 gp gp5 gl hp hl;exists ⟨by lia, by lia, ?_⟩;refine eF (n := n) (λkk σ' H' => (∃ x1 x2, σ' = [some (.ref b), some (.int n), some (.int i), some (.int o), some (.int w), some (.int way), some (.int first), some (.ref m), some (.ref p), some (.ref l), x1, x2]) /\ xb K A n (Dr (max w 6)) m p l b q0 us ws vs H H') ⟨⟨_, _, rfl⟩, X5⟩ ?_ ?_
    · rintro kk σ' Hj hk ⟨⟨x1, x2, rfl⟩, X⟩;exists ⟨⟨_, bD.of X.gp⟩, ?_⟩;refine iW (K := K) (a := p) (xs := ws) (λs σ' H' => (∃ x2, σ' = [some (.ref b), some (.int n), some (.int i), some (.int o), some (.int w), some (.int way), some (.int first), some (.ref m), some (.ref p), some (.ref l), some (.int kk), x2]) /\ xb K A n (Dr (max w 6)) m p l b q0 us ws vs H H') ⟨⟨_, rfl⟩, X⟩ (λs σ' H' _ ⟨_, e⟩ => bD.of e.gp) ?_ ?_
      · rintro s x σ' Hk hx ⟨⟨y2, rfl⟩, X⟩;have mx := au hx;obtain ⟨q, _, rfl, _⟩ := X.row (.inl mx)
        repeat' (first | walk_at "rd" | refine gZ (λ_ => ?_) (λ_ => ?_))
        all_goals first
          | exact ⟨⟨_, rfl⟩, X⟩
          | (refine bz λt Hb sb gb => ?_; walk_at "w"; obtain ⟨zs, gz, lz, Xz⟩ := (X.same sb).put MA (.inl mx) (cg.mk (q := 0) gb rfl) (lA (i := 0) (bf _) W1) kk; refine eZ gz (fO (by lia)) rfl ?_; exact ⟨⟨_, rfl⟩, Xz⟩)
          | (refine ⟨b, 2, rfl, X.mix.bag, by decide, by decide, λd Hd d0 d1 Bd ud => ?_⟩
             replace X := X.upto MA ud Bd
             repeat' (first | walk_at "rd" | refine gZ (λ_ => ?_) (λ_ => ?_))
             all_goals first
               | exact ⟨⟨_, rfl⟩, X⟩
               | (refine bz λt Hb sb gb => ?_
                  walk_at "w";obtain ⟨zs, gz, lz, Xz⟩ := (X.same sb).put MA (.inl mx) (cg.mk (q := 0) gb rfl) (lA (i := 0) (bf _) W1) kk;refine eZ gz (fO (by lia)) rfl ?_;exact ⟨⟨_, rfl⟩, Xz⟩))
      · rintro σ' Hk ⟨⟨y2, rfl⟩, X⟩;exists ⟨⟨_, bD.of X.gl⟩, ?_⟩;refine iW (K := K) (a := l) (xs := vs) (λs σ' H' => (∃ x2, σ' = [some (.ref b), some (.int n), some (.int i), some (.int o), some (.int w), some (.int way), some (.int first), some (.ref m), some (.ref p), some (.ref l), some (.int kk), x2]) /\ xb K A n (Dr (max w 6)) m p l b q0 us ws vs H H') ⟨⟨_, rfl⟩, X⟩ (λs σ' H' _ ⟨_, e⟩ => bD.of e.gl) ?_ ?_
        · rintro s x σ' Hk hx ⟨⟨y2, rfl⟩, X⟩;have mx := au hx;obtain ⟨q, _, rfl, _⟩ := X.row (.inr mx)
          repeat' (first | walk_at "rd" | refine gZ (λ_ => ?_) (λ_ => ?_))
          all_goals first
            | exact ⟨⟨_, rfl⟩, X⟩
            | (refine bz λt Hb sb gb => ?_; walk_at "w"; obtain ⟨zs, gz, lz, Xz⟩ := (X.same sb).put MA (.inr mx) (cg.mk (q := 0) gb rfl) (lA (i := 0) (bf _) W1) kk; refine eZ gz (fO (by lia)) rfl ?_; exact ⟨⟨_, rfl⟩, Xz⟩)
            | (refine ⟨b, 2, rfl, X.mix.bag, by decide, by decide, λd Hd d0 d1 Bd ud => ?_⟩
               replace X := X.upto MA ud Bd
               repeat' (first | walk_at "rd" | refine gZ (λ_ => ?_) (λ_ => ?_))
               all_goals first
                 | exact ⟨⟨_, rfl⟩, X⟩
                 | (refine bz λt Hb sb gb => ?_
                    walk_at "w";obtain ⟨zs, gz, lz, Xz⟩ := (X.same sb).put MA (.inr mx) (cg.mk (q := 0) gb rfl) (lA (i := 0) (bf _) W1) kk;refine eZ gz (fO (by lia)) rfl ?_;exact ⟨⟨_, rfl⟩, Xz⟩))
        · rintro σ' Hk ⟨⟨y2, rfl⟩, X⟩;exact ⟨⟨_, _, rfl⟩, X⟩
    · rintro σ' Hj ⟨⟨x1, x2, rfl⟩, X⟩
      obtain ⟨M, V0, M0, M8, V2, hcs, XM⟩ : ∃ M V0 : Nat, 0 < M /\ M ≤ 2 ^ 800 /\ V0 ≤ 2 ^ 20 /\ ((w ≤ 9 /\ M = 2520 /\ V0 = 9) \/ (9 < w /\ M ≤ 2 ^ (c * ((n + i + o) * n)) /\ V0 = 2 ^ c)) /\ gJ K A Hj n (λ_ => Fr M V0) m p l b q0 us ws vs := by
        by_cases w9 : w ≤ 9
        · exact ⟨2520, 9, by decide, ar (show 2520 ≤ 2 ^ 12 by decide) (aG (by decide) (by decide)), by decide, .inl ⟨w9, rfl, rfl⟩, X.mix.weak λ_ _ y h => D2 ⟨ar h.1 (by lia), ar h.2 (by lia)⟩ (Nat.dvd_refl _)⟩
        · obtain ⟨M, M0, M1, XM⟩ := (X.mix.weak (C' := λ_ => Dr (2 ^ c)) λ_ _ y h => ⟨ar h.1 hc, ar h.2 hc⟩).fr;rw [lws, lvs] at M1;exact ⟨M, 2 ^ c, M0, ar M1 (aG (by decide) hcM), aG (by decide) hc20, .inr ⟨by lia, M1, rfl⟩, XM⟩
      have gmj := X.mix.gm;exists ⟨b, m, p, l, q0, n, M, V0, A, us, ws, vs, rfl, MA, XM, n8, by lia, by lia, M0, M8, V2, λq hq => ?_, λr us' H' g Y kp => ?_⟩
      · refine mkA ?_ (λz => by rw [z, gmj] at hq; cases hq) (λz => by rw [z, X.gp] at hq; cases hq) (λz => by rw [z, X.gl] at hq; cases hq);cases e : H q with
        | none => rfl
        | some u =>
          have := X.kp q u e (λz => X.mix.bag.at (by rw [<- z]; exact hq)) (λz => by have := (unA z).1; rw [e] at this; cases this) (λz => by rw [z, hm0] at e; cases e);rw [hq] at this; cases this
      · obtain ⟨mv, Gm, lmv, hmv⟩ := nD (H0 := H) (n := n) (C := Fr M (9 ^ 3 * V0)) (m := n) ⟨us', Y.gm, Y.lm, MA.am, λx hx => Y.row x (by simp [hx])⟩ λq h => (unA h).1
        obtain ⟨pt, Gp, lpt, hpt⟩ := nD (H0 := H) (n := n) (C := Fr M (9 ^ 3 * V0)) (m := i) ⟨ws, Y.gp, lws, MA.ap, λx hx => Y.row x (by simp [hx])⟩ λq h => (unA h).1
        obtain ⟨lk, Gl, llk, hlk⟩ := nD (H0 := H) (n := n) (C := Fr M (9 ^ 3 * V0)) (m := o) ⟨vs, Y.gl, lvs, MA.al, λx hx => Y.row x (by simp [hx])⟩ λq h => (unA h).1
        refine k r mv pt lk H' ⟨m, p, l, g, hm0, hp0, hl0, Gm, Gp, Gl⟩ lmv lpt llk ⟨by lia, by lia, by lia, λxs hx => by rw [(hmv xs hx).1, lmv], λxs hx => by rw [(hpt xs hx).1, lmv], λxs hx => by rw [(hlk xs hx).1, lmv]⟩ ⟨M, 9 ^ 3 * V0, M0, λxs hx => (hmv xs hx).2, λxs hx => (hpt xs hx).2, λxs hx => (hlk xs hx).2, ?_⟩ Y.bag ⟨λc' u e n1 => (X.kp.trans kp) c' u e n1 (λz => by have := (unA z).1; rw [e] at this; cases this) (λz => by rw [z, hm0] at e; cases e), λq h => by rw [<- Inner.inj I0 h]; exact Y.inn⟩;rcases hcs with ⟨a1, a2, a3⟩ | ⟨a1, a2, a3⟩
        · exact .inl ⟨a1, a2, by rw [a3]⟩
        · exact .inr ⟨a1, a2, by rw [a3]⟩
theorem mf:a8 ["_law_one"] ["_law_one"] (aI fk):=by walk_at "d"
theorem dv (T:Txt K mg Z):ck P w K mg base jb 1 Z.i5 Z.iY ["_law_one"] (zk K):=by
 refine T.cm.F.ok mf (λvs H Q E h=>?_) (λcdv A outer s H vs Q E hr h=>?_)
 ·obtain ⟨x,n,rfl,_⟩:=h;rfl
 ·obtain ⟨x,n,rfl,hx,hn,k⟩:=h
  refine ⟨_,(ag (bh (aB cH (a9 bN (pv 0) af) af (aJ _)) (ak (aL (b5 (gH rfl) (by rfl) T.str PyProof.Rows.boot_str (aa (a9 bN (pv 0) af) ae)))) aN)
   (ak (aL (aZ dm (aZ dm (b5 (gH rfl) (by rfl) T.str PyProof.Rows.boot_str (aa (a9 bN (pv 0) af) ae)) bB) (b5 (gH rfl) (by rfl) T.str PyProof.Rows.boot_str (aa (a9 bN (pv 0) af) ae)))))),?_⟩
  refine aV (σ:=[some x]) rfl ?_;obtain ⟨h1,h2,h3,h4⟩:=id hn;obtain ⟨p,rfl,hp⟩:=id hx;have z1:=qv h3;have z2:=qv h4;have l1:=xI h3;have l2:=uK h4;have e2:dn n.2=bJ n.2.natAbs:=by unfold dn;rw[if_neg (by lia)]
  walk_at "w";by_cases e:n.2=1
  ·rw[decide_eq_true e];exists ⟨z1,?_⟩;have et:bM n=dn n.1:=by unfold bM;rw[if_pos e,dS]
   rw[<- et];exact k
  ·rw[decide_eq_false e];exists ⟨z1,?_⟩;exists ⟨_,_,rfl,rfl,by rw[aR];exact bo (show (dn n.1).length+1<=_ by lia),?_⟩;exists ⟨z2,?_⟩;rw[e2];refine ⟨_,_,rfl,rfl,?_,?_⟩
   ·rw[show Str.ofString "/"=sl [47] from nN,iK,aR,aR,ai];exact bo (show (dn n.1).length+1+(bJ n.2.natAbs).length<=_ by lia)
   ·rw[show Str.ofString "/"=sl [47] from nN,iK,iK];have et:bM n=(dn n.1++[47])++bJ n.2.natAbs:=by unfold bM;rw[if_neg e,br];rfl
    rw[<- et];exact k
theorem oR:a8 ["_law_row_here"] ["_law_row_here"] (aI ik):=by walk_at "d"
theorem o6 (T:Txt K mg Z):ck P w K mg base jb 2 Z.kz Z.kx ["_law_row_here"] (zj K):=by
 refine T.gF.F.ok oR (λvs H Q E h=>?_) (λcdv A outer s H vs Q E hr h=>?_)
 ·obtain ⟨p,ns,rfl,_⟩:=h;rfl
 ·obtain ⟨p,ns,rfl,hp,hl,hn,k⟩:=h;refine ⟨_,(ak (aL (iO bG PySem.F.slot_str_join PySem.F.type_str_join xD bB (aa (du ["_law_one"] [] [] (cL (pv 0)) (λ_=>(a6 (i:=0) (show ND9 ["_law_one"] by decide +kernel))) (λ_=>c8) (λ_=>(cW (dv T) hr T.cm (aa (pv 0) ae)))) ae)))),?_⟩;refine aV (σ:=[some (.ref p)]) rfl ?_;obtain ⟨xs,gx,qx⟩:=id hp;have lx:=qx.length;exists ⟨rfl,?_⟩;exists ⟨⟨_,bD.of gx⟩,?_⟩;refine de (K:=K) (xs:=xs) (λi ys H'=>H'=H/\ys=((ns.take i).map λn=>sl (bM n)).map V.str) (bR (b4 (by lia))) ⟨rfl,rfl⟩ (λi ys H' _ ⟨e,_⟩=>by subst e;exact bD.of gx) ?_ ?_
  ·rintro i x ys H' hx hlen ⟨rfl,rfl⟩;obtain ⟨n,en,z⟩:=eL qx hx;exists ⟨x,n,rfl,z,hn n (au en),rfl,by rw[take_snoc en];simp⟩
  rintro ys H' hy ⟨rfl,rfl⟩ l hl';rw[ba (by lia)];exists ⟨_,l,ns.map λn=>sl (bM n),rfl,rfl,by decide,aA,by rw[ay];lia,λy hy=>?_,?_⟩
  ·obtain ⟨n,mn,rfl⟩:=be.mp hy;have:=xy (hn n mn);rw[aR]
   lia
  ·rw[show Str.ofString " "=sl [32] from kH,show (ns.map λn=>sl (bM n))=(ns.map bM).map sl by rw[d7];rfl,nO];exact k _ (aD.new hl')
theorem cP:a8 ["_law_parts_here","_law_words","_law_word_here","_law_grid","_law_row_here"] ["_law_parts_here"] (aI fj):=by walk_at "d"
theorem mh (T:Txt K mg Z):ck P w K mg base jb 2 Z.iZ Z.iX ["_law_parts_here"] (u0 K):=by
 refine T.eT.F.ok cP (λvs H Q E h=>?_) (λcdv A outer s H vs Q E hr h=>?_)
 ·obtain ⟨r,H0,mv,pt,lk,rfl,_⟩:=h;rfl
 ·obtain ⟨r,H0,mv,pt,lk,rfl,S,D,o1,o2,o3,k⟩:=h
  refine ⟨_,(ag (aY (i:=1) cP.nd rfl (Or.inl rfl) (c9 (aa (b5 (gH rfl) (by rfl) T.str PyProof.Rows.boot_str (aa (a5 aW (by rfl) T.len aH (aa (a9 bN (pv 0) af) ae)) ae)) (aa (b5 (gH rfl) (by rfl) T.str PyProof.Rows.boot_str (aa (a5 aW (by rfl) T.len aH (aa (a9 bN (pv 0) af) ae)) ae)) (aa (b5 (gH rfl) (by rfl) T.str PyProof.Rows.boot_str (aa (a5 aW (by rfl) T.len aH (aa (a9 bN (pv 0) af) ae)) ae)) ae)))))
   (ag (dQ PassesOwn.never rfl (cL (c9 (aa (cn (aa bB (aa (a9 bN (pv 0) af) ae))) (aa (cn (aa bB (aa (a9 bN (pv 0) af) ae))) (aa (cn (aa bB (aa (a9 bN (pv 0) af) ae))) ae))))) (oY rfl (dh (a6 (i:=2) cP.nd) (dh (a6 (i:=3) cP.nd) lT)))
    (ag (jh (iO eR iz iw lU (pv 1) (aa (pv 2) ae)))
   (ak (dQ PassesOwn.never rfl (cL (pv 3)) (a6 (i:=4) cP.nd)
    (ak (jh (iO eR PySem.F.slot_list_extend PySem.F.type_list_extend yy (pv 1) (aa (du ["_law_one"] [] [] (cL (pv 4)) (λ_=>(a6 (i:=0) (show ND9 ["_law_one"] by decide +kernel))) (λ_=>c8) (λ_=>(cW (dv T) hr T.cm (aa (pv 0) ae)))) ae))))))))
   (ak (aL (iO bG PySem.F.slot_str_join PySem.F.type_str_join xD bB (aa (pv 1) ae)))))),?_⟩
  refine aV (σ:=[some (.ref r),none,none,none,none]) rfl ?_;have d8:=D.n8;have d4:=D.i4;have d5:=D.o4;have q1:=gU D.n8 D.n8;have q2:=gU D.i4 D.n8;have q3:=gU D.o4 D.n8;have sm:∀n:Nat,n<=8->(((n:Nat):Int)).natAbs < 10^4300:=λn hn=>qv (show Sz 8000 ((n:Nat):Int) from av (show ((n:Nat):Int).natAbs < 2^10 by lia) (aG (by decide) (by decide)))
  have tn:∀n:Nat,dn ((n:Nat):Int)=bJ n:=λm=>by unfold dn;rw[if_neg (by lia),bZ]
  obtain ⟨am,ap,al,gr,a1,a2,a3,Gm,Gp,Gl⟩:=id S;obtain ⟨xm,gm,qm,_⟩:=id Gm;obtain ⟨xp,gp,qp,_⟩:=id Gp;obtain ⟨xl,gl0,ql,_⟩:=id Gl;have lm:=qm.length;have lp:=qp.length;have ll:=ql.length;exists ⟨_,_,rfl,.inl (bD.of gm),?_⟩;rw[<- lm];exists ⟨sm _ d8,?_⟩;exists ⟨_,_,rfl,.inl (bD.of gp),?_⟩;rw[<- lp];exists ⟨sm _ (by lia),?_⟩;exists ⟨_,_,rfl,.inl (bD.of gl0),?_⟩;rw[<- ll];exists ⟨sm _ (by lia),?_⟩;rw[tn,tn,tn];exists cE λl H1 s1 nl gl=>?_
  have gr1:=s1 _ _ gr;exists bz λt1 H2 s2 g2=>?_
  have gr2:=s2 _ _ gr1;exists bz λt2 H3 s3 g3=>?_
  have gr3:=s3 _ _ gr2;exists bz λt3 H4 s4 g4=>?_
  exists cE λlt H5 s5 n5 g5=>?_
  have s25:=(s2.trans s3).trans (s4.trans s5);have gl5:=s25 _ _ gl;have h5:=s5 _ _ g4;have h4:=(s4.trans s5) _ _ g3;have h3:=(s3.trans (s4.trans s5)) _ _ g2;have ne:∀{t:Addr} {o:List V},H5 t=some (.tup o)->t≠l:=λe z=>by rw[z,gl5] at e;cases e
  have lt5:lt≠l:=λz=>by have:=(s2.trans (s3.trans s4)) _ _ gl;rw[<- z,n5] at this;cases this
  have sm5:aD H (hole H5 l):=yq (s1.trans s25) nl;have m3:=oa h3 (ne h3);have m4:=oa h4 (ne h4);have m5:=oa h5 (ne h5);have mt:=oa g5 lt5;rw[C5] at m3;rw[C4] at m4;rw[C6] at m5;have GM:=Gm.same sm5;have GP:=Gp.same sm5;have GL:=Gl.same sm5
  have pick:∀(i:Nat) (v:V),[V.ref t1,V.ref t2,V.ref t3][i]?=some v->∃(t a:Addr) (w:List Nat) (g:LR9),v=.ref t/\hole H5 l t=some (.tup [.str (sl w),.ref a])/\c7 K H0 (hole H5 l) a g/\(∀xs∈g,xs.length=mv.length)/\g.length<=8/\sG g/\[wM :: gw mv,wP :: gw pt,wL :: gw lk][i]?=some (w :: gw g):=λi v hv=>by
   rcases i with _ | _ | _ | i
   ·cases hv;exact ⟨t1,_,wM,mv,rfl,m3,GM,D.mw,d8,o1,rfl⟩
   ·cases hv;exact ⟨t2,_,wP,pt,rfl,m4,GP,D.pw,by lia,o2,rfl⟩
   ·cases hv;exact ⟨t3,_,wL,lk,rfl,m5,GL,D.lw,by lia,o3,rfl⟩
   ·cases hv
  have lenB:∀i,i<=3->([bJ mv.length,bJ pt.length,bJ lk.length]++([wM :: gw mv,wP :: gw pt,wL :: gw lk].take i).flatten).length<=134:=λi hi=>by
   have e:=xk D;rw[qQ D] at e;have l1:=cy D.mw;have l2:=cy D.pw;have l3:=cy D.lw;rcases i with _ | _ | _ | _ | i
   ·show 3<=134;decide
   ·simp;lia
   ·simp;lia
   ·simp;lia
   ·lia
  have fin:[bJ mv.length,bJ pt.length,bJ lk.length]++([wM :: gw mv,wP :: gw pt,wL :: gw lk].take 3).flatten=j5 mv pt lk:=by unfold j5;simp
  have hs5:aD (hole H5 l) H5:=yE;have hml:hole H5 l l=none:=BK;generalize hole H5 l=Hm at pick mt sm5 hs5 hml ⊢;exists ⟨⟨_,bD.of g5⟩,?_⟩;refine iW (K:=K) (a:=lt) (xs:=[.ref t1,.ref t2,.ref t3]) (λi σ' H'=>aD Hm H'/\∃y1 y2 y3,σ'=[some (.ref r),some (.ref l),y1,y2,y3]/\H' l=some (.lst (fX ([bJ mv.length,bJ pt.length,bJ lk.length]++([wM :: gw mv,wP :: gw pt,wL :: gw lk].take i).flatten)))) ⟨hs5,_,_,_,rfl,gl5⟩ (λi σ' H' _ ⟨e,_⟩=>bD.of (e _ _ mt)) ?_ ?_
  ·rintro i v σ' H6 hv ⟨s6,y1,y2,y3,rfl,gl6⟩;obtain ⟨t,a,w,g,rfl,gt,Gg,gw1,g8,og,eP⟩:=pick i v hv;have i3:i < 3:=by have:=(aK.mp hv).1;simpa using this
   have lB:=lenB (i+1) (by lia);rw[take_snoc eP,lP,qJ,<- br,ai,ah] at lB;have gt6:=s6 _ _ gt;exists ⟨.inl ⟨rfl,_,bD.of gl6⟩,?_⟩;exists ⟨l,_,_,rfl,rfl,gl6,b4 (by rw[eY];lia),?_⟩;have s7:=s6.after (r:=l) (o:=.lst (fX ([bJ mv.length,bJ pt.length,bJ lk.length]++([wM :: gw mv,wP :: gw pt,wL :: gw lk].take i).flatten)++[.str (sl w)])) hml;have gl7:(upd H6 l (.lst (fX ([bJ mv.length,bJ pt.length,bJ lk.length]++([wM :: gw mv,wP :: gw pt,wL :: gw lk].take i).flatten)++[.str (sl w)]))) l=some (.lst (fX ([bJ mv.length,bJ pt.length,bJ lk.length]++([wM :: gw mv,wP :: gw pt,wL :: gw lk].take i).flatten++[w]))):=by rw[aA];exact congrArg (λz=>some (HO.lst z)) (t7 _ [w]).symm
   generalize upd H6 l (.lst (fX ([bJ mv.length,bJ pt.length,bJ lk.length]++([wM :: gw mv,wP :: gw pt,wL :: gw lk].take i).flatten)++[.str (sl w)]))=H7 at s7 gl7 ⊢;generalize hws:[bJ mv.length,bJ pt.length,bJ lk.length]++([wM :: gw mv,wP :: gw pt,wL :: gw lk].take i).flatten=ws at lB gl7 gl6 ⊢;obtain ⟨xs,gxs,qxs,_⟩:=Gg.same s7;have lf:=cy gw1;have sq8:=gU g8 d8
   have glm:Hm a=some (.lst xs):=by
    obtain ⟨xs',gx',_⟩:=Gg;have:=s7 _ _ gx';rw[gxs] at this;cases this;exact gx'
   exists ⟨⟨_,bD.of gxs⟩,?_⟩;refine iW (K:=K) (a:=a) (xs:=xs) (λj σ' H'=>aD Hm H'/\∃y3,σ'=[some (.ref r),some (.ref l),some (.str (sl w)),some (.ref a),y3]/\H' l=some (.lst (fX (ws++[w]++gw (g.take j))))) ⟨s7,_,rfl,by rw[mP];show H7 l=some (.lst (fX (ws++[w]++[])));rw[dS];exact gl7⟩ (λj σ' H' _ ⟨e,_⟩=>bD.of (e _ _ glm)) ?_ ?_
   ·rintro j v σ' H8 hv ⟨s8,y3,rfl,gl8⟩;obtain ⟨qs,eq,q,rfl,_,Rq⟩:=eL qxs hv;have mq:=au eq;have lq:=gw1 qs mq;obtain ⟨xs',gx',qx',_⟩:=Gg.same s8;have gg:=s8 _ _ glm;rw[gx'] at gg;cases gg;obtain ⟨qs',eq',q',e',_,ys,gy,qy⟩:=eL qx' hv;rw[eq] at eq';cases eq';cases e';have ly:=qy.length
    have lG:(gw (g.take j)).length+qs.length<=(gw g).length:=by
     have e:gw g=gw (g.take j)++((qs.map λq=>bM (nm q))++gw (g.drop (j+1))):=by
      unfold gw;rw[<- bw,<- bw];congr 1;have hj:j < g.length:=(aK.mp eq).1
      have e2:g=g.take j++(qs :: g.drop (j+1)):=by
       have e3:=List.getElem_cons_drop hj;rw[(aK.mp eq).2] at e3;rw[e3,jZ]
      conv=>lhs;rw[e2,lP,jv]
     rw[e,ai,ai,ay]
     lia
    exists ⟨.inl ⟨rfl,_,bD.of gl8⟩,?_⟩;exists ⟨⟨_,bD.of gy⟩,?_⟩;refine de (K:=K) (xs:=ys) (λm zs H'=>H'=H8/\zs=fX ((qs.take m).map λq=>bM (nm q))) (bR (b4 (by lia))) ⟨rfl,rfl⟩ (λm zs H' _ ⟨e,_⟩=>by subst e;exact bD.of gy) ?_ ?_
    ·rintro m v zs H' hv hlen ⟨rfl,rfl⟩;obtain ⟨u,eu,hu⟩:=eL qy hv;exists ⟨v,nm u,rfl,hu,og qs mq u (au eu),rfl,by rw[take_snoc eu,bw,t7];rfl⟩
    rintro zs H' hz ⟨rfl,rfl⟩ lb hlb;rw[ba (by lia)];have s9:aD H' (upd H' lb (.lst (fX (qs.map λq=>bM (nm q))))):=aD.new hlb;have g9:(upd H' lb (.lst (fX (qs.map λq=>bM (nm q))))) lb=some (.lst (fX (qs.map λq=>bM (nm q)))):=aA;generalize upd H' lb (.lst (fX (qs.map λq=>bM (nm q))))=H9 at s9 g9 ⊢;have gl9:=s9 _ _ gl8;exists ⟨l,lb,_,_,rfl,rfl,gl9,g9,bR (b4 (by rw[eY,eY,ai,ai,bQ,ay];lia)),?_⟩;exists ⟨(s8.trans s9).after hml,_,rfl,?_⟩;rw[aA,<- t7,br (ws++[w])];congr 3;unfold gw;rw[take_snoc eq,lP,qJ,bw]
   rintro σ' H8 ⟨s8,y3,rfl,gl8⟩;have lxs:=qxs.length;rw[ba (by lia)] at gl8;exists ⟨s8,_,_,_,rfl,?_⟩;rw[gl8,take_snoc eP,lP,qJ,<- br,hws,br];rfl
  rintro σ' H6 ⟨s6,y1,y2,y3,rfl,gl6⟩;rw[show [V.ref t1,V.ref t2,V.ref t3].length=3 from rfl,fin] at gl6;exists ⟨rfl,?_⟩;exists ⟨_,l,(j5 mv pt lk).map sl,rfl,rfl,by decide,by rw[t6];exact gl6,by rw[ay];have:=xk D;lia,λy hy=>?_,?_⟩
  ·obtain ⟨w,hw,rfl⟩:=be.mp hy;have:=(ze D o1 o2 o3 hw).2;rw[aR]
   lia
  ·rw[show Str.ofString " "=sl [32] from kH,nO];exact k _ (sm5.trans s6)
theorem gK:a8 ["text","whole","sign"] ["text"] (aI j8):=by walk_at "d"
theorem gM (T:Txt K mg Z):ck P w K mg base (uS P w) 1 Z.oB Z.oq ["text"] (zq Z.a_NoText):=by
 refine T.bF.F.okX gK (λvs H Q E h=>?_) (λcdv A outer s H vs Q E hr h=>?_)
 ·obtain ⟨l,rfl,_⟩:=h;rfl
 ·obtain ⟨l,rfl,hl,k,ke⟩:=h
  refine ⟨_,(ag (bh (PW.pt (df (aB cH (pv 0) bB (aJ _)) (cT (cG (bS (a5 (lJ rfl) (by rfl) T.all PyProof.Rows.boot_all (aa (du ["sign"] [] [] (wz (pv 0)) (λ_=>(a6 (i:=0) (show ND9 ["sign"] by decide +kernel))) (λ_=>c8) (λ_=>(gL tx (pv 0) (bX (v:=.str (Str.ofString "0123456789")) rfl T.mg_FIGURES ⟨_,rfl⟩) (by with_unfolding_all rfl)))) ae))))))) (ak (eK dD rfl rfl T.mg_NoText T.ex_NoText)) aN)
   (ag (bh (PW.pt (eh (bS (iO bG Cb Ca tG (pv 0) (aa bB ae))) (eI (aB iR (pv 0) bB (aJ _))))) (ak (eK dD rfl rfl T.mg_NoText T.ex_NoText)) aN)
   (ag (aY (i:=1) gK.nd rfl (Or.inl rfl) af)
   (ag (dQ Bx rfl (wz (pv 0)) (a6 (i:=2) gK.nd)
    (ak (aY (i:=1) gK.nd rfl (Or.inl rfl) (aZ bT (aZ cp (pv 1) af) (iO bG PySem.F.slot_str_index PySem.F.type_str_index yx (bX (v:=.str (Str.ofString "0123456789")) rfl T.mg_FIGURES ⟨_,rfl⟩) (aa (pv 2) ae))))))
   (ak (aL (pv 1))))))),?_⟩
  refine aV (σ:=[some (.str (sl l)),none,none]) rfl ?_;walk_at "w";by_cases e0:l=[]
  ·subst e0;rw[decide_eq_true (show sl []=Str.ofString "" from ef.symm)];exists ke (λn h=>h.1 rfl) _ (aD.refl _)
  rw[decide_eq_false (show ¬(sl l=Str.ofString "") from λz=>e0 (fB (z.trans ef)))];exists ⟨_,rfl,_,rfl,?_⟩;refine rV (x:=sl l) (λi ys H'=>H'=H/\ys=(l.take i).map λc=>V.bl (decide (c∈[48,49,50,51,52,53,54,55,56,57]))) (by rw[bx];exact bo (by lia)) ⟨rfl,rfl⟩ ?_ ?_
  ·rintro i c ys H' hx hlen ⟨rfl,rfl⟩;rw[bx] at hx;exists ⟨_,_,rfl,rfl,?_⟩;rw[uf,wO];exact ⟨rfl,by rw[take_snoc hx,bw];rfl⟩
  rintro ys H' hy ⟨rfl,rfl⟩ p hp;rw[bx,cA];exists ⟨p,l.map λc=>decide (c∈[48,49,50,51,52,53,54,55,56,57]),rfl,bD.of (by rw[aA,d7];rfl),?_⟩;have s1:aD H' (upd H' p (.lst (l.map λc=>V.bl (decide (c∈[48,49,50,51,52,53,54,55,56,57]))))):=aD.new hp;generalize upd H' p (.lst (l.map λc=>V.bl (decide (c∈[48,49,50,51,52,53,54,55,56,57]))))=H1 at s1 ⊢;by_cases w1:NumText.AllDigits l
  ·have e4:((l.map λc=>decide (c∈[48,49,50,51,52,53,54,55,56,57])).all id)=true:=by
    rw[me,cB];intro c hc;have:=w1 c hc;simp
    try lia
   rw[e4];exists ⟨rfl,?_⟩;exists ⟨_,48,rfl,rfl,?_⟩;rw[bx];by_cases e1:l.head?=some 48
   ·rw[decide_eq_true e1];walk_at "w";by_cases e2:l=[48]
    ·rw[decide_eq_true (show sl l=Str.ofString "0" by rw[e2,ue])];have wh:yQ l (NumText.digitsVal l):=⟨e0,w1,λ_=>e2,rfl⟩;exists ⟨_,rfl,_,rfl,?_⟩;refine xO (x:=sl l) (λi σ' H'=>H'=H1/\∃x,σ'=[some (.str (sl l)),some (.int (NumText.digitsVal (l.take i):Nat)),x]) ⟨rfl,none,by rw[mP];rfl⟩ ?_ ?_
     ·rintro i c σ' H2 hx ⟨rfl,x,rfl⟩;rw[bx] at hx;have hc:=w1 c (au hx);obtain ⟨r,er⟩:=xP c hc.1 hc.2;exists ⟨rfl,?_⟩;exists ⟨_,_,c - 48,r,rfl,rfl,er,?_⟩;exists ⟨rfl,_,by rw[uV hx];push_cast;rfl⟩
     rintro σ' H2 ⟨rfl,x,rfl⟩;rw[bx,cA];exists k _ wh _ s1
    ·rw[decide_eq_false (show ¬sl l=Str.ofString "0" from λz=>e2 (fB (z.trans ue)))];exists ke (λn h=>e2 (h.2.2.1 e1)) _ s1
   ·rw[decide_eq_false e1];have wh:yQ l (NumText.digitsVal l):=⟨e0,w1,λz=>absurd z e1,rfl⟩;exists ⟨_,rfl,_,rfl,?_⟩;refine xO (x:=sl l) (λi σ' H'=>H'=H1/\∃x,σ'=[some (.str (sl l)),some (.int (NumText.digitsVal (l.take i):Nat)),x]) ⟨rfl,none,by rw[mP];rfl⟩ ?_ ?_
    ·rintro i c σ' H2 hx ⟨rfl,x,rfl⟩;rw[bx] at hx;have hc:=w1 c (au hx);obtain ⟨r,er⟩:=xP c hc.1 hc.2;exists ⟨rfl,?_⟩;exists ⟨_,_,c - 48,r,rfl,rfl,er,?_⟩;exists ⟨rfl,_,by rw[uV hx];push_cast;rfl⟩
    rintro σ' H2 ⟨rfl,x,rfl⟩;rw[bx,cA];exists k _ wh _ s1
  ·have e4:((l.map λc=>decide (c∈[48,49,50,51,52,53,54,55,56,57])).all id)=false:=by
    rw[me,yg];intro z;rw[cB] at z;refine w1 λc hc=>?_
    have:=z c hc;simp at this
    try lia
   rw[e4];exists ke (λn h=>w1 h.2.1) _ s1
theorem pC:a8 ["text","top"] ["text"] (aI mV):=by walk_at "d"
theorem vB (T:Txt K mg Z):ck P w K mg base (uS P w) 2 Z.r8 Z.rL ["text"] (zr Z.a_NoText):=by
 refine T.gV.F.okX pC (λvs H Q E h=>?_) (λcdv A outer s H vs Q E hr h=>?_)
 ·obtain ⟨l,rfl,_⟩:=h;rfl
 ·obtain ⟨l,rfl,hl,k,ke⟩:=h
  refine ⟨_,(ag (bh (cG (bS (iO bG Cb Ca tG (pv 0) (aa bB ae)))) (ak (aL (dX (gM T) (hr.mono (by decide)) rfl T.bF.m T.bF.F.kp T.bF.b .nil eB (aa (pv 0) ae)))) aN)
   (ag (aY (i:=1) pC.nd rfl (Or.inl rfl) (vw qM (dX (gM T) (hr.mono (by decide)) rfl T.bF.m T.bF.F.kp T.bF.b .nil eB (aa (cu iC (pv 0) (b6 af) fc) ae))))
   (ag (bh (aB cH (pv 1) af (aJ _)) (ak (eK dD rfl rfl T.mg_NoText T.ex_NoText)) aN)
   (ak (aL (pv 1)))))),?_⟩
  refine aV (σ:=[some (.str (sl l)),none]) rfl ?_;exists ⟨rfl,?_⟩;exists ⟨_,45,rfl,rfl,?_⟩;rw[bx];by_cases e0:l.head?=some 45
  ·obtain ⟨r,rfl⟩:∃r,l=45 :: r:=by
    cases l with
    | nil=>cases e0
    | cons a r=>exact ⟨r,by rw[show a=45 by simpa using e0]⟩
   rw[decide_eq_true e0];rw[ah] at hl
   have no:(∀n,yQ r n->n=0)->∀i,(45 :: r)≠dn i:=λz i e=>by
    unfold dn at e
    split at e
    ·have w:=ed i.natAbs;rw[<- (bI e).2] at w;have:=z _ w
     lia
    ·obtain ⟨c,q,ec,_⟩:=iH i.natAbs;have:=hJ i.natAbs c (by rw[ec];simp);rw[ec] at e;have:=(bI e).1
     lia
   exists ⟨_,rfl,by rw[ah];lia,?_⟩;rw[show lH (45 :: r) (some 1) none=r from lY _ 1];exists ⟨r,rfl,by lia,λn w H1 s1=>?_,λz H1 s1=>ke (no λn w=>absurd w (z n)) _ s1⟩;walk_at "w";by_cases n0:n=0
   ·subst n0;rw[decide_eq_true (show -((0:Nat):Int)=0 by rfl)];exists ke (no λm w'=>?_) _ s1;have a:=fA w;rw[fA w'] at a;exact cI a
   ·rw[decide_eq_false (show ¬-((n:Nat):Int)=0 by lia)];exists k _ ?_ _ s1;unfold dn;rw[if_pos (by lia),fA w];congr 2
    lia
  ·rw[decide_eq_false e0];exists ⟨l,rfl,hl,λn w H1 s1=>k _ ?_ _ s1,λz H1 s1=>ke (λi e=>?_) _ s1⟩
   ·unfold dn;rw[if_neg (by lia),fA w];congr 1
   ·unfold dn at e
    split at e
    ·rw[e] at e0;exact e0 rfl
    ·have w:=ed i.natAbs;rw[<- e] at w;exact z _ w
theorem dU:a8 ["one","other","rest"] ["one","other"] (aI gi):=by walk_at "d"
theorem ji (T:Txt K mg Z):ck P w K mg base jb 1 Z.jV Z.jS ["one","other"] EE:=by
 refine T.dY.F.ok dU (λvs H Q E h=>?_) (λcdv A outer s H vs Q E hr h=>?_)
 ·obtain ⟨a,b,rfl,_⟩:=h;rfl
 ·obtain ⟨a,b,rfl,k⟩:=h
  refine ⟨_,(ag (vq PassesOwn.never (aB iR (pv 1) af (aJ _))
    (ag (aY (i:=2) dU.nd rfl (Or.inl rfl) (aZ BC (pv 0) (pv 1)))
   (ag (aY (i:=0) dU.nd rfl (Or.inl rfl) (pv 1))
   (ak (aY (i:=1) dU.nd rfl (Or.inl rfl) (pv 2))))))
   (ak (aL (a5 rX (by rfl) T.abs PyProof.Rows.boot_abs (aa (pv 0) ae))))),?_⟩
  refine aV (σ:=[some (.int a),some (.int b),none]) rfl ?_;exists xg (λσ' H'=>∃(u v:Int) (r:Option V),σ'=[some (.int u),some (.int v),r]/\H'=H/\Int.gcd u v=Int.gcd a b) (λσ' _=>match σ' with | [_,some (.int v),_]=>v.natAbs | _=>0) ⟨a,b,none,rfl,rfl,rfl⟩ ?_;rintro σ' H' ⟨u,v,r,rfl,rfl,hg⟩;exists gZ (λh=>?_) (λh=>?_)
  ·have hv:v≠0:=λz=>by subst z;simp at h
   exists gD (show v≠0 from hv) ?_;exists ⟨⟨v,u.fmod v,_,rfl,rfl,(Ai u v).trans hg⟩,BO u v hv⟩
  ·have hv:v=0:=by
    by_cases z:v=0
    ·exact z
    ·exfalso;apply h;simp [z]
   subst hv;walk_at "w"
   have e:(if u < 0 then -u else u)=g a b:=by
    unfold g;rw[<- hg,Int.gcd_zero_right]
    split <;> lia
   rw[e];exact k
theorem fD:a8 ["text","parts","top","bottom"] ["text"] (aI jz):=by walk_at "d"
theorem iS (T:Txt K mg Z):ck P w K mg base (uS P w) 3 Z.dO Z.mB ["text"] (wj Z.a_NoText):=by
 refine T.bP.F.okX fD (λvs H Q E h=>?_) (λcdv A outer s H vs Q E hr h=>?_)
 ·obtain ⟨l,rfl,_⟩:=h;rfl
 ·obtain ⟨l,rfl,hl,k,ke⟩:=h
  refine ⟨_,(ag (bh (cG (bS (kf rfl T.isinstance PyProof.Rows.boot_str T.str (pv 0)))) (ak (eK dD rfl rfl T.mg_NoText T.ex_NoText)) aN)
   (ag (aY (i:=1) fD.nd rfl (Or.inl rfl) (iO bG CQ CP xC (pv 0) (aa bB ae)))
   (ag (aY (i:=2) fD.nd rfl (Or.inl rfl) (dX (vB T) (hr.mono (by decide)) rfl T.gV.m T.gV.F.kp T.gV.b .nil eB (aa (a9 bN (pv 1) af) ae)))
   (ag (bh (aB cH (a9 bN (pv 1) af) bB (aJ _)) (ak (aL (cn (aa (pv 2) (aa af ae))))) aN)
   (ag (aY (i:=3) fD.nd rfl (Or.inl rfl) (dX (gM T) (hr.mono (by decide)) rfl T.bF.m T.bF.F.kp T.bF.b .nil eB (aa (a9 bN (pv 1) af) ae)))
   (ag (bh (PW.pt (df (aB kv (pv 3) af (aJ _)) (cT (aB iR (cW (ji T) hr T.dY (aa (pv 2) (aa (pv 3) ae))) af (aJ _))))) (ak (eK dD rfl rfl T.mg_NoText T.ex_NoText)) aN)
   (ak (aL (cn (aa (pv 2) (aa (pv 3) ae))))))))))),?_⟩
  refine aV (σ:=[some (.str (sl l)),none,none,none]) rfl ?_;exists ⟨_,_,.str _,rfl,?_⟩;exists ⟨rfl,?_⟩;exists ⟨_,_,rfl,rfl,by rw[aR];lia,by decide,λp hp=>?_⟩;rw[show Str.ofString "/"=sl [47] from nN];have fr:∀i,47∉dn i:=λi=>lV (by decide) (by decide)
  rcases vd l 47 with h0 | ⟨a,b,rfl,h0⟩
  ·rw[tq h0];have s1:aD H (upd H p (.tup [.str (sl l),.str (sl []),.str (sl [])])):=aD.new hp;have g1:(upd H p (.tup [.str (sl l),.str (sl []),.str (sl [])])) p=some (.tup [.str (sl l),.str (sl []),.str (sl [])]):=aA;generalize upd H p (.tup [.str (sl l),.str (sl []),.str (sl [])])=H1 at s1 g1 ⊢;exists ⟨l,rfl,hl,λi ei H2 s2=>?_,λz H2 s2=>ke (λn vn e=>?_) _ (s1.trans s2)⟩
   ·have g2:=s2 _ _ g1;walk_at "w";rw[decide_eq_true (show sl []=Str.ofString "" from ef.symm)];exists ⟨by show 2<=sizeLine;decide,λt ht=>?_⟩;exact k (i,1) ⟨Int.one_pos,by simp⟩ (by rw[fH rfl];exact ei) t _ ((s1.trans s2).none ht) ((s1.trans s2).trans (aD.new ht)) aA
   ·by_cases e1:n.2=1
    ·rw[fH e1] at e;exact z _ e
    ·rw[eX e1] at e;exact h0 (by rw[e];simp)
  rw[ai,ah] at hl;rw[tm h0];have s1:aD H (upd H p (.tup [.str (sl a),.str (sl [47]),.str (sl b)])):=aD.new hp;have g1:(upd H p (.tup [.str (sl a),.str (sl [47]),.str (sl b)])) p=some (.tup [.str (sl a),.str (sl [47]),.str (sl b)]):=aA;generalize upd H p (.tup [.str (sl a),.str (sl [47]),.str (sl b)])=H1 at s1 g1 ⊢
  have as:∀n,Vn n->a++47 :: b=bM n->n.2≠1/\a=dn n.1/\b=bJ n.2.natAbs:=λn vn e=>by
   by_cases e1:n.2=1
   ·rw[fH e1] at e;exact absurd (by rw[<- e];simp) (fr n.1)
   ·rw[eX e1] at e;exact ⟨e1,oA h0 (fr _) e⟩
  exists ⟨a,rfl,by lia,λi ei H2 s2=>?_,λz H2 s2=>ke (λn vn e=>z _ (as n vn e).2.1) _ (s1.trans s2)⟩;have g2:=s2 _ _ g1;walk_at "w";rw[decide_eq_false (show ¬sl [47]=Str.ofString "" from λz=>nomatch fB (z.trans ef))];exists ⟨b,rfl,by lia,λm w H3 s3=>?_,λz H3 s3=>ke (λn vn e=>?_) _ ((s1.trans s2).trans s3)⟩
  ·have s13:=(s1.trans s2).trans s3;have eb:=fA w
   have no:¬(2<=m/\Int.gcd i m=1)->∀n,Vn n->a++47 :: b≠bM n:=λz n vn e=>by
    obtain ⟨e1,e2,e3⟩:=as n vn e;have q1:=rF (ei.symm.trans e2);have q2:=cI (eb.symm.trans e3);have v1:=vn.1;refine z ⟨by lia,?_⟩;rw[q1,show ((m:Nat):Int)=n.2 by lia];exact vn.2
   walk_at "w";by_cases m2:m < 2
   ·rw[decide_eq_true (show ((m:Nat):Int) < 2 by lia)];exists ke (no λz=>by lia) _ s13
   rw[decide_eq_false (show ¬((m:Nat):Int) < 2 by lia)];exists ⟨i,m,rfl,?_⟩;walk_at "w";by_cases g0:Int.gcd i m=1
   ·rw[show g i m=1 by unfold g;rw[g0];rfl,decide_eq_true rfl];exists ⟨by show 2<=sizeLine;decide,λt ht=>?_⟩;exact k (i,m) ⟨by show (0:Int) < m;lia,g0⟩ (by rw[eX (by show ((m:Nat):Int)≠1;lia),<- ei,eb];rfl) t _ (s13.none ht) (s13.trans (aD.new ht)) aA
   ·rw[decide_eq_false (show ¬g i m=1 from λz=>g0 (by unfold g at z;lia))];exists ke (no λz=>g0 z.2) _ s13
  ·have:=(as n vn e).2.2;exact z n.2.natAbs (by rw[this];exact ed _)
theorem vf:a8 ["text"] ["text"] (aI mU):=by walk_at "d"
theorem pG (T:Txt K mg Z):ck P w K mg base jb 1 Z.rZ Z.rK ["text"] zh:=by
 refine T.jl.F.ok vf (λvs H Q E h=>?_) (λcdv A outer s H vs Q E hr h=>?_)
 ·obtain ⟨l,rfl,_⟩:=h;rfl
 ·obtain ⟨l,rfl,hl,k⟩:=h
  refine ⟨_,(ag (bh (cG (bS (kf rfl T.isinstance PyProof.Rows.boot_str T.str (pv 0)))) (ak xv) aN)
   (ak (aL (iO bG qI qH rA (pv 0) (aa bB ae))))),?_⟩
  refine aV (σ:=[some (.str (sl l))]) rfl ?_;exists ⟨_,_,.str _,rfl,?_⟩;exists ⟨rfl,?_⟩;exists ⟨_,_,rfl,rfl,by rw[aR];exact hl,by decide,λp hp=>?_⟩;exact k _ _ (aD.new hp) hp (by rw[aA,<- kH])
theorem pE:a8 ["text","words"] ["text"] (aI mW):=by walk_at "d"
theorem vC (T:Txt K mg Z):ck P w K mg base (uS P w) 4 Z.gI Z.rM ["text"] (wg K Z.a_NoText):=by
 refine T.gW.F.okX pE (λvs H Q E h=>?_) (λcdv A outer s H vs Q E hr h=>?_)
 ·obtain ⟨l,rfl,_⟩:=h;rfl
 ·obtain ⟨l,rfl,hl,k,ke⟩:=h
  refine ⟨_,(ag (aY (i:=1) pE.nd rfl (Or.inl rfl) (cW (pG T) hr T.jl (aa (pv 0) ae)))
   (ag (bh (aB (wA (qr hr)) (pv 1) (c9 (aa bB ae)) (aJ _)) (ak (aL (c9 ae))) aN)
   (ak (aL (vz ["word"] [] [] tH rfl (cL (pv 1)) (λ_=>(a6 (i:=0) (show ND9 ["word"] by decide +kernel))) (λ_=>c8) (λ_=>(dX (iS T) (hr.mono (by decide)) rfl T.bP.m T.bP.F.kp T.bP.b .nil Cs (aa (pv 0) ae)))))))),?_⟩
  refine aV (σ:=[some (.str (sl l)),none]) rfl ?_;obtain ⟨ws,w0,w1,ew,es⟩:=nM l 32;have wl:∀w∈ws,w.length<=1000:=λw hw=>ar (iV (c:=32) hw) (by rw[<- ew];exact hl)
  have wc:ws.length<=1001:=ar (jQ (c:=32)) (by rw[<- ew];lia);exists ⟨_,rfl,by lia,λp H1 s1 np gp=>?_⟩;rw[es] at gp;exists cE λl2 H2 s2 n2 g2=>?_
  walk_at "w";have gp2:=s2 _ _ gp
  have pk:∀l:List (List Nat),Paired (λa x=>BG.R K H2 x a) (l.map sl) ((l.map sl).map V.str):=λl=>by
   induction l with
   | nil=>exact .nil
   | cons a l ih=>exact .cons rfl ih
  refine ⟨_,_,yB BG,ws.map sl,[sl []],by decide,⟨p,_,rfl,bD.of gp2,pk _⟩,⟨l2,_,rfl,bD.of g2,.cons (congrArg V.str ef) .nil⟩,?_⟩;by_cases e0:ws=[[]]
  ·rw[decide_eq_true (show ws.map sl=[sl []] by rw[e0];rfl)];exists ⟨by decide,λl3 h3=>?_⟩;exact k [] ⟨(λn hn=>nomatch hn),by rw[ew,e0];rfl⟩ l3 _ ((s1.trans s2).none h3) ((s1.trans s2).trans (aD.new h3)) ⟨[],aA,.nil⟩
  rw[decide_eq_false (show ¬ws.map sl=[sl []] from λz=>e0 (by
   match ws,w0,z with
   | [x],_,z=>rw[fB (bI z).1]
   | x :: y :: r,_,z=>cases (bI z).2))]
  exists ⟨⟨_,bD.of gp2⟩,?_⟩;refine de (K:=K) (xs:=(ws.map sl).map V.str) (λi ys H'=>aD H2 H'/\∃ns:List (Int×Int),(∀n∈ns,Vn n)/\ws.take i=ns.map bM/\Paired (λn x=>jM K H' x n) ns ys) (by rw[ay,ay];exact bo (by lia)) ⟨aD.refl _,[],(λn hn=>nomatch hn),rfl,.nil⟩ (λi ys H' _ ⟨s,_⟩=>bD.of (s _ _ gp2)) ?_ ?_
  ·rintro i x ys H' hx hlen ⟨s',ns,hn,en,pr⟩;rw[bH,bH] at hx
   obtain ⟨w,ei,rfl⟩:∃w,ws[i]?=some w/\x=.str (sl w):=by
    cases e:ws[i]? with
    | none=>rw[e] at hx;cases hx
    | some n=>rw[e] at hx;cases hx;exact ⟨n,rfl,rfl⟩
   have mw:=au ei;exists ⟨w,rfl,wl w mw,λn vn e r H4 nr s4 g4=>?_,λz H4 s4=>ke (λns h=>?_) _ ((s1.trans s2).trans (s'.trans s4))⟩
   ·refine ⟨s'.trans s4,ns++[n],λm hm=>?_,?_,cN (Paired.imp' (λ_ _ z=>s4.num z) pr) (.cons ⟨r,rfl,i8.of g4⟩ .nil)⟩
    ·rcases aO.mp hm with hm | hm
     ·exact hn m hm
     ·rw[fg.mp hm];exact vn
    ·rw[take_snoc ei,en,bw,e];rfl
   ·rcases nS w0 w1 ew h with ⟨_,y⟩ | y
    ·exact e0 y
    ·rw[y] at mw;obtain ⟨n,mn,e⟩:=be.mp mw;exact z n (h.1 n mn) e.symm
  rintro ys H' hy ⟨s',ns,hn,en,pr⟩ l3 h3;rw[ay,ay,cA] at en;have s3:aD H' (upd H' l3 (.lst ys)):=aD.new h3;exact k ns ⟨hn,by rw[ew,en]⟩ l3 _ (((s1.trans s2).trans s').none h3) (((s1.trans s2).trans s').trans s3) ⟨ys,aA,Paired.imp' (λ_ _ z=>s3.num z) pr⟩
theorem nQ:a8 ["word","most","size"] ["word","most"] (aI kL):=by walk_at "d"
theorem kh (T:Txt K mg Z):ck P w K mg base (uS P w) 2 Z.p0 Z.pN ["word","most"] (zo Z.a_NoText):=by
 refine T.b9.F.okX nQ (λvs H Q E h=>?_) (λcdv A outer s H vs Q E hr h=>?_)
 ·obtain ⟨l,m,rfl,_⟩:=h;rfl
 ·obtain ⟨l,m,rfl,hl,k,ke⟩:=h
  refine ⟨_,(ag (aY (i:=2) nQ.nd rfl (Or.inl rfl) (dX (gM T) (hr.mono (by decide)) rfl T.bF.m T.bF.F.kp T.bF.b .nil eB (aa (pv 0) ae)))
   (ag (bh (aB kZ (pv 2) (pv 1) (aJ _)) (ak (eK dD rfl rfl T.mg_NoText T.ex_NoText)) aN)
   (ak (aL (pv 2))))),?_⟩
  refine aV (σ:=[some (.str (sl l)),some (.int m),none]) rfl ?_;exists ⟨l,rfl,hl,λn w H1 s1=>?_,λz H1 s1=>ke (λn w=>absurd w (z n)) _ s1⟩;walk_at "w";by_cases h0:n<=m
  ·rw[decide_eq_false (show ¬((m:Int) < (n:Int)) by lia)];exists k n w h0 _ s1
  ·rw[decide_eq_true (show ((m:Int) < (n:Int)) by lia)];exists ke (λn' w'=>?_) _ s1;have:=cI ((fA w).symm.trans (fA w'))
   lia
theorem C7:a8 ["row","many","wide"] ["row","many","wide"] (aI zI):=by walk_at "d"
theorem DR (T:Txt K mg Z):ck P w K mg base jb 1 Z.CL Z.CI ["row","many","wide"] (xr K):=by
 refine T.wF.F.ok C7 (λvs H Q E h=>?_) (λcdv A outer s H vs Q E hr h=>?_)
 ·obtain ⟨p,u,kk,w,rfl,_⟩:=h;rfl
 ·obtain ⟨p,u,kk,w,rfl,Rw,lw,uk,u1,k1,k⟩:=h;refine ⟨_,(ak (aL (du ["turn"] ["row","wide"] [0,2] (cx rfl T.range (aa (pv 1) ae)) (λ_=>(a6 (i:=0) (show ND9 ["turn","row","wide"] by decide +kernel))) (λ_=>c8) (λ_=>(cu (ve K (by rfl)) (pv 1) (b6 (aZ cp (pv 0) (pv 2))) (b6 (aZ cp (aZ bT (pv 0) af) (pv 2)))))))),?_⟩;refine aV (σ:=[some (.ref p),some (.int u),some (.int kk)]) rfl ?_;obtain ⟨xs,gx,qx⟩:=id Rw;have lx:=qx.length;exists ⟨by lia,by lia,?_⟩;refine pA (n:=u) (jL K H) (λt=>(w.drop (t*kk)).take kk) (by lia) (λa b=>a.same b) ?_ ?_
  ·rintro i Hb NY NN hi sa k2;have b1:i*kk+kk<=u*kk:=by rw[<- d6];exact bY _ hi
   exists gD (fQ (by lia) (by lia)) ?_;exists gD (xT (by lia) (by lia)) ?_;walk_at "w";rw[show ((i:Int)*(kk:Int))=((i*kk:Nat):Int) by lia,show (((i:Int)+1)*(kk:Int))=((i*kk:Nat):Int)+(kk:Int) by rw[Int.add_mul,Int.one_mul];lia];refine ⟨p,xs,rfl,bD.of (sa _ _ gx),λr hr=>?_⟩;rw[uA (by lia)];have sn:=aD.new (o:=.lst ((xs.drop (i*kk)).take kk)) hr;exact k2 _ _ sn ⟨r,rfl,sa.none hr,_,aA,Paired.imp' (λ_ _ z=>(z.same sa).same sn) (kX (oZ qx _) _)⟩
  rintro ys Hz t ht sz g pr nx;exact k t Hz ht sz ⟨ys,g,pr,vE nx⟩
theorem uh:a8 ["words","name","many","wide"] ["words","name","many","wide"] (aI kM):=by walk_at "d"
theorem ki (T:Txt K mg Z):ck P w K mg base (uS P w) 4 Z.p3 Z.pO ["words","name","many","wide"] (zu K Z.a_NoText):=by
 refine T.cb.F.okX uh (λvs H Q E h=>?_) (λcdv A outer s H vs Q E hr h=>?_)
 ·obtain ⟨p,w,many,wide,ws,rfl,_⟩:=h;rfl
 ·obtain ⟨p,w,many,wide,ws,rfl,gp,lw,m8,w8,wl,k,ke⟩:=h
  refine ⟨_,(ag (bh (aB iR (a9 bc (pv 0) af) (pv 1) (aJ _)) (ak (eK dD rfl rfl T.mg_NoText T.ex_NoText)) aN)
   (ak (aL (cW (DR T) hr T.wF (aa (vz ["word"] [] [] tH rfl (cL (cu je (pv 0) (b6 af) fc)) (λ_=>(a6 (i:=0) (show ND9 ["word"] by decide +kernel))) (λ_=>c8) (λ_=>(dX (iS T) (hr.mono (by decide)) rfl T.bP.m T.bP.F.kp T.bP.b .nil Cs (aa (pv 0) ae)))) (aa (pv 2) (aa (pv 3) ae))))))),?_⟩
  refine aV (σ:=[some (.ref p),some (.str (sl w)),some (.int many),some (.int wide)]) rfl ?_;have l64:=gU m8 w8
  obtain ⟨w0,rest,rfl⟩:∃w0 rest,ws=w0 :: rest:=by
   cases ws with
   | nil=>rw[fv] at lw;lia
   | cons a r=>exact ⟨a,r,rfl⟩
  have lr:rest.length=many*wide:=by rw[ah] at lw;lia
  exists cF (bD.of gp) (c6 (j:=0) rfl) ?_;walk_at "w";by_cases e0:w0=w
  ·subst e0;rw[decide_eq_true rfl];exists nh (bD.of gp) λl1 H1 s1 n1 g1=>?_
   rw[show (1:Int)=((1:Nat):Int) from rfl,vO] at g1;have g1:H1 l1=some (.lst (fX rest)):=g1;exists ⟨⟨_,bD.of g1⟩,?_⟩;refine de (K:=K) (xs:=fX rest) (λi ys H'=>aD H1 H'/\∃ns:List (Int×Int),(∀n∈ns,Vn n)/\rest.take i=ns.map bM/\Paired (λn x=>jM K H' x n) ns ys) (by rw[eY];exact bo (by lia)) ⟨aD.refl _,[],(λn hn=>nomatch hn),rfl,.nil⟩ (λi ys H' _ ⟨s,_⟩=>bD.of (s _ _ g1)) ?_ ?_
   ·rintro i x ys H' hx hlen ⟨s',ns,hn,en,pr⟩;unfold fX at hx;rw[bH] at hx
    obtain ⟨w,ei,rfl⟩:∃w,rest[i]?=some w/\x=.str (sl w):=by
     cases e:rest[i]? with
     | none=>rw[e] at hx;cases hx
     | some n=>rw[e] at hx;cases hx;exact ⟨n,rfl,rfl⟩
    have mw:=au ei;exists ⟨w,rfl,wl w (ao _ mw),λn vn e r H4 nr s4 g4=>?_,λz H4 s4=>ke (λg h=>?_) _ (s1.trans (s'.trans s4))⟩
    ·refine ⟨s'.trans s4,ns++[n],λm hm=>?_,?_,cN (Paired.imp' (λ_ _ z=>s4.num z) pr) (.cons ⟨r,rfl,i8.of g4⟩ .nil)⟩
     ·rcases aO.mp hm with hm | hm
      ·exact hn m hm
      ·rw[fg.mp hm];exact vn
     ·rw[take_snoc ei,en,bw,e];rfl
    ·rw[(bI h.2.2).2] at mw;obtain ⟨n,vn,e⟩:=Af mw;exact z n vn e
   rintro ys H2' hy ⟨s2',ns,hn,en,pr⟩ l2 n2;rw[eY,cA] at en;have ln:ns.length=many*wide:=by rw[<- lr,en,ay]
   have s2n:aD H2' (upd H2' l2 (.lst ys)):=aD.new n2;have g2:(upd H2' l2 (.lst ys)) l2=some (.lst ys):=aA;replace pr:=Paired.imp' (λ_ _ z=>s2n.num z) pr;generalize upd H2' l2 (.lst ys)=H2 at s2n g2 pr ⊢;have s2:=s2'.trans s2n;have gr:=CB (w:=w0) hn (congrArg (λz=>w0 :: z) en) ln
   have R:fY K H2 l2 (ns.map val):=by
    refine ⟨ys,g2,?_⟩
    have:∀{ns:List (Int×Int)} {ys:List V},(∀n∈ns,Vn n)->Paired (λn x=>jM K H2 x n) ns ys->Paired (cg K H2) (ns.map val) ys:=λ{ns ys} hn pr=>by
     induction pr with
     | nil=>exact .nil
     | cons a r ih=>exact .cons (by show jM K H2 _ (nm (val _));rw[wC (hn _ (aE ..))];exact a) (ih λm hm=>hn m (ao _ hm))
    exact this hn pr
   exists ⟨l2,many,wide,ns.map val,rfl,R,by rw[ay];exact ln,by lia,by lia,by lia,λq H3 nq s3 G3=>?_⟩;exact k _ gr (Fe gr wl) q H3 ((s1.trans s2).none nq) ((s1.trans s2).trans s3) (G3.weak (s1.trans s2))
  ·rw[decide_eq_false (show ¬sl w0=sl w from λz=>e0 (fB z))];exists ke (λg h=>e0 (bI h.2.2).1) _ (aD.refl _)
theorem ug:a8 ["thing","at","most"] ["thing","at","most"] (aI kK):=by walk_at "d"
theorem kg (T:Txt K mg Z):ck P w K mg base jb 1 Z.pZ Z.pM ["thing","at","most"] xn:=by
 refine T.fI.F.ok ug (λvs H Q E h=>?_) (λcdv A outer s H vs Q E hr h=>?_)
 ·obtain ⟨p,xs,a,m,rfl,_⟩:=h;rfl
 ·obtain ⟨p,xs,a,m,rfl,gx,hm,k⟩:=h
  refine ⟨_,(ag (bh (cG (bS (kf rfl T.isinstance PyProof.Rows.boot_list T.list (pv 0)))) (ak xv) aN)
   (ak (bh (aB kZ (a5 aW (by rfl) T.len aH (aa (pv 0) ae)) (pv 2) (aJ _)) (ak xv) aN))),?_⟩
  refine aV (σ:=[some (.ref p),some (.int a),some (.int m)]) rfl ?_;exists ⟨_,_,.lst gx,rfl,?_⟩;exists ⟨_,_,rfl,.inl (bD.of gx),?_⟩;walk_at "w";rw[decide_eq_false (show ¬m < (xs.length:Int) by lia)];exists k
theorem vg:a8 ["thing"] ["thing"] (aI mX):=by walk_at "d"
theorem pH (T:Txt K mg Z):ck P w K mg base jb 1 Z.sk Z.rN ["thing"] yl:=by
 refine T.jm.F.ok vg (λvs H Q E h=>?_) (λcdv A outer s H vs Q E hr h=>?_)
 ·obtain ⟨i,rfl,_⟩:=h;rfl
 ·obtain ⟨i,rfl,k⟩:=h;refine ⟨_,(ak (aL (ur (kf rfl T.isinstance PyProof.Rows.boot_int T.int (pv 0)) (rd (zY (kf rfl T.isinstance PyProof.Rows.boot_bool T.bool (pv 0))))))),?_⟩;refine aV (σ:=[some (.int i)]) rfl ?_;exists ⟨_,_,.int i,rfl,?_⟩;exists ⟨_,_,.int i,rfl,?_⟩;exists k
theorem ui:a8 ["thing"] ["thing"] (aI kN):=by walk_at "d"
theorem uu (T:Txt K mg Z):ck P w K mg base jb 2 Z.p4 Z.pP ["thing"] (ym K):=by
 refine T.km.F.ok ui (λvs H Q E h=>?_) (λcdv A outer s H vs Q E hr h=>?_)
 ·obtain ⟨x,n,rfl,_⟩:=h;rfl
 ·obtain ⟨x,n,rfl,⟨p,rfl,hp⟩,hn,k⟩:=h
  refine ⟨_,(ag (bh (PW.pt (df (cG (bS (qB rfl T.isinstance PyProof.Rows.boot_tuple T.tuple (pv 0)))) (cT (aB iR (a5 aW (by rfl) T.len aH (aa (pv 0) ae)) af (aJ _))))) (ak (aL fG)) aN)
   (ag (bh (PW.pt (df (cG (bS (cW (pH T) hr T.jm (aa (a9 bN (pv 0) af) ae)))) (cT (cG (bS (cW (pH T) hr T.jm (aa (a9 bN (pv 0) af) ae))))))) (ak (aL fG)) aN)
   (ak (aL (ur (gL tz (a9 bN (pv 0) af) af (aJ _)) (rd (gL cH (cW (ji T) hr T.dY (aa (a9 bN (pv 0) af) (aa (a9 bN (pv 0) af) ae))) af (aJ _)))))))),?_⟩
  refine aV (σ:=[some (.ref p)]) rfl ?_;obtain ⟨hb,hg,s1,s2⟩:=hn;exists .inr ⟨p,_,_,rfl,hp,rfl,?_⟩;exists ⟨_,_,rfl,.inr hp,?_⟩;walk_at "w"
  try refine BJ ?_
  exists ⟨n.1,rfl,?_⟩;exists ⟨n.2,rfl,?_⟩;walk_at "w";rw[decide_eq_true (show (1:Int)<=n.2 by lia)];exists ⟨n.1,n.2,rfl,?_⟩;walk_at "w";have e:g n.1 n.2=1:=by unfold g;rw[hg];rfl
  rw[e,decide_eq_true rfl];exact k _ (aD.refl _)
theorem yp:a8 ["thing","many"] ["thing","many"] (aI qY):=by walk_at "d"
theorem yv (T:Txt K mg Z):ck P w K mg base jb 3 Z.vU Z.vN ["thing","many"] (oQ K):=by
 refine T.pd.F.ok yp (λvs H Q E h=>?_) (λcdv A outer s H vs Q E hr h=>?_)
 ·obtain ⟨p,ns,rfl,_⟩:=h;rfl
 ·obtain ⟨p,ns,rfl,hp,hl,hn,k⟩:=h
  refine ⟨_,(ag (bh (PW.pt (df (cG (bS (kf rfl T.isinstance PyProof.Rows.boot_list T.list (pv 0)))) (cT (aB iR (a5 aW (by rfl) T.len aH (aa (pv 0) ae)) (pv 1) (aJ _))))) (ak (aL fG)) aN)
   (ak (aL (a5 (lJ rfl) (by rfl) T.all PyProof.Rows.boot_all (aa (du ["value"] [] [] (cL (pv 0)) (λ_=>(a6 (i:=0) (show ND9 ["value"] by decide +kernel))) (λ_=>c8) (λ_=>(cW (uu T) hr T.km (aa (pv 0) ae)))) ae))))),?_⟩
  refine aV (σ:=[some (.ref p),some (.int ns.length)]) rfl ?_;obtain ⟨xs,gx,qx⟩:=id hp;have lx:=qx.length;exists ⟨_,_,.lst gx,rfl,?_⟩;exists ⟨_,_,rfl,.inl (bD.of gx),?_⟩;walk_at "w";rw[show ((xs.length:Nat):Int)=(ns.length:Nat) by rw[lx],decide_eq_true rfl];exists ⟨⟨_,bD.of gx⟩,?_⟩;refine de (K:=K) (xs:=xs) (λi ys H'=>aD H H'/\ys=List.replicate i (.bl true)) (bR (b4 (by lia))) ⟨aD.refl _,rfl⟩ (λi ys H' _ ⟨s,_⟩=>bD.of (s _ _ gx)) ?_ ?_
  ·rintro i x ys H' hx hlen ⟨s,rfl⟩;obtain ⟨n,en,z⟩:=eL qx hx;exists ⟨x,n,rfl,s.num z,hn n (au en),λH2 s2=>⟨s.trans s2,by rw[kC]⟩⟩
  ·rintro ys H' hy ⟨s,rfl⟩ l hl';exists ⟨l,List.replicate xs.length true,rfl,bD.of (by rw[aA];simp),?_⟩;have e4:(List.replicate xs.length true).all id=true:=by simp
   rw[e4];exact k _ (s.trans (aD.new hl'))
theorem iL:a8 ["things","wide","place","thing"] ["things","wide"] (aI jA):=by walk_at "d"
theorem iT (T:Txt K mg Z):ck P w K mg base jb 4 Z.mG Z.mC ["things","wide"] (xt K):=by
 refine T.eE.F.ok iL (λvs H Q E h=>?_) (λcdv A outer s H vs Q E hr h=>?_)
 ·obtain ⟨p,H0,rows,w,rfl,_⟩:=h;rfl
 ·obtain ⟨p,H0,rows,w,rfl,hp,hl,hw,hn,k⟩:=h
  refine ⟨_,(ag (dQ PassesOwn.never rfl (Bt rfl T.enumerate (aa (pv 0) ae)) (oY rfl (dh (a6 (i:=2) iL.nd) (dh (a6 (i:=3) iL.nd) lT)))
    (ak (bh (cG (bS (cW (yv T) hr T.pd (aa (pv 3) (aa (pv 1) ae))))) (ak xv) aN)))
   (ak (aL (du ["row"] [] [] (cL (pv 0)) (λ_=>(a6 (i:=0) (show ND9 ["row"] by decide +kernel))) (λ_=>c8) (λ_=>(b5 (sO K (by rfl)) (by rfl) T.list PyProof.Rows.boot_list (aa (pv 0) ae))))))),?_⟩
  refine aV (σ:=[some (.ref p),some (.int w),none,none]) rfl ?_;obtain ⟨xs,gx,qx,_⟩:=id hp;exists ⟨⟨_,bD.of gx⟩,?_⟩;refine Am (K:=K) (l:=p) (xs:=xs) (λi σ' H'=>aD H H'/\∃x y,σ'=[some (.ref p),some (.int w),x,y]) ⟨aD.refl _,none,none,rfl⟩ (λi σ' H' _ ⟨s,_⟩=>bD.of (s _ _ gx)) ?_ ?_
  ·rintro i x σ' H' t hx ⟨s,x1,y1,rfl⟩ ht;obtain ⟨qs,eq,q,rfl,_,Rq⟩:=eL qx hx;have hm:=au eq;have st:aD H' (upd H' t (.tup [.int i,.ref q])):=aD.new ht;have gt:(upd H' t (.tup [.int i,.ref q])) t=some (.tup [.int i,.ref q]):=aA;have s2:=s.trans st;generalize upd H' t (.tup [.int i,.ref q])=H2 at st gt s2 ⊢;have lq:(qs.map nm).length=w:=by rw[ay];exact (hn qs hm).1
   exists ⟨q,_,by rw[lq],(Rq.same s2).rowK,by rw[lq];exact hw,λn hn'=>?_,λH3 s3=>?_⟩
   ·obtain ⟨y,hy,rfl⟩:=be.mp hn';exact (hn qs hm).2 y hy
   exists ⟨s2.trans s3,_,_,rfl⟩
  ·rintro σ' H' ⟨s,x1,y1,rfl⟩;exists ⟨⟨_,bD.of (s _ _ gx)⟩,?_⟩;refine tO (K:=K) (F:=jL K H0) (jL K H) id (s _ _ gx) (Paired.imp' (λ_ _ z=>z.same s) qx) hl (λa b=>a.same b) (λa b=>a.same b) ?_ ?_
   ·rintro i ns x H2 NY NN en s2 ⟨u,rfl,_,zs,gz,qz⟩ k1;exists ⟨u,zs,rfl,.inl (bD.of gz),λl1 hl1=>?_⟩;exact k1 _ _ (aD.new hl1) ⟨l1,rfl,s.none (s2.none hl1),zs,aA,Paired.imp' (λ_ _ z=>z.same (aD.new hl1)) qz⟩
   ·rintro ys' H2 r hr s2 g pr nx;rw[List.map_id] at pr nx;exact k r H2 (s.none hr) (s.trans s2) ⟨ys',g,pr,vE nx⟩
theorem mT:a8 ["self","move","put","look"] ["self","move","put","look"] (aI cK):=by walk_at "d"
theorem nk (T:Txt K mg Z):ck P w K mg base jb 5 Z.fR Z.fP ["self","move","put","look"] (xo K Z.a_System):=by
 refine T.ju.ok mT (λvs H Q E h=>?_) (λcdv A outer s H vs Q E hr h=>?_)
 ·obtain ⟨x,dx,p,q,r,Hb,H0,H1,H2,mv,pt,lk,rfl,_⟩:=h;rfl
 ·obtain ⟨x,dx,p,q,r,Hb,H0,H1,H2,mv,pt,lk,rfl,nx,ndx,nex,rfl,gp,gq,gr,D,om,op,ol,k⟩:=h
  refine ⟨_,(ag (jh (cW (kg T) hr T.fI (aa (pv 1) (aa af (aa (bX (v:=.int 8) rfl T.mg_MOST_STATES ⟨_,rfl⟩) ae)))))
   (ag (oW (pv 0) (cW (iT T) hr T.eE (aa (pv 1) (aa (a5 aW (by rfl) T.len aH (aa (pv 1) ae)) ae))) rfl)
   (ag (oW (pv 0) (a5 aW (by rfl) T.len aH (aa (fF (pv 0) rfl) ae)) rfl)
   (ag (jh (cW (kg T) hr T.fI (aa (pv 2) (aa af (aa (bX (v:=.int 4) rfl T.mg_MOST_PUTS ⟨_,rfl⟩) ae)))))
   (ag (oW (pv 0) (cW (iT T) hr T.eE (aa (pv 2) (aa (fF (pv 0) rfl) ae))) rfl)
   (ag (oW (pv 0) (a5 aW (by rfl) T.len aH (aa (fF (pv 0) rfl) ae)) rfl)
   (ag (jh (cW (kg T) hr T.fI (aa (pv 3) (aa af (aa (bX (v:=.int 4) rfl T.mg_MOST_LOOKS ⟨_,rfl⟩) ae)))))
   (ag (oW (pv 0) (cW (iT T) hr T.eE (aa (pv 3) (aa (fF (pv 0) rfl) ae))) rfl)
   (ak (oW (pv 0) (a5 aW (by rfl) T.len aH (aa (fF (pv 0) rfl) ae)) rfl)))))))))),?_⟩
  refine aV (σ:=[some (.ref x),some (.ref p),some (.ref q),some (.ref r)]) rfl ?_
  have s0:aD Hb (upd (upd Hb dx (.own x)) x (.ins Z.a_System dx [])):=λb o e=>by
   rw[aU (cZ e nx),aU (cZ e ndx)];exact e
  have hx:(upd (upd Hb dx (.own x)) x (.ins Z.a_System dx [])) x=some (.ins Z.a_System dx []):=aA;have back:∀{b},(upd (upd Hb dx (.own x)) x (.ins Z.a_System dx [])) b=none->Hb b=none:=λh=>s0.none h
  generalize upd (upd Hb dx (.own x)) x (.ins Z.a_System dx [])=Ha at s0 hx back ⊢;obtain ⟨xs,gx,qx,_⟩:=id gp;obtain ⟨ys,gy,qy,_⟩:=id gq;obtain ⟨zs,gz,qz,_⟩:=id gr;have lx:=qx.length;have ly:=qy.length;have lz:=qz.length;have d1:=D.n8;have d2:=D.i4;have d3:=D.o4;exists ⟨p,xs,0,8,rfl,s0 _ _ gx,by lia,?_⟩;exists ⟨_,_,rfl,.inl (bD.of (s0 _ _ gx)),?_⟩;exists ⟨p,H0,mv,mv.length,by rw[lx],gp.same s0,by lia,by lia,λws hw=>⟨D.mw ws hw,om ws hw⟩,λa H3 na s3 Ga=>?_⟩;have hx3:=s3 _ _ hx;exists ⟨x,Z.a_System,dx,_,rfl,hx3,T.cl_System,T.na_move,(by show 0 < 1000;decide),?_⟩;have e3:uQ x H3 (upd H3 x (.ins Z.a_System dx (bp "move" (.ref a) []))):=uQ.upd;have i3:mK H3 x:=⟨_,_,_,hx3⟩;have hx4:(upd H3 x (.ins Z.a_System dx (bp "move" (.ref a) []))) x=some (.ins Z.a_System dx (bp "move" (.ref a) [])):=aA;have Ga4:=Ga.exc e3 i3;have k4:aD Hb (upd H3 x (.ins Z.a_System dx (bp "move" (.ref a) []))):=(s0.trans s3).after nx;generalize upd H3 x (.ins Z.a_System dx (bp "move" (.ref a) []))=H4 at e3 hx4 Ga4 k4 ⊢;exists ⟨x,Z.a_System,dx,_,_,rfl,hx4,T.cl_System,T.na_move,(by rw[aX,if_pos rfl]),?_⟩;obtain ⟨as,ga,qa,_⟩:=id Ga4;have la:=qa.length;exists ⟨_,_,rfl,.inl (bD.of ga),?_⟩;exists ⟨x,Z.a_System,dx,_,rfl,hx4,T.cl_System,T.na_states,a7 cQ (by show 1 < 1000;decide),?_⟩;rw[show ((as.length:Nat):Int)=((mv.length:Nat):Int) by rw[la]];have e4:uQ x H4 (upd H4 x (.ins Z.a_System dx (bp "states" (.int mv.length) (bp "move" (.ref a) [])))):=uQ.upd;have i4:mK H4 x:=⟨_,_,_,hx4⟩;have hx5:(upd H4 x (.ins Z.a_System dx (bp "states" (.int mv.length) (bp "move" (.ref a) [])))) x=some (.ins Z.a_System dx (bp "states" (.int mv.length) (bp "move" (.ref a) []))):=aA;have Ga5:=Ga4.exc e4 i4;have k5:aD Hb (upd H4 x (.ins Z.a_System dx (bp "states" (.int mv.length) (bp "move" (.ref a) [])))):=k4.after nx;generalize upd H4 x (.ins Z.a_System dx (bp "states" (.int mv.length) (bp "move" (.ref a) [])))=H5 at e4 hx5 Ga5 k5 ⊢;clear e3 e4 i3 i4 hx4 Ga4 ga qa;exists ⟨q,ys,1,4,rfl,k5 _ _ gy,by lia,?_⟩;exists ⟨x,Z.a_System,dx,_,_,rfl,hx5,T.cl_System,T.na_states,(by rw[aX,if_pos rfl]),?_⟩;exists ⟨q,H1,pt,mv.length,rfl,gq.same k5,by lia,by lia,λws hw=>⟨D.pw ws hw,op ws hw⟩,λb H6 nb s6 Gb=>?_⟩;have hx6:=s6 _ _ hx5;have i6:mK H6 x:=⟨_,_,_,hx6⟩;exists ⟨x,Z.a_System,dx,_,rfl,hx6,T.cl_System,T.na_put,a7 cQ (a7 (cz cQ) (by show 2 < 1000;decide)),?_⟩;have e6:uQ x H6 (upd H6 x (.ins Z.a_System dx (bp "put" (.ref b) (bp "states" (.int mv.length) (bp "move" (.ref a) []))))):=uQ.upd;have hx7:(upd H6 x (.ins Z.a_System dx (bp "put" (.ref b) (bp "states" (.int mv.length) (bp "move" (.ref a) []))))) x=some (.ins Z.a_System dx (bp "put" (.ref b) (bp "states" (.int mv.length) (bp "move" (.ref a) [])))):=aA;have Ga7:=(Ga5.same s6).exc e6 i6;have Gb7:=(Gb.weak k5).exc e6 i6;have k7:aD Hb (upd H6 x (.ins Z.a_System dx (bp "put" (.ref b) (bp "states" (.int mv.length) (bp "move" (.ref a) []))))):=(k5.trans s6).after nx;generalize upd H6 x (.ins Z.a_System dx (bp "put" (.ref b) (bp "states" (.int mv.length) (bp "move" (.ref a) []))))=H7 at e6 hx7 Ga7 Gb7 k7 ⊢;obtain ⟨bs,gb,qb,_⟩:=id Gb7;have lb:=qb.length;exists ⟨x,Z.a_System,dx,_,_,rfl,hx7,T.cl_System,T.na_put,(by rw[aX,if_pos rfl]),?_⟩;exists ⟨_,_,rfl,.inl (bD.of gb),?_⟩;exists ⟨x,Z.a_System,dx,_,rfl,hx7,T.cl_System,T.na_ins,a7 cQ (a7 (cz (ar cQ (cz cQ))) (by show 3 < 1000;decide)),?_⟩;rw[show ((bs.length:Nat):Int)=((pt.length:Nat):Int) by rw[lb]];have i7:mK H7 x:=⟨_,_,_,hx7⟩;have e7:uQ x H7 (upd H7 x (.ins Z.a_System dx (bp "ins" (.int pt.length) (bp "put" (.ref b) (bp "states" (.int mv.length) (bp "move" (.ref a) [])))))):=uQ.upd;have hx8:(upd H7 x (.ins Z.a_System dx (bp "ins" (.int pt.length) (bp "put" (.ref b) (bp "states" (.int mv.length) (bp "move" (.ref a) [])))))) x=some (.ins Z.a_System dx (bp "ins" (.int pt.length) (bp "put" (.ref b) (bp "states" (.int mv.length) (bp "move" (.ref a) []))))):=aA;have Ga8:=Ga7.exc e7 i7;have Gb8:=Gb7.exc e7 i7;have k8:aD Hb (upd H7 x (.ins Z.a_System dx (bp "ins" (.int pt.length) (bp "put" (.ref b) (bp "states" (.int mv.length) (bp "move" (.ref a) [])))))):=k7.after nx;generalize upd H7 x (.ins Z.a_System dx (bp "ins" (.int pt.length) (bp "put" (.ref b) (bp "states" (.int mv.length) (bp "move" (.ref a) [])))))=H8 at e7 hx8 Ga8 Gb8 k8 ⊢;clear e6 e7 i6 i7 hx7 Ga7 Gb7 gb qb;exists ⟨r,zs,2,4,rfl,k8 _ _ gz,by lia,?_⟩;exists ⟨x,Z.a_System,dx,_,_,rfl,hx8,T.cl_System,T.na_states,(by rw[aX,if_neg (by decide +kernel),aX,if_neg (by decide +kernel),aX,if_pos rfl]),?_⟩;exists ⟨r,H2,lk,mv.length,rfl,gr.same k8,by lia,by lia,λws hw=>⟨D.lw ws hw,ol ws hw⟩,λc H9 nc s9 Gc=>?_⟩;have hx9:=s9 _ _ hx8;have i9:mK H9 x:=⟨_,_,_,hx9⟩;exists ⟨x,Z.a_System,dx,_,rfl,hx9,T.cl_System,T.na_look,a7 cQ (a7 (cz (ar cQ (cz (ar cQ (cz cQ))))) (by show 4 < 1000;decide)),?_⟩;have e9:uQ x H9 (upd H9 x (.ins Z.a_System dx (bp "look" (.ref c) (bp "ins" (.int pt.length) (bp "put" (.ref b) (bp "states" (.int mv.length) (bp "move" (.ref a) []))))))):=uQ.upd;have hxA:(upd H9 x (.ins Z.a_System dx (bp "look" (.ref c) (bp "ins" (.int pt.length) (bp "put" (.ref b) (bp "states" (.int mv.length) (bp "move" (.ref a) []))))))) x=some (.ins Z.a_System dx (bp "look" (.ref c) (bp "ins" (.int pt.length) (bp "put" (.ref b) (bp "states" (.int mv.length) (bp "move" (.ref a) [])))))):=aA;have GaA:=(Ga8.same s9).exc e9 i9;have GbA:=(Gb8.same s9).exc e9 i9;have GcA:=(Gc.weak k8).exc e9 i9;have kA:aD Hb (upd H9 x (.ins Z.a_System dx (bp "look" (.ref c) (bp "ins" (.int pt.length) (bp "put" (.ref b) (bp "states" (.int mv.length) (bp "move" (.ref a) []))))))):=(k8.trans s9).after nx;generalize upd H9 x (.ins Z.a_System dx (bp "look" (.ref c) (bp "ins" (.int pt.length) (bp "put" (.ref b) (bp "states" (.int mv.length) (bp "move" (.ref a) []))))))=HA at e9 hxA GaA GbA GcA kA ⊢;obtain ⟨cs,gc,qc,_⟩:=id GcA;have lc:=qc.length;exists ⟨x,Z.a_System,dx,_,_,rfl,hxA,T.cl_System,T.na_look,(by rw[aX,if_pos rfl]),?_⟩;exists ⟨_,_,rfl,.inl (bD.of gc),?_⟩;exists ⟨x,Z.a_System,dx,_,rfl,hxA,T.cl_System,T.na_outs,a7 cQ (a7 (cz (ar cQ (cz (ar cQ (cz (ar cQ (cz cQ))))))) (by show 5 < 1000;decide)),?_⟩;rw[show ((cs.length:Nat):Int)=((lk.length:Nat):Int) by rw[lc]];have iA:mK HA x:=⟨_,_,_,hxA⟩;exact k _ (kA.after nx) ⟨dx,a,b,c,aA,back na,k5.none nb,k8.none nc,(GaA.exc uQ.upd iA).weak s0,GbA.exc uQ.upd iA,GcA.exc uQ.upd iA⟩
theorem b7:a8 ["text","words","wide","ins","outs","put_at","look_at","move","put"] ["text"] (aI jy):=by walk_at "d"
theorem rh (T:Txt K mg Z):ck P w K mg base (uS P w) 7 Z.dN Z.my ["text"] (we K Z.a_System Z.a_NoText):=by
 refine T.eD.F.okX b7 (λvs H Q E h=>?_) (λcdv A outer s H vs Q E hr h=>?_)
 ·obtain ⟨l,ws,rfl,_⟩:=h;rfl
 ·obtain ⟨l,ws,rfl,hl,w0,w1,ew,k,ke⟩:=h
  refine ⟨_,(ag (aY (i:=1) b7.nd rfl (Or.inl rfl) (cW (pG T) hr T.jl (aa (pv 0) ae)))
   (ag (bh (aB kv (a5 aW (by rfl) T.len aH (aa (pv 1) ae)) af (aJ _)) (ak (eK dD rfl rfl T.mg_NoText T.ex_NoText)) aN)
   (ag (aY (i:=2) b7.nd rfl (Or.inl rfl) (dX (kh T) (hr.mono (by decide)) rfl T.b9.m T.b9.F.kp T.b9.b .nil eB (aa (a9 bc (pv 1) af) (aa (bX (v:=.int 8) rfl T.mg_MOST_STATES ⟨_,rfl⟩) ae))))
   (ag (aY (i:=3) b7.nd rfl (Or.inl rfl) (dX (kh T) (hr.mono (by decide)) rfl T.b9.m T.b9.F.kp T.b9.b .nil eB (aa (a9 bc (pv 1) af) (aa (bX (v:=.int 4) rfl T.mg_MOST_PUTS ⟨_,rfl⟩) ae))))
   (ag (aY (i:=4) b7.nd rfl (Or.inl rfl) (dX (kh T) (hr.mono (by decide)) rfl T.b9.m T.b9.F.kp T.b9.b .nil eB (aa (a9 bc (pv 1) af) (aa (bX (v:=.int 4) rfl T.mg_MOST_LOOKS ⟨_,rfl⟩) ae))))
   (ag (aY (i:=5) b7.nd rfl (Or.inl rfl) (aZ bT af (aZ cp (pv 2) (pv 2))))
   (ag (aY (i:=6) b7.nd rfl (Or.inl rfl) (aZ bT (aZ bT (pv 5) af) (aZ cp (pv 3) (pv 2))))
   (ag (bh (aB iR (a5 aW (by rfl) T.len aH (aa (pv 1) ae)) (aZ bT (aZ bT (pv 6) af) (aZ cp (pv 4) (pv 2))) (aJ _)) (ak (eK dD rfl rfl T.mg_NoText T.ex_NoText)) aN)
   (ag (aY (i:=7) b7.nd rfl (Or.inl rfl) (dX (ki T) (hr.mono (by decide)) rfl T.cb.m T.cb.F.kp T.cb.b .nil eB (aa (cu je (pv 1) (b6 af) (b6 (pv 5))) (aa bB (aa (pv 2) (aa (pv 2) ae))))))
   (ag (aY (i:=8) b7.nd rfl (Or.inl rfl) (dX (ki T) (hr.mono (by decide)) rfl T.cb.m T.cb.F.kp T.cb.b .nil eB (aa (cu je (pv 1) (b6 (pv 5)) (b6 (pv 6))) (aa bB (aa (pv 3) (aa (pv 2) ae))))))
   (ak (aL (Bu T.mk_System (nk T) (hr.mono (by decide)) rfl T.mg_System T.jq .nil zZ (aa (pv 7) (aa (pv 8) (aa (dX (ki T) (hr.mono (by decide)) rfl T.cb.m T.cb.F.kp T.cb.b .nil eB (aa (cu je (pv 1) (b6 (pv 6)) fc) (aa bB (aa (pv 4) (aa (pv 2) ae))))) ae)))))))))))))))),?_⟩
  refine aV (σ:=[some (.str (sl l)),none,none,none,none,none,none,none,none]) rfl ?_;have wl:∀w∈ws,w.length<=1000:=λw hw=>ar (iV (c:=32) hw) (by rw[<- ew];exact hl)
  have es:Txt.split (sl l) (sl [32])=ws.map sl:=by rw[ew];exact qR w0 w1
  exists ⟨_,rfl,by lia,λp H1 s1 np gp=>?_⟩;rw[es,t6] at gp;have lS:(fX ws).length=ws.length:=eY _;exists ⟨_,_,rfl,.inl (bD.of gp),?_⟩;walk_at "w";by_cases l3:ws.length < 3
  ·rw[decide_eq_true (show (((fX ws).length:Nat):Int) < 3 by lia)];exists ke (λmv pt lk h=>by have:=(iJ h).1;lia) _ s1
  rw[decide_eq_false (show ¬(((fX ws).length:Nat):Int) < 3 by lia)];obtain ⟨a0,e0⟩:∃a,ws[0]?=some a:=⟨_,aF (by lia)⟩;obtain ⟨a1,e1⟩:∃a,ws[1]?=some a:=⟨_,aF (by lia)⟩;obtain ⟨a2,e2⟩:∃a,ws[2]?=some a:=⟨_,aF (by lia)⟩;have ix:∀{j:Nat} {a:List Nat},ws[j]?=some a->(fX ws)[j]?=some (.str (sl a)):=λe=>by unfold fX;rw[bH,e];rfl
  exists cF (bD.of gp) (c6 (j:=0) (ix e0)) ?_;exists ⟨a0,8,rfl,wl _ (au e0),λn wn n8 H2 s2=>?_,λz H2 s2=>ke (λmv pt lk h=>?_) _ (s1.trans s2)⟩
  rotate_left
  ·have q:=(iJ h).2.1;rw[e0] at q;have:=z mv.length (by rw[aQ q];exact ed _);have:=h.1.n8
   lia
  have gp2:=s2 _ _ gp;exists cF (bD.of gp2) (c6 (j:=1) (ix e1)) ?_;walk_at "w";have s12:=s1.trans s2;refine ⟨a1,4,rfl,wl _ (au e1),λi wi i4 H3 s3=>?_,λz H3 s3=>ke (λmv pt lk h=>?_) _ (s12.trans s3)⟩
  rotate_left
  ·have q:=(iJ h).2.2.1;rw[e1] at q;have:=z pt.length (by rw[aQ q];exact ed _);have:=h.1.i4
   lia
  have gp3:=s3 _ _ gp2;exists cF (bD.of gp3) (c6 (j:=2) (ix e2)) ?_;walk_at "w";have s13:=s12.trans s3;refine ⟨a2,4,rfl,wl _ (au e2),λo wo o4 H4 s4=>?_,λz H4 s4=>ke (λmv pt lk h=>?_) _ (s13.trans s4)⟩
  rotate_left
  ·have q:=(iJ h).2.2.2.1;rw[e2] at q;have:=z lk.length (by rw[aQ q];exact ed _);have:=h.1.o4
   lia
  have gp4:=s4 _ _ gp3;have s14:=s13.trans s4;have q1:=gU n8 n8;have q2:=gU i4 n8;have q3:=gU o4 n8;rw[fA wn] at e0;rw[fA wi] at e1;rw[fA wo] at e2
  have sy:∀mv pt lk,w5 ws mv pt lk->mv.length=n/\pt.length=i/\lk.length=o/\kE mv pt lk/\ws.length=6+n*n+i*n+o*n/\ws.drop 3=(wM :: gw mv)++(wP :: gw pt)++(wL :: gw lk):=λmv pt lk h=>by
   obtain ⟨c1,c2,c3,c4,c5⟩:=iJ h;rw[e0] at c2;rw[e1] at c3;rw[e2] at c4;have z0:=cI (aQ c2);have z1:=cI (aQ c3);have z2:=cI (aQ c4);exact ⟨z0.symm,z1.symm,z2.symm,h.1,by rw[c1,<- z0,<- z1,<- z2],c5⟩
  exists gD (fQ (by lia) (by lia)) ?_;exists gD (fQ (by lia) (by lia)) ?_;exists ⟨_,_,rfl,.inl (bD.of gp4),?_⟩;exists gD (fQ (by lia) (by lia)) ?_;walk_at "w";have c1:(n:Int)*(n:Int)=((n*n:Nat):Int):=by lia
  have c2:(i:Int)*(n:Int)=((i*n:Nat):Int):=by lia
  have c3:(o:Int)*(n:Int)=((o*n:Nat):Int):=by lia
  rw[c1,c2,c3];by_cases lw:ws.length=6+n*n+i*n+o*n
  rotate_left
  ·rw[decide_eq_false (show ¬(((fX ws).length:Nat):Int)=_ by rw[lS];lia)];exists ke (λmv pt lk h=>lw (sy mv pt lk h).2.2.2.2.1) _ s14
  rw[decide_eq_true (show (((fX ws).length:Nat):Int)=_ by rw[lS,lw];lia)];exists nh (bD.of gp4) λl5 H5 s5 n5 g5=>?_
  rw[show (3:Int)=((3:Nat):Int) from rfl,show ((4:Int)+((n*n:Nat):Int))=((3:Nat):Int)+((1+n*n:Nat):Int) by lia,uA (by lia)] at g5;have st3:∀a b,((fX ws).drop a).take b=fX ((ws.drop a).take b):=λa b=>by unfold fX;rw[List.map_take,Ek]
  rw[st3] at g5;have gp5:=s5 _ _ gp4;have s15:=s14.trans s5;have inW:∀a b,∀x∈(ws.drop a).take b,x.length<=1000:=λa b x hx=>wl x (fZ (tY hx))
  exists ⟨l5,wM,n,n,(ws.drop 3).take (1+n*n),by rw[C5],g5,by rw[dA,bu];lia,by lia,by lia,inW _ _,λg1 G1 ok1 qm H6 nm6 s6 G6=>?_,λz H6 s6=>ke (λmv pt lk h=>?_) _ (s15.trans s6)⟩
  rotate_left
  ·obtain ⟨y1,y2,y3,D,y4,y5⟩:=sy mv pt lk h;have:=(jP y5).1;rw[ah,cy D.mw,y1,cM] at this;exact z mv ⟨λxs hx=>by rw[D.mw xs hx,y1],y1,this⟩
  have gp6:=s6 _ _ gp5;exists nh (bD.of gp6) λl7 H7 s7 n7 g7=>?_
  rw[show ((4:Int)+((n*n:Nat):Int))=((3+(1+n*n):Nat):Int) by lia,show (((3+(1+n*n):Nat):Int)+1+((i*n:Nat):Int))=((3+(1+n*n):Nat):Int)+((1+i*n:Nat):Int) by lia,uA (by lia),st3] at g7;have gp7:=s7 _ _ gp6;have s17:=(s15.trans s6).trans s7;exists ⟨l7,wP,i,n,(ws.drop (3+(1+n*n))).take (1+i*n),by rw[C4],g7,by rw[dA,bu];lia,by lia,by lia,inW _ _,λg2 G2 ok2 qp H8 np8 s8 G8=>?_,λz H8 s8=>ke (λmv pt lk h=>?_) _ (s17.trans s8)⟩
  rotate_left
  ·obtain ⟨y1,y2,y3,D,y4,y5⟩:=sy mv pt lk h;have:=(jP y5).2.1;rw[ah,ah,cy D.mw,cy D.pw,y1,y2,cM _ 1,cM _ 1] at this;exact z pt ⟨λxs hx=>by rw[D.pw xs hx,y1],y2,this⟩
  have gp8:=s8 _ _ gp7;exists nh (bD.of gp8) λl9 H9 s9 n9 g9=>?_
  have st4:∀a,(fX ws).drop a=fX (ws.drop a):=λa=>by unfold fX;rw[Ek]
  rw[show (4:Int)+((n*n:Nat):Int)+1+((i*n:Nat):Int)=((3+(1+n*n)+(1+i*n):Nat):Int) by lia,vO,st4] at g9;have s19:=(s17.trans s8).trans s9;exists ⟨l9,wL,o,n,ws.drop (3+(1+n*n)+(1+i*n)),by rw[C6],g9,by rw[bu];lia,by lia,by lia,λx hx=>wl x (fZ hx),λg3 G3 ok3 ql HA nlA sA GA=>?_,λz HA sA=>ke (λmv pt lk h=>?_) _ (s19.trans sA)⟩
  rotate_left
  ·obtain ⟨y1,y2,y3,D,y4,y5⟩:=sy mv pt lk h;have:=(jP y5).2.2;rw[ah,ah,cy D.mw,cy D.pw,y1,y2,cM (n*n) 1,cM (i*n) 1] at this;exact z lk ⟨λxs hx=>by rw[D.lw xs hx,y1],y3,this⟩
  walk_at "w";have s1A:=s19.trans sA;have s6A:=(s7.trans s8).trans (s9.trans sA);have s8A:=s9.trans sA;have D:kE g1 g2 g3:=⟨by rw[G1.2.1];exact n8,by rw[G2.2.1];exact i4,by rw[G3.2.1];exact o4,λxs hx=>by rw[G1.2.1];exact G1.1 xs hx,λxs hx=>by rw[G1.2.1];exact G2.1 xs hx,λxs hx=>by rw[G1.2.1];exact G3.1 xs hx⟩;have fin:w5 ws g1 g2 g3:=Co D (by rw[G1.2.1];exact e0) (by rw[G2.2.1];exact e1) (by rw[G3.2.1];exact e2) (tu G1.2.2 G2.2.2 G3.2.2);intro x dx nx ndx nex;refine ⟨x,dx,qm,qp,ql,HA,_,_,_,g1,g2,g3,rfl,nx,ndx,nex,rfl,G6.same s6A,G8.same s8A,GA,D,ok1,ok2,ok3,λHB sB SB=>?_⟩;exact ⟨rfl,k g1 g2 g3 fin x HB (s1A.none nx) (s1A.trans sB) (SB.weak s1A)⟩
theorem j7:a8 ["_law_reader","_law_text","_law_found","e"] ["_law_reader","_law_text"] (aI kP):=by walk_at "d"
theorem uv (T:Txt K mg Z):ck P w K mg base jb 8 Z.p5 Z.pR ["_law_reader","_law_text"] (zi K Z.a_System [Z.dO,Z.gI,Z.dN]):=by
 refine T.ko.F.ok j7 (λvs H Q E h=>?_) (λcdv A outer s H vs Q E hr h=>?_)
 ·obtain ⟨k,f,l,ws,rfl,_⟩:=h;rfl
 ·obtain ⟨k,f,l,ws,rfl,k3,hf,hl,w0,w1,ew,kt,ke⟩:=h
  refine ⟨_,(ag (DG rfl rfl (λ_ _ _ hX=>(ak (aY (i:=2) j7.nd rfl (Or.inl rfl) (vA (L:=[(Z.dO,(wj Z.a_NoText)),(Z.gI,(wg K Z.a_NoText)),(Z.dN,(we K Z.a_System Z.a_NoText))]) (by intro p hp;simp only[az,bg,or_false] at hp;rcases hp with rfl | rfl | rfl;exact ⟨⟨_,_,_,(iS T),hr.mono (by decide),T.bP.F.kp ,T.bP.m.b⟩⟩;exact ⟨⟨_,_,_,(vC T),hr.mono (by decide),T.gW.F.kp ,T.gW.m.b⟩⟩;exact ⟨⟨_,_,_,(rh T),hr.mono (by decide),T.eD.F.kp ,T.eD.m.b⟩⟩) hX (pv 0) (aa (pv 1) ae)))))
   (Fc (i:=3) rfl rfl T.mg_SumError j7.nd rfl rfl (λ_=>(ag (bh (bS (a5 yK (by rfl) T.isinstance PyProof.Rows.boot_isinstance (aa (pv 3) (aa (cn (aa (bX (v:=.ref Z.a_NoFit) rfl T.mg_NoFit rfl) (aa (bX (v:=.ref Z.a_NoName) rfl T.mg_NoName rfl) (aa (bX (v:=.ref Z.a_NoNumber) rfl T.mg_NoNumber rfl) (aa (bX (v:=.ref Z.a_NoThing) rfl T.mg_NoThing rfl) (aa (bX (v:=.ref Z.a_NotSeen) rfl T.mg_NotSeen rfl) (aa (bX (v:=.ref Z.a_NotSteered) rfl T.mg_NotSteered rfl) (aa (bX (v:=.ref Z.a_Taken) rfl T.mg_Taken rfl) (aa (bX (v:=.ref Z.a_TooMany) rfl T.mg_TooMany rfl) (aa (bX (v:=.ref Z.a_Wrong) rfl T.mg_Wrong rfl) ae)))))))))) ae)))) (ak (aL (cn (aa bB (aa gE ae))))) aN)
   (ak (aL (cn (aa (a9 bc (c9 (aa bB (aa bB ae))) (b5 pB (by rfl) T.int PyProof.Rows.boot_int (aa (ur (Bv rfl T.isinstance rfl T.mg_NoText (pv 3)) (rd (Bw rfl T.isinstance PyProof.Rows.Boot.«ValueError» T.ValueError (pv 3)))) ae))) (aa gE ae))))))) D0))
   (ak (aL (cn (aa bB (aa (pv 2) ae)))))),?_⟩
  refine aV (σ:=[some (.ref f),some (.str (sl l)),none,none]) rfl ?_;exists Dg ?_;walk_at "w";rcases (show k=0\/k=1\/k=2 by lia) with rfl | rfl | rfl
  ·cases hf;refine nU ?_;exists ⟨_,_,rfl,aE ..,?_⟩;exists ⟨l,rfl,hl,λn vn en r H1 nr s1 h1=>?_,λz H1 s1=>?_⟩
   ·exists bz λr' H2 s2 h2=>?_
    exact kt _ r' H2 (Tl.same (.num n r vn en h1) s2) (s1.trans s2) h2
   ·refine .inl ⟨T.xm_NoText_SumError,λea hea=>?_⟩;have se:aD H1 (upd H1 ea (tM ea (.ref Z.a_NoText) none)):=aD.new hea;have ge:(upd H1 ea (tM ea (.ref Z.a_NoText) none)) ea=some (tM ea (.ref Z.a_NoText) none):=aA;generalize upd H1 ea (tM ea (.ref Z.a_NoText) none)=He at se ge ⊢;exists bz λtp Hf sf gf=>?_
    exists ⟨ea,Z.a_NoText,tp,[Z.a_NoFit,Z.a_NoName,Z.a_NoNumber,Z.a_NoThing,Z.a_NotSeen,Z.a_NotSteered,Z.a_Taken,Z.a_TooMany,Z.a_Wrong],false,rfl,sf _ _ ge,T.xc_NoText,gf,T.ka_NoText_0,?_⟩;exists cE λll Hg sg ng gg=>?_
    have ge2:=sg _ _ (sf _ _ ge);exists ⟨ea,_,_,rfl,ge2,.inl ⟨T.ki_NoText_NoText,?_⟩⟩;exists ⟨ea,_,_,rfl,ge2,.inl ⟨T.ki_NoText_ValueError,?_⟩⟩;exists bz λr H' s' h'=>?_
    exact ke (.num z) r H' ((s1.trans se).trans ((sf.trans sg).trans s')) h'
  ·cases hf;refine nU ?_;exists ⟨_,_,rfl,ao _ (aE ..),?_⟩;exists ⟨l,rfl,hl,λns hn p H1 np s1 h1=>?_,λz H1 s1=>?_⟩
   ·exists bz λr' H2 s2 h2=>?_
    exact kt _ r' H2 (Tl.same (.row ns p hn h1) s2) (s1.trans s2) h2
   ·refine .inl ⟨T.xm_NoText_SumError,λea hea=>?_⟩;have se:aD H1 (upd H1 ea (tM ea (.ref Z.a_NoText) none)):=aD.new hea;have ge:(upd H1 ea (tM ea (.ref Z.a_NoText) none)) ea=some (tM ea (.ref Z.a_NoText) none):=aA;generalize upd H1 ea (tM ea (.ref Z.a_NoText) none)=He at se ge ⊢;exists bz λtp Hf sf gf=>?_
    exists ⟨ea,Z.a_NoText,tp,[Z.a_NoFit,Z.a_NoName,Z.a_NoNumber,Z.a_NoThing,Z.a_NotSeen,Z.a_NotSteered,Z.a_Taken,Z.a_TooMany,Z.a_Wrong],false,rfl,sf _ _ ge,T.xc_NoText,gf,T.ka_NoText_0,?_⟩;exists cE λll Hg sg ng gg=>?_
    have ge2:=sg _ _ (sf _ _ ge);exists ⟨ea,_,_,rfl,ge2,.inl ⟨T.ki_NoText_NoText,?_⟩⟩;exists ⟨ea,_,_,rfl,ge2,.inl ⟨T.ki_NoText_ValueError,?_⟩⟩;exists bz λr H' s' h'=>?_
    exact ke (.row z) r H' ((s1.trans se).trans ((sf.trans sg).trans s')) h'
  ·cases hf;refine nU ?_;exists ⟨_,_,rfl,ao _ (ao _ (aE ..)),?_⟩;exists ⟨l,ws,rfl,hl,w0,w1,ew,λmv pt lk hs x H1 nx s1 h1=>?_,λz H1 s1=>?_⟩
   ·exists bz λr' H2 s2 h2=>?_
    exact kt _ r' H2 (Tl.same (.sys mv pt lk x hs h1) s2) (s1.trans s2) h2
   ·refine .inl ⟨T.xm_NoText_SumError,λea hea=>?_⟩;have se:aD H1 (upd H1 ea (tM ea (.ref Z.a_NoText) none)):=aD.new hea;have ge:(upd H1 ea (tM ea (.ref Z.a_NoText) none)) ea=some (tM ea (.ref Z.a_NoText) none):=aA;generalize upd H1 ea (tM ea (.ref Z.a_NoText) none)=He at se ge ⊢;exists bz λtp Hf sf gf=>?_
    exists ⟨ea,Z.a_NoText,tp,[Z.a_NoFit,Z.a_NoName,Z.a_NoNumber,Z.a_NoThing,Z.a_NotSeen,Z.a_NotSteered,Z.a_Taken,Z.a_TooMany,Z.a_Wrong],false,rfl,sf _ _ ge,T.xc_NoText,gf,T.ka_NoText_0,?_⟩;exists cE λll Hg sg ng gg=>?_
    have ge2:=sg _ _ (sf _ _ ge);exists ⟨ea,_,_,rfl,ge2,.inl ⟨T.ki_NoText_NoText,?_⟩⟩;exists ⟨ea,_,_,rfl,ge2,.inl ⟨T.ki_NoText_ValueError,?_⟩⟩;exists bz λr H' s' h'=>?_
    exact ke (.sys z) r H' ((s1.trans se).trans ((sf.trans sg).trans s')) h'
theorem jg:a8 ["_law_thing","_law_part"] ["_law_thing"] (aI gv):=by walk_at "d"
theorem jk (T:Txt K mg Z):ck P w K mg base jb 2 Z.jX Z.jU ["_law_thing"] (yn K):=by
 refine T.dZ.F.ok jg (λvs H Q E h=>?_) (λcdv A outer s H vs Q E hr h=>?_)
 ·obtain ⟨x,n,rfl,_⟩:=h;rfl
 ·obtain ⟨x,n,rfl,⟨p,rfl,hp⟩,hn,k⟩:=h
  refine ⟨_,(ag (bh (PW.pt (df (cG (bS (qB rfl T.isinstance PyProof.Rows.boot_tuple T.tuple (pv 0)))) (cT (aB iR (a5 aW (by rfl) T.len aH (aa (pv 0) ae)) af (aJ _))))) (ak (aL fG)) aN)
   (ag (dQ PassesOwn.never rfl (DJ (pv 0)) (a6 (i:=1) jg.nd)
    (ak (bh (PW.pt (df (cG (bS (qB rfl T.isinstance PyProof.Rows.boot_int T.int (pv 1)))) (cT (bS (qB rfl T.isinstance PyProof.Rows.boot_bool T.bool (pv 1)))))) (ak (aL fG)) aN)))
   (ak (aL (ur (gL kZ (a9 bN (pv 0) af) af (aJ _)) (rd (gL (wA (qr hr)) (cW (eC T) hr T.di (aa (a9 bN (pv 0) af) (aa (a9 bN (pv 0) af) ae))) (pv 0) (aJ _)))))))),?_⟩
  refine aV (σ:=[some (.ref p),none]) rfl ?_;obtain ⟨hb,hg,_,hs⟩:=hn;exists .inr ⟨p,_,_,rfl,hp,rfl,?_⟩;exists ⟨_,_,rfl,.inr hp,?_⟩;walk_at "w"
  try refine BJ ?_
  exists ⟨⟨_,hp⟩,?_⟩;refine BN (K:=K) (a:=p) (xs:=[.int n.1,.int n.2]) (λi σ' H'=>H'=H/\∃x,σ'=[some (.ref p),x]) ⟨rfl,none,rfl⟩ (λi σ' H' _ ⟨e,_⟩=>by subst e;exact hp) ?_ ?_
  ·rintro i x σ' H' hx ⟨rfl,y,rfl⟩
   obtain ⟨z,rfl⟩:∃z,x=V.int z:=by
    have hm:x∈[V.int n.1,V.int n.2]:=au hx;simp only[az,bg,or_false] at hm;rcases hm with e | e
    ·exact ⟨_,e⟩
    ·exact ⟨_,e⟩
   exists .inl ⟨_,_,.int z,rfl,?_⟩;exists .inl ⟨_,_,.int z,rfl,?_⟩;exists ⟨rfl,_,rfl⟩
  ·rintro σ' H' ⟨rfl,x,rfl⟩;walk_at "w";rw[decide_eq_true hb];exists ⟨n.1,n.2,rfl,hb,hs.mono (by decide),λr H' s1 h'=>?_⟩;obtain ⟨e1,e2⟩:=DU hb hg;exists ⟨_,_,BH,(lo n.1 n.2,hi n.1 n.2),n,by decide,⟨r,rfl,i8.of h'⟩,⟨p,rfl,s1.sqt hp⟩,?_⟩;rw[e1,e2,decide_eq_true rfl];exact k _ s1
theorem qX:a8 ["_law_thing","_law_many"] ["_law_thing","_law_many"] (aI jC):=by walk_at "d"
theorem lg (T:Txt K mg Z):ck P w K mg base jb 3 Z.mI Z.mE ["_law_thing","_law_many"] (oQ K):=by
 refine T.fN.F.ok qX (λvs H Q E h=>?_) (λcdv A outer s H vs Q E hr h=>?_)
 ·obtain ⟨p,ns,rfl,_⟩:=h;rfl
 ·obtain ⟨p,ns,rfl,hp,hl,hn,k⟩:=h
  refine ⟨_,(ag (bh (PW.pt (df (cG (bS (kf rfl T.isinstance PyProof.Rows.boot_list T.list (pv 0)))) (cT (aB iR (a5 aW (by rfl) T.len aH (aa (pv 0) ae)) (pv 1) (aJ _))))) (ak (aL fG)) aN)
   (ak (aL (a5 (lJ rfl) (by rfl) T.all PyProof.Rows.boot_all (aa (du ["_law_one"] [] [] (cL (pv 0)) (λ_=>(a6 (i:=0) (show ND9 ["_law_one"] by decide +kernel))) (λ_=>c8) (λ_=>(cW (jk T) hr T.dZ (aa (pv 0) ae)))) ae))))),?_⟩
  refine aV (σ:=[some (.ref p),some (.int ns.length)]) rfl ?_;obtain ⟨xs,gx,qx⟩:=id hp;have lx:=qx.length;exists ⟨_,_,.lst gx,rfl,?_⟩;exists ⟨_,_,rfl,.inl (bD.of gx),?_⟩;walk_at "w";rw[show ((xs.length:Nat):Int)=(ns.length:Nat) by rw[lx],decide_eq_true rfl];exists ⟨⟨_,bD.of gx⟩,?_⟩;refine de (K:=K) (xs:=xs) (λi ys H'=>aD H H'/\ys=List.replicate i (.bl true)) (bR (b4 (by lia))) ⟨aD.refl _,rfl⟩ (λi ys H' _ ⟨s,_⟩=>bD.of (s _ _ gx)) ?_ ?_
  ·rintro i x ys H' hx hlen ⟨s,rfl⟩;obtain ⟨n,en,z⟩:=eL qx hx;exists ⟨x,n,rfl,s.num z,hn n (au en),λH2 s2=>⟨s.trans s2,by rw[kC]⟩⟩
  ·rintro ys H' hy ⟨s,rfl⟩ l hl';exists ⟨l,List.replicate xs.length true,rfl,bD.of (by rw[aA];simp),?_⟩;have e4:(List.replicate xs.length true).all id=true:=by simp
   rw[e4];exact k _ (s.trans (aD.new hl'))
theorem qk:a8 ["_law_thing","_law_many","_law_wide"] ["_law_thing","_law_many","_law_wide"] (aI iM):=by walk_at "d"
theorem iq (T:Txt K mg Z):ck P w K mg base jb 4 Z.lM Z.lD ["_law_thing","_law_many","_law_wide"] (qU K):=by
 refine T.dI.F.ok qk (λvs H Q E h=>?_) (λcdv A outer s H vs Q E hr h=>?_)
 ·obtain ⟨p,rows,m,rfl,_⟩:=h;rfl
 ·obtain ⟨p,rows,m,rfl,hp,hl,hm,hn,k⟩:=h
  refine ⟨_,(ag (bh (PW.pt (df (cG (bS (kf rfl T.isinstance PyProof.Rows.boot_list T.list (pv 0)))) (cT (aB iR (a5 aW (by rfl) T.len aH (aa (pv 0) ae)) (pv 1) (aJ _))))) (ak (aL fG)) aN)
   (ak (aL (a5 (lJ rfl) (by rfl) T.all PyProof.Rows.boot_all (aa (du ["_law_row_here"] ["_law_wide"] [2] (cL (pv 0)) (λ_=>(a6 (i:=0) (show ND9 ["_law_row_here","_law_wide"] by decide +kernel))) (λ_=>c8) (λ_=>(cW (lg T) hr T.fN (aa (pv 0) (aa (pv 1) ae))))) ae))))),?_⟩
  refine aV (σ:=[some (.ref p),some (.int rows.length),some (.int m)]) rfl ?_;obtain ⟨xs,gx,qx⟩:=id hp;have lx:=qx.length;exists ⟨_,_,.lst gx,rfl,?_⟩;exists ⟨_,_,rfl,.inl (bD.of gx),?_⟩;walk_at "w";rw[show ((xs.length:Nat):Int)=(rows.length:Nat) by rw[lx],decide_eq_true rfl];exists ⟨⟨_,bD.of gx⟩,?_⟩;refine de (K:=K) (xs:=xs) (λi ys H'=>aD H H'/\ys=List.replicate i (.bl true)) (bR (b4 (by lia))) ⟨aD.refl _,rfl⟩ (λi ys H' _ ⟨s,_⟩=>bD.of (s _ _ gx)) ?_ ?_
  ·rintro i x ys H' hx hlen ⟨s,rfl⟩;obtain ⟨ns,en,q,rfl,z⟩:=eL qx hx;obtain ⟨e1,e2⟩:=hn ns (au en);exists ⟨q,ns,by rw[e1],z.same s,by lia,e2,λH2 s2=>⟨s.trans s2,by rw[kC]⟩⟩
  ·rintro ys H' hy ⟨s,rfl⟩ l hl';exists ⟨l,List.replicate xs.length true,rfl,bD.of (by rw[aA];simp),?_⟩;have e4:(List.replicate xs.length true).all id=true:=by simp
   rw[e4];exact k _ (s.trans (aD.new hl'))
theorem dw:a8 ["_law_system","_law_parts_here","_law_move_here","_law_put","_law_look","_law_n","_law_sizes"] ["_law_system","_law_parts_here"] (aI jD):=by walk_at "d"
theorem rj (T:Txt K mg Z):ck P w K mg base jb 5 Z.mJ Z.mF ["_law_system","_law_parts_here"] (zy K Z.a_System):=by
 refine T.iU.F.ok dw (λvs H Q E h=>?_) (λcdv A outer s H vs Q E hr h=>?_)
 ·obtain ⟨x,r,H0,H1,mv,pt,lk,rfl,_⟩:=h;rfl
 ·obtain ⟨x,r,H0,H1,mv,pt,lk,rfl,S,PQ,D,F,k⟩:=h
  refine ⟨_,(ag (fm (pv 1) (oY rfl (dh (a6 (i:=2) dw.nd) (dh (a6 (i:=3) dw.nd) (dh (a6 (i:=4) dw.nd) lT)))))
   (ag (aY (i:=5) dw.nd rfl (Or.inl rfl) (a5 aW (by rfl) T.len aH (aa (pv 2) ae)))
   (ag (bh (PW.pt (df (cG (bS (cW (iq T) hr T.dI (aa (fF (pv 0) rfl) (aa (pv 5) (aa (pv 5) ae)))))) (cT (cG (bS (cW (iq T) hr T.dI (aa (fF (pv 0) rfl) (aa (a5 aW (by rfl) T.len aH (aa (pv 3) ae)) (aa (pv 5) ae))))))))) (ak (aL fG)) aN)
   (ag (bh (PW.pt (df (cG (bS (cW (iq T) hr T.dI (aa (fF (pv 0) rfl) (aa (a5 aW (by rfl) T.len aH (aa (pv 4) ae)) (aa (pv 5) ae)))))) (df (aB (ni (qr hr)) (fF (pv 0) rfl) (pv 2) (aJ _)) (df (aB (ni (qr hr)) (fF (pv 0) rfl) (pv 3) (aJ _)) (cT (aB (ni (qr hr)) (fF (pv 0) rfl) (pv 4) (aJ _))))))) (ak (aL fG)) aN)
   (ag (aY (i:=6) dw.nd rfl (Or.inl rfl) (c9 (aa (fF (pv 0) rfl) (aa (fF (pv 0) rfl) (aa (fF (pv 0) rfl) ae)))))
   (ag (bh (bS (a5 (Av rfl) (by rfl) T.any PyProof.Rows.boot_any (aa (du ["_law_one"] [] [] (cL (pv 6)) (λ_=>(a6 (i:=0) (show ND9 ["_law_one"] by decide +kernel))) (λ_=>c8) (λ_=>(E1 (xx K rfl T.isinstance PyProof.Rows.boot_bool T.bool (pv 0)) (rd (zY (xx K rfl T.isinstance PyProof.Rows.boot_int T.int (pv 0))))))) ae))) (ak (aL fG)) aN)
   (ak (aL (gL (wA (qr hr)) (pv 6) (c9 (aa (pv 5) (aa (a5 aW (by rfl) T.len aH (aa (pv 3) ae)) (aa (a5 aW (by rfl) T.len aH (aa (pv 4) ae)) ae)))) (aJ _)))))))))),?_⟩
  refine aV (σ:=[some (.ref x),some (.ref r),none,none,none,none,none]) rfl ?_;obtain ⟨m,p,l,g,n1,n2,n3,Gm,Gp,Gl⟩:=id PQ;obtain ⟨dx,a,b,c,gx,m1,m2,m3,Ga,Gb,Gc⟩:=id S;have d1:=D.n8;have d2:=D.i4;have d3:=D.o4;have lm:(mv.map (List.map nm)).length=mv.length:=ay ..;have lp:(pt.map (List.map nm)).length=pt.length:=ay ..;have ll:(lk.map (List.map nm)).length=lk.length:=ay ..
  have ok:∀(rows:LR9),(∀xs∈rows,xs.length=mv.length)->sG rows->∀ns∈rows.map (List.map nm),ns.length=mv.length/\∀n∈ns,ja n:=λrows hr ho ns hn=>by
   obtain ⟨qs,hq,rfl⟩:=be.mp hn;refine ⟨by rw[ay];exact hr qs hq,λn hn=>?_⟩;obtain ⟨y,hy,rfl⟩:=be.mp hn;exact ho qs hq y hy
  obtain ⟨ms,gm,qm,_⟩:=id Gm;obtain ⟨ps,gp,qp,_⟩:=id Gp;obtain ⟨ls,gl,ql,_⟩:=id Gl;have lms:=qm.length;have lps:=qp.length;have lls:=ql.length;exists ⟨_,_,rfl,.inl (bD.of gm),?_⟩;rw[<- lms];exists ⟨x,Z.a_System,dx,_,_,rfl,gx,T.cl_System,T.na_move,uY,?_⟩;exists ⟨a,_,mv.length,by rw[lm],Ga.gridK,by rw[lm];lia,by lia,λns' hx=>ok mv D.mw F.1 ns' hx,λH2 s2=>?_⟩;exists ⟨x,Z.a_System,dx,_,_,rfl,(s2 _ _ gx),T.cl_System,T.na_put,xj,?_⟩;exists ⟨_,_,rfl,.inl (bD.of (s2 _ _ gp)),?_⟩;rw[<- lps];exists ⟨b,_,mv.length,by rw[lp],(Gb.same s2).gridK,by rw[lp];lia,by lia,λns' hx=>ok pt D.pw F.2.1 ns' hx,λH3 s3=>?_⟩;walk_at "w";have s23:=s2.trans s3;refine ⟨x,Z.a_System,dx,_,_,rfl,(s23 _ _ gx),T.cl_System,T.na_look,uZ,?_⟩;exists ⟨_,_,rfl,.inl (bD.of (s23 _ _ gl)),?_⟩;rw[<- lls];exists ⟨c,_,mv.length,by rw[ll],(Gc.same s23).gridK,by rw[ll];lia,by lia,λns' hx=>ok lk D.lw F.2.2 ns' hx,λH4 s4=>?_⟩;walk_at "w";have s24:=s23.trans s4;have gx4:=s24 _ _ gx;refine ⟨x,Z.a_System,dx,_,_,rfl,gx4,T.cl_System,T.na_move,uY,?_⟩;exists ⟨_,_,uC,_,_,by decide,(Ga.same s24).kind,(Gm.same s24).kind,?_⟩;rw[decide_eq_true rfl];exists ⟨x,Z.a_System,dx,_,_,rfl,gx4,T.cl_System,T.na_put,xj,?_⟩;exists ⟨_,_,uC,_,_,by decide,(Gb.same s24).kind,(Gp.same s24).kind,?_⟩;rw[decide_eq_true rfl];exists ⟨x,Z.a_System,dx,_,_,rfl,gx4,T.cl_System,T.na_look,uZ,?_⟩;exists ⟨_,_,uC,_,_,by decide,(Gc.same s24).kind,(Gl.same s24).kind,?_⟩;rw[decide_eq_true rfl];exists ⟨x,Z.a_System,dx,_,_,rfl,gx4,T.cl_System,T.na_states,wa,?_⟩;exists ⟨x,Z.a_System,dx,_,_,rfl,gx4,T.cl_System,T.na_ins,AR,?_⟩;exists ⟨x,Z.a_System,dx,_,_,rfl,gx4,T.cl_System,T.na_outs,zd,?_⟩;exists cE λsz H5 s5 n5 g5=>?_
  have s25:=s24.trans s5;exists ⟨⟨_,bD.of g5⟩,?_⟩;refine de (K:=K) (xs:=[V.int mv.length,V.int pt.length,V.int lk.length]) (λi ys H'=>H'=H5/\ys=List.replicate i (V.bl false)) (bR (b4 (by show 3<=1000;decide))) ⟨rfl,rfl⟩ (λi ys H' _ ⟨e,_⟩=>by subst e;exact bD.of g5) ?_ ?_
  ·rintro i v ys H' hv hlen ⟨rfl,rfl⟩
   obtain ⟨z,rfl⟩:∃z:Nat,v=V.int z:=by
    have hm:=au hv;simp only[az,bg,or_false] at hm;rcases hm with e | e | e
    ·exact ⟨_,e⟩
    ·exact ⟨_,e⟩
    ·exact ⟨_,e⟩
   exists ⟨_,false,.int z,rfl,?_⟩;exists ⟨_,true,.int z,rfl,?_⟩;exists ⟨rfl,by rw[kC];rfl⟩
  rintro ys H' hy ⟨rfl,rfl⟩ t ht;exists ⟨t,[false,false,false],rfl,bD.of aA,?_⟩;have s6:aD H' (upd H' t (.lst (List.replicate 3 (V.bl false)))):=aD.new ht;have e3:[V.int mv.length,V.int pt.length,V.int lk.length].length=3:=rfl;rw[e3];generalize upd H' t (.lst (List.replicate 3 (V.bl false)))=H6 at s6 ⊢;have e4:[false,false,false].any id=false:=rfl;rw[e4];walk_at "w";have s26:=s25.trans s6;refine ⟨_,_,rfl,.inl (bD.of (s26 _ _ gp)),?_⟩;rw[<- lps];exists ⟨_,_,rfl,.inl (bD.of (s26 _ _ gl)),?_⟩;rw[<- lls];exists cE λt2 H7 s7 n7 g7=>?_
  exists ⟨_,_,yB BI,[(mv.length:Int),pt.length,lk.length],[(mv.length:Int),pt.length,lk.length],by decide,⟨sz,_,rfl,bD.of ((s6.trans s7) _ _ g5),.cons rfl (.cons rfl (.cons rfl .nil))⟩,⟨t2,_,rfl,bD.of g7,.cons rfl (.cons rfl (.cons rfl .nil))⟩,?_⟩;rw[decide_eq_true rfl];exact k _ (s26.trans s7)
theorem qo:a8 ["_law_word_here"] ["_law_word_here"] (aI iN):=by walk_at "d"
theorem ir (T:Txt K mg Z):ck P w K mg base jb 1 Z.lN Z.lE ["_law_word_here"] zA:=by
 refine T.dJ.F.ok qo (λvs H Q E h=>?_) (λcdv A outer s H vs Q E hr h=>?_)
 ·obtain ⟨l,rfl,_⟩:=h;rfl
 ·obtain ⟨l,rfl,hl,k⟩:=h
  refine ⟨_,(ag (bh (PW.pt (df (aB cH (pv 0) bB (aJ _)) (df (aB kZ (a5 eN (by rfl) T.len aH (aa (pv 0) ae)) af (aJ _)) (cT (PW.pt (eh (aB cH (a9 Ac (pv 0) af) bB (aJ _)) (eI (aB kZ (a5 eN (by rfl) T.len aH (aa (pv 0) ae)) af (aJ _))))))))) (ak (aL fG)) aN)
   (ak (aL (a5 (lJ rfl) (by rfl) T.all PyProof.Rows.boot_all (aa (du ["_law_sign_here"] [] [] (wz (pv 0)) (λ_=>(a6 (i:=0) (show ND9 ["_law_sign_here"] by decide +kernel))) (λ_=>c8) (λ_=>(gL tx (pv 0) bB (by with_unfolding_all rfl)))) ae))))),?_⟩
  refine aV (σ:=[some (.str (sl l))]) rfl ?_;walk_at "w";by_cases e0:l=[]
  ·subst e0;rw[decide_eq_true (show sl []=Str.ofString "" from ef.symm)];exists k false _ ⟨(λz=>nomatch z),λ⟨n,w⟩=>absurd rfl w.1⟩ (aD.refl _)
  rw[decide_eq_false (show ¬(sl l=Str.ofString "") from λz=>e0 (fB (z.trans ef)))];walk_at "w"
  rotate_left
  refine ⟨by rw[aR];exact bo (by lia),?_⟩;rw[aR];walk_at "w";rw[decide_eq_false (show ¬(1000:Int) < (l.length:Nat) by lia)]
  obtain ⟨c0,r0,rfl⟩:∃c r,l=c :: r:=by
   cases l with
   | nil=>exact absurd rfl e0
   | cons a r=>exact ⟨a,r,rfl⟩
  exists ⟨_,_,c0,rfl,rfl,by rw[aR];exact bo (by lia),by rw[bx];exact c6 (j:=0) rfl,?_⟩;walk_at "w";by_cases bad:c0=48/\r0≠[]
  ·rw[decide_eq_true (show (⟨#[c0]⟩:Str)=Str.ofString "0" by rw[bad.1];decide +kernel)];walk_at "w"
   rotate_left
   refine ⟨by rw[aR];exact bo (by lia),?_⟩;rw[aR];walk_at "w";have lr:0 < r0.length:=uU.mpr bad.2;rw[decide_eq_true (show (1:Int) < ((c0 :: r0).length:Nat) by rw[ah];lia)];exists k false _ ⟨(λz=>nomatch z),λ⟨n,w⟩=>absurd (w.2.2.1 (by rw[bad.1];rfl)) (λz=>bad.2 (bI z).2)⟩ (aD.refl _)
  ·have good:(c0 :: r0).head?=some 48->c0 :: r0=[48]:=λz=>by
    have z':c0=48:=by simpa using z
    have:r0=[]:=Classical.byContradiction λy=>bad ⟨z',y⟩
    rw[z',this]
   by_cases c48:c0=48
   ·rw[decide_eq_true (show (⟨#[c0]⟩:Str)=Str.ofString "0" by rw[c48];decide +kernel)];walk_at "w"
    rotate_left
    refine ⟨by rw[aR];exact bo (by lia),?_⟩;rw[aR];walk_at "w";have e1:=good (by rw[c48];rfl);rw[decide_eq_false (show ¬(1:Int) < ((c0 :: r0).length:Nat) by rw[e1];decide)];exists ⟨_,rfl,_,rfl,?_⟩;refine rV (x:=sl (c0 :: r0)) (λi ys H'=>H'=H/\ys=((c0 :: r0).take i).map λc=>V.bl (decide (c∈[48,49,50,51,52,53,54,55,56,57]))) (by rw[bx];exact bo (by lia)) ⟨rfl,rfl⟩ ?_ ?_
    ·rintro i c ys H' hx hlen ⟨rfl,rfl⟩;rw[bx] at hx;exists ⟨_,_,rfl,rfl,?_⟩;rw[uf,wO];exact ⟨rfl,by rw[take_snoc hx,bw];rfl⟩
    rintro ys H' hy ⟨rfl,rfl⟩ p hp;rw[bx,cA];exists ⟨p,(c0 :: r0).map λc=>decide (c∈[48,49,50,51,52,53,54,55,56,57]),rfl,bD.of (by rw[aA,d7];rfl),?_⟩;refine k _ _ ⟨λz=>?_,λ⟨n,w⟩=>?_⟩ (aD.new hp)
    ·rw[me,cB] at z;refine ⟨_,e0,λc hc=>?_,good,rfl⟩;have:=z c hc;simp at this
     try lia
    ·rw[me,cB];intro c hc;have:=w.2.1 c hc;simp
     try lia
   ·rw[decide_eq_false (show ¬(⟨#[c0]⟩:Str)=Str.ofString "0" from λz=>c48 (by
     have:sl [c0]=sl [48]:=z.trans ue;exact (bI (fB this)).1))]
    exists ⟨_,rfl,_,rfl,?_⟩;refine rV (x:=sl (c0 :: r0)) (λi ys H'=>H'=H/\ys=((c0 :: r0).take i).map λc=>V.bl (decide (c∈[48,49,50,51,52,53,54,55,56,57]))) (by rw[bx];exact bo (by lia)) ⟨rfl,rfl⟩ ?_ ?_
    ·rintro i c ys H' hx hlen ⟨rfl,rfl⟩;rw[bx] at hx;exists ⟨_,_,rfl,rfl,?_⟩;rw[uf,wO];exact ⟨rfl,by rw[take_snoc hx,bw];rfl⟩
    rintro ys H' hy ⟨rfl,rfl⟩ p hp;rw[bx,cA];exists ⟨p,(c0 :: r0).map λc=>decide (c∈[48,49,50,51,52,53,54,55,56,57]),rfl,bD.of (by rw[aA,d7];rfl),?_⟩;refine k _ _ ⟨λz=>?_,λ⟨n,w⟩=>?_⟩ (aD.new hp)
    ·rw[me,cB] at z;refine ⟨_,e0,λc hc=>?_,good,rfl⟩;have:=z c hc;simp at this
     try lia
    ·rw[me,cB];intro c hc;have:=w.2.1 c hc;simp
     try lia
theorem cS:a8 ["_law_text","_law_top","_law_amid","_law_bottom","_law_below","_law_found"] ["_law_text"] (aI kO):=by walk_at "d"
theorem kj (T:Txt K mg Z):ck P w K mg base jb 2 Z.jr Z.pQ ["_law_text"] t8:=by
 refine T.dF.F.ok cS (λvs H Q E h=>?_) (λcdv A outer s H vs Q E hr h=>?_)
 ·obtain ⟨l,rfl,_⟩:=h;rfl
 ·obtain ⟨l,rfl,hl,k,ke⟩:=h
  refine ⟨_,(ag (fm (iO bG CQ CP xC (pv 0) (aa bB ae)) (oY rfl (dh (a6 (i:=1) cS.nd) (dh (a6 (i:=2) cS.nd) (dh (a6 (i:=3) cS.nd) lT)))))
   (ag (aY (i:=4) cS.nd rfl (Or.inl rfl) (gL cH (cu iC (pv 1) fc (b6 af)) bB (aJ _)))
   (eJ (bh (bS (pv 4)) (ak (aY (i:=1) cS.nd rfl (Or.inl rfl) (cu iC (pv 1) (b6 af) fc))) aN)
   (eJ (bh (aB cH (pv 2) bB (aJ _)) (ak (aY (i:=3) cS.nd rfl (Or.inl rfl) bB)) aN)
   (ag (bh (PW.pt (df (cG (bS (cW (ir T) hr T.dJ (aa (pv 1) ae)))) (df (cG (bS (cW (ir T) hr T.dJ (aa (pv 3) ae)))) (cT (aB cH (b5 iI (by rfl) T.int PyProof.Rows.boot_int (aa (pv 3) ae)) af (aJ _)))))) (ak (aL gE)) aN)
   (ag (aY (i:=5) cS.nd rfl (Or.inl rfl) (cn (aa (b5 iI (by rfl) T.int PyProof.Rows.boot_int (aa (pv 1) ae)) (aa (b5 iI (by rfl) T.int PyProof.Rows.boot_int (aa (pv 3) ae)) ae))))
   (eJ (bh (bS (pv 4)) (ak (aY (i:=5) cS.nd rfl (Or.inl rfl) (cn (aa (aZ o5 af (a9 bN (pv 5) af)) (aa (a9 bN (pv 5) af) ae))))) aN)
   (ag (bh (PW.pt (df (aB (ni (qr hr)) (cW (eC T) hr T.di (aa (a9 bN (pv 5) af) (aa (a9 bN (pv 5) af) ae))) (pv 5) (aJ _)) (cT (aB iR (cW (dv T) hr T.cm (aa (pv 5) ae)) (pv 0) (aJ _))))) (ak (aL gE)) aN)
   (ak (aL (pv 5))))))))))),?_⟩
  refine aV (σ:=[some (.str (sl l)),none,none,none,none,none]) rfl ?_;have fr:∀i,47∉dn i:=λi=>lV (by decide) (by decide)
  obtain ⟨a,am,b,ep,la,lb,hp⟩:∃a am b,Txt.partition (sl l) (sl [47])=(sl a,sl am,sl b)/\a.length<=1000/\b.length<=1000/\∀n,Vn n->l=bM n->a=dn n.1/\(if am=[] then [49] else b)=bJ n.2.natAbs:=by
   rcases vd l 47 with h0 | ⟨a,b,rfl,h0⟩
   ·refine ⟨l,[],[],tq h0,hl,bf _,λn vn e=>?_⟩;by_cases e1:n.2=1
    ·rw[fH e1] at e;refine ⟨e,?_⟩;rw[if_pos rfl,e1];exact (eG (n:=1) (by decide)).symm
    ·rw[eX e1] at e;exact absurd (by rw[e];simp) h0
   ·rw[ai,ah] at hl;refine ⟨a,[47],b,tm h0,by lia,by lia,λn vn e=>?_⟩;by_cases e1:n.2=1
    ·rw[fH e1] at e;exact absurd (by rw[<- e];simp) (fr n.1)
    ·rw[eX e1] at e;have:=oA h0 (fr _) e;exact ⟨this.1,by rw[if_neg (by simp)];exact this.2⟩
  exists ⟨rfl,?_⟩;exists ⟨_,_,rfl,rfl,by rw[aR];lia,by decide,λp hp'=>?_⟩;rw[show Str.ofString "/"=sl [47] from nN,ep];have s1:aD H (upd H p (.tup [.str (sl a),.str (sl am),.str (sl b)])):=aD.new hp';have g1:(upd H p (.tup [.str (sl a),.str (sl am),.str (sl b)])) p=some (.tup [.str (sl a),.str (sl am),.str (sl b)]):=aA;generalize upd H p (.tup [.str (sl a),.str (sl am),.str (sl b)])=H1 at s1 g1 ⊢;exists ⟨_,rfl,by lia,?_⟩;walk_at "w";rw[show lH a none (some 1)=a.take 1 from qD a 1]
  have e45:(sl (a.take 1)=Str.ofString "-")↔a.head?=some 45:=by
   rw[show Str.ofString "-"=sl [45] from zG];refine ⟨λz=>?_,λz=>?_⟩
   ·have:=fB z;cases a with
    | nil=>cases this
    | cons x r=>rw[show x=45 from (bI this).1];rfl
   ·cases a with
    | nil=>cases z
    | cons x r=>rw[show x=45 by simpa using z];rfl
  exists ⟨λσ' H'=>H'=H1/\∃(t:List Nat) (ng:Bool),σ'=[some (.str (sl l)),some (.str (sl t)),some (.str (sl am)),some (.str (sl b)),some (.bl ng),none]/\a=(if ng=true then 45 :: t else t)/\(ng=true↔a.head?=some 45),?_,?_⟩
  ·walk_at "w";by_cases e0:a.head?=some 45
   ·rw[decide_eq_true (e45.mpr e0)]
    obtain ⟨t,rfl⟩:∃t,a=45 :: t:=by
     cases a with
     | nil=>cases e0
     | cons x r=>exact ⟨r,by rw[show x=45 by simpa using e0]⟩
    exists ⟨_,rfl,by lia,?_⟩;rw[show lH (45 :: t) (some 1) none=t from lY _ 1];exists ⟨rfl,t,true,rfl,rfl,by simp⟩
   ·rw[decide_eq_false (λz=>e0 (e45.mp z))];exists ⟨rfl,a,false,rfl,rfl,by simpa using e0⟩
  rintro σ' H1' ⟨rfl,t,ng,rfl,ea,hng⟩
  have lt:t.length<=1000:=by
   have:=la;rw[ea] at this
   split at this
   ·rw[ah] at this;lia
   ·exact this
  have hp2:∀n,Vn n->l=bM n->t=bJ n.1.natAbs/\(if am=[] then [49] else b)=bJ n.2.natAbs/\(ng=true↔n.1 < 0):=λn vn e=>by
   obtain ⟨q1,q2⟩:=hp n vn e
   have hd:(dn n.1).head?=some 45↔n.1 < 0:=by
    unfold dn
    split
    ·rename_i z;simp [z]
    ·rename_i z
     obtain ⟨c,r,ec,_⟩:=iH n.1.natAbs;have:=hJ n.1.natAbs c (by rw[ec];simp);rw[ec];simp
     lia
   rw[q1,hd] at hng;refine ⟨?_,q2,hng⟩;rw[ea] at q1;unfold dn at q1;by_cases z:n.1 < 0
   ·rw[if_pos (hng.mpr z),if_pos z] at q1;exact (bI q1).2
   ·rw[if_neg (λy=>z (hng.mp y)),if_neg z] at q1;exact q1
  clear hp e45;exists ⟨λσ' H'=>H'=H1'/\∃bt:List Nat,σ'=[some (.str (sl l)),some (.str (sl t)),some (.str (sl am)),some (.str (sl bt)),some (.bl ng),none]/\bt=(if am=[] then [49] else b),?_,?_⟩
  ·walk_at "w";by_cases e0:am=[]
   ·subst e0;rw[decide_eq_true (show sl []=Str.ofString "" from ef.symm)];exists ⟨rfl,[49],by rw[show Str.ofString "1"=sl [49] by decide +kernel];rfl,by rw[if_pos rfl]⟩
   ·rw[decide_eq_false (show ¬sl am=Str.ofString "" from λz=>e0 (fB (z.trans ef)))];exists ⟨rfl,b,rfl,by rw[if_neg e0]⟩
  rintro σ' H2 ⟨rfl,bt,rfl,eb⟩;rw[<- eb] at hp2
  have lbt:bt.length<=1000:=by
   rw[eb]
   split
   ·decide
   ·exact lb
  exists ⟨t,rfl,lt,λb1 H3 i1 s3=>?_⟩;walk_at "w";cases b1 with
  | false =>
   exists ke (λn vn e=>?_) _ (s1.trans s3);exact absurd (i1.mpr ⟨_,by rw[(hp2 n vn e).1];exact ed _⟩) (by simp)
  | true =>
  obtain ⟨T0,wt⟩:=i1.mp rfl;exists ⟨bt,rfl,lbt,λb2 H4 i2 s4=>?_⟩;have s14:=(s1.trans s3).trans s4;walk_at "w";cases b2 with
  | false =>
   exists ke (λn vn e=>?_) _ s14;exact absurd (i2.mpr ⟨_,by rw[(hp2 n vn e).2.1];exact ed _⟩) (by simp)
  | true =>
  obtain ⟨B0,wb⟩:=i2.mp rfl;have et:=fA wt;have ebt:=fA wb
  have hp3:∀n,Vn n->l=bM n->n=((if ng=true then 0 - (T0:Int) else (T0:Int)),(B0:Int)):=λn vn e=>by
   obtain ⟨q1,q2,q3⟩:=hp2 n vn e;have z1:=cI (et.symm.trans q1);have z2:=cI (ebt.symm.trans q2);have v1:=vn.1;refine Prod.ext ?_ ?_
   ·show n.1=if ng=true then 0 - (T0:Int) else (T0:Int)
    by_cases z:n.1 < 0
    ·rw[if_pos (q3.mpr z)];lia
    ·rw[if_neg (λy=>z (q3.mp y))];lia
   ·show n.2=(B0:Int)
    lia
  exists ⟨wb.1,wb.2.1,by lia,?_⟩;rw[wb.2.2.2];walk_at "w";by_cases b0:B0=0
  ·rw[decide_eq_true (show ((B0:Nat):Int)=0 by lia)];exists ke (λn vn e=>?_) _ s14;have:=vn.1;rw[hp3 n vn e] at this;simp only at this
   lia
  rw[decide_eq_false (show ¬((B0:Nat):Int)=0 by lia)];exists ⟨wt.1,wt.2.1,by lia,?_⟩;rw[wt.2.2.2];exists ⟨wb.1,wb.2.1,by lia,?_⟩;rw[wb.2.2.2];exists bz λft H5 s5 g5=>?_
  have s15:=s14.trans s5;exists ⟨λσ' H'=>∃f,aD H H'/\σ'=[some (.str (sl l)),some (.str (sl t)),some (.str (sl am)),some (.str (sl bt)),some (.bl ng),some (.ref f)]/\H' f=some (.tup [.int (if ng=true then 0 - (T0:Int) else (T0:Int)),.int (B0:Int)]),?_,?_⟩
  ·walk_at "w";cases ng with
   | true =>
    exists bz λft2 H6 s6 g6=>?_
    exists ⟨ft2,s15.trans s6,rfl,g6⟩
   | false =>
    exists ⟨ft,s15,rfl,g5⟩
  rintro σ' H6 ⟨f,s6,rfl,g6⟩;generalize hx0:(if ng=true then 0 - (T0:Int) else (T0:Int))=x0 at g6 hp3 ⊢
  have zx:x0.natAbs < 10^1000:=by
   have:x0.natAbs=T0:=by rw[<- hx0];split <;> lia
   rw[this];exact qC (by rw[<- et];exact lt)
  have zb:((B0:Nat):Int).natAbs < 10^1000:=by
   rw[bZ];exact qC (by rw[<- ebt];exact lbt)
  have sx:=xi zx;have sb:=xi zb;exists ⟨x0,B0,rfl,by lia,sb.mono (by decide),λr7 H7 s7 g7=>?_⟩;have g67:=s7 _ _ g6;have s17:=s6.trans s7;exists ⟨_,_,E4 BI BI,(lo x0 B0,hi x0 B0),(x0,(B0:Int)),by decide,⟨r7,_,_,rfl,i8.of g7,rfl,rfl⟩,⟨f,_,_,rfl,i8.of g67,rfl,rfl⟩,?_⟩;by_cases e0:(lo x0 B0,hi x0 B0)=(x0,(B0:Int))
  ·rw[decide_eq_true e0]
   have vn:Vn (x0,(B0:Int)):=⟨by show (0:Int) < B0;lia,by
    have:=nZ (t:=x0) (b:=B0) (by lia);rw[show Nm.lo x0 B0=x0 from (Prod.ext_iff.mp e0).1,show Nm.hi x0 B0=(B0:Int) from (Prod.ext_iff.mp e0).2] at this;exact this⟩
   have ok:ja (x0,(B0:Int)):=⟨vn.1,vn.2,sx,sb⟩;exists ⟨.ref f,(x0,(B0:Int)),rfl,⟨f,rfl,i8.of g67⟩,ok,?_⟩;walk_at "w";by_cases e1:bM (x0,(B0:Int))=l
   ·rw[decide_eq_true (show sl (bM (x0,(B0:Int)))=sl l by rw[e1])];exists k _ vn e1.symm f _ s17 g67
   ·rw[decide_eq_false (show ¬sl (bM (x0,(B0:Int)))=sl l from λz=>e1 (fB z))];exists ke (λn vn' e=>e1 (by rw[<- hp3 n vn' e];exact e.symm)) _ s17
  ·rw[decide_eq_false e0];exists ke (λn vn e=>e0 ?_) _ s17;have q:=hp3 n vn e;have v2:=vn.2;rw[q] at v2;have g1:g x0 B0=1:=by unfold g;rw[v2];rfl
   unfold Nm.lo Nm.hi;rw[g1,Int.ediv_one,Int.ediv_one]
theorem nR:a8 ["_law_text","_law_row_here"] ["_law_text"] (aI kW):=by walk_at "d"
theorem uy (T:Txt K mg Z):ck P w K mg base jb 3 Z.js Z.pX ["_law_text"] (uc K):=by
 refine T.fM.F.ok nR (λvs H Q E h=>?_) (λcdv A outer s H vs Q E hr h=>?_)
 ·obtain ⟨l,rfl,_⟩:=h;rfl
 ·obtain ⟨l,rfl,hl,k,ke⟩:=h
  refine ⟨_,(ag (bh (aB cH (pv 0) bB (aJ _)) (ak (aL (c9 ae))) aN)
   (ag (qA 1 ["_law_word_here"] [] [] nR.nd rfl rfl (cL (iO bG qI qH rA (pv 0) (aa bB ae))) (λ_=>(a6 (i:=0) (show ND9 ["_law_word_here"] by decide +kernel))) (λ_=>c8) (λ_=>(cW (kj T) hr T.dF (aa (pv 0) ae))))
   (ag (bh (aB (z4 (qr hr)) gE (pv 1) (by with_unfolding_all rfl)) (ak (aL gE)) aN)
   (ak (aL (pv 1)))))),?_⟩
  refine aV (σ:=[some (.str (sl l)),none]) rfl ?_;obtain ⟨ws,w0,w1,ew,es⟩:=nM l 32;have wl:∀w∈ws,w.length<=1000:=λw hw=>ar (iV (c:=32) hw) (by rw[<- ew];exact hl)
  have wc:ws.length<=1001:=ar (jQ (c:=32)) (by rw[<- ew];lia);walk_at "w";by_cases e0:l=[]
  ·rw[decide_eq_true (show sl l=Str.ofString "" by rw[e0,ef])];exists ⟨by decide,λl3 h3=>?_⟩;exact k [] ⟨(λn hn=>nomatch hn),e0⟩ l3 _ h3 (aD.new h3) ⟨[],aA,.nil⟩
  rw[decide_eq_false (show ¬sl l=Str.ofString "" from λz=>e0 (fB (z.trans ef)))];exists ⟨rfl,?_⟩;exists ⟨_,_,rfl,rfl,by rw[aR];lia,by decide,λp hp=>?_⟩;rw[show Str.ofString " "=sl [32] from kH,es,t6];have s1:aD H (upd H p (.lst (fX ws))):=aD.new hp;have g1:(upd H p (.lst (fX ws))) p=some (.lst (fX ws)):=aA;generalize upd H p (.lst (fX ws))=H1 at s1 g1 ⊢;exists ⟨⟨_,bD.of g1⟩,?_⟩;refine de (K:=K) (xs:=fX ws) (λi ys H'=>aD H1 H'/\Paired (Wd K H') (ws.take i) ys) (by rw[eY];exact bo (by lia)) ⟨aD.refl _,.nil⟩ (λi ys H' _ ⟨s,_⟩=>bD.of (s _ _ g1)) ?_ ?_
  ·rintro i x ys H' hx hlen ⟨s',pr⟩;unfold fX at hx;rw[bH] at hx
   obtain ⟨w,ei,rfl⟩:∃w,ws[i]?=some w/\x=.str (sl w):=by
    cases e:ws[i]? with
    | none=>rw[e] at hx;cases hx
    | some n=>rw[e] at hx;cases hx;exact ⟨n,rfl,rfl⟩
   have mw:=au ei;exists ⟨w,rfl,wl w mw,λn vn e r H4 s4 g4=>?_,λz H4 s4=>?_⟩
   ·exact ⟨s'.trans s4,by rw[take_snoc ei];exact cN (Paired.imp' (λ_ _ z=>z.same s4) pr) (.cons (.inl ⟨n,vn,e,r,rfl,i8.of g4⟩) .nil)⟩
   ·exact ⟨s'.trans s4,by rw[take_snoc ei];exact cN (Paired.imp' (λ_ _ z=>z.same s4) pr) (.cons (.inr ⟨rfl,z⟩) .nil)⟩
  rintro ys H2' hy ⟨s2',pr⟩ l2 n2;rw[eY,cA] at pr;have s2n:aD H2' (upd H2' l2 (.lst ys)):=aD.new n2;have g2:(upd H2' l2 (.lst ys)) l2=some (.lst ys):=aA;replace pr:=Paired.imp' (λ_ _ z=>Wd.same z s2n) pr;generalize upd H2' l2 (.lst ys)=H2 at s2n g2 pr ⊢;have s02:=(s1.trans s2').trans s2n;have n02:=(s1.trans s2').none n2;exists ⟨l2,ys,rfl,rfl,bD.of g2,uW pr,λb hb=>?_⟩;cases b with
  | true =>
   walk_at "w";obtain ⟨w,mw,z⟩:=yW pr (hb.mp rfl);refine ke (λns h=>?_) _ s02;rcases nS w0 w1 ew h with ⟨_,y⟩ | y
   ·exact e0 (by rw[ew,y];rfl)
   ·rw[y] at mw;obtain ⟨n,mn,e⟩:=be.mp mw;exact z n (h.1 n mn) e.symm
  | false =>
   walk_at "w";obtain ⟨ns,hn,en,pn⟩:=yX pr λz=>nomatch hb.mpr z
   exact k ns ⟨hn,by rw[ew,en]⟩ l2 _ n02 s02 ⟨ys,g2,pn⟩
theorem cV:a8 ["_law_words","_law_n","_law_ins","_law_outs","_law_sizes","_law_at","_law_grids_here","_law_word_here","_law_many","_law_numbers"] ["_law_words","_law_n","_law_ins","_law_outs"] (aI kd):=by walk_at "d"
theorem sM (T:Txt K mg Z):ck P w K mg base jb 3 Z.oG Z.oz ["_law_words","_law_n","_law_ins","_law_outs"] (zw K):=by
 refine T.jI.F.ok cV (λvs H Q E h=>?_) (λcdv A outer s H vs Q E hr h=>?_)
 ·obtain ⟨p,n,i,o,ws,rfl,_⟩:=h;rfl
 ·obtain ⟨p,n,i,o,ws,rfl,gp,n8,i4,o4,l3,lW,wl,k,ke⟩:=h
  refine ⟨_,(ag (aY (i:=4) cV.nd rfl (Or.inl rfl) (c9 (aa (cn (aa bB (aa (pv 1) ae))) (aa (cn (aa bB (aa (pv 2) ae))) (aa (cn (aa bB (aa (pv 3) ae))) ae)))))
   (ag (aY (i:=5) cV.nd rfl (Or.inl rfl) af)
   (ag (aY (i:=6) cV.nd rfl (Or.inl rfl) (c9 ae))
   (ag (dQ PassesOwn.never rfl (cL (pv 4)) (oY rfl (dh (a6 (i:=7) cV.nd) (dh (a6 (i:=8) cV.nd) lT)))
    (ag (bh (aB (ni (qr hr)) (cu je (pv 0) (b6 (pv 5)) (b6 (aZ bT (pv 5) af))) (c9 (aa (pv 7) ae)) (aJ _)) (ak (aL gE)) aN)
   (ag (aY (i:=9) cV.nd rfl (Or.inr rfl) (du ["_law_one"] [] [] (cL (cu je (pv 0) (b6 (aZ bT (pv 5) af)) (b6 (aZ bT (aZ bT (pv 5) af) (aZ cp (pv 8) (pv 1)))))) (λ_=>(a6 (i:=0) (show ND9 ["_law_one"] by decide +kernel))) (λ_=>c8) (λ_=>(cW (kj T) hr T.dF (aa (pv 0) ae)))))
   (ag (bh (PW.pt (df (aB (z4 (qr hr)) gE (pv 9) (by with_unfolding_all rfl)) (cT (aB kv (a5 aW (by rfl) T.len aH (aa (pv 9) ae)) (aZ cp (pv 8) (pv 1)) (aJ _))))) (ak (aL gE)) aN)
   (ag (jh (iO eR iz iw lU (pv 6) (aa (du ["_law_k"] ["_law_numbers","_law_n"] [9,1] (cx rfl T.range (aa (pv 8) ae)) (λ_=>(a6 (i:=0) (show ND9 ["_law_k","_law_numbers","_law_n"] by decide +kernel))) (λ_=>c8) (λ_=>(cu (ve K (by rfl)) (pv 1) (b6 (aZ cp (pv 2) (pv 0))) (b6 (aZ bT (aZ cp (pv 2) (pv 0)) (pv 2)))))) ae)))
   (ak (aY (i:=5) cV.nd rfl (Or.inl rfl) (aZ bT (aZ bT (pv 5) af) (aZ cp (pv 8) (pv 1))))))))))
   (ag (bh (aB iR (pv 5) (a5 aW (by rfl) T.len aH (aa (pv 0) ae)) (aJ _)) (ak (aL gE)) aN)
   (ak (aL (cn (aa (a9 bc (pv 6) af) (aa (a9 bc (pv 6) af) (aa (a9 bc (pv 6) af) ae))))))))))),?_⟩
  refine aV (σ:=[some (.ref p),some (.int n),some (.int i),some (.int o),none,none,none,none,none,none]) rfl ?_;have lS:(fX ws).length=ws.length:=eY _
  have no:(∀t,t < 3->∃g,yO ws n i o t g)/\ws.length=xW n i o 3\/∀mv pt lk,kE mv pt lk->mv.length=n->pt.length=i->lk.length=o->ws.drop 3≠(wM :: gw mv)++(wP :: gw pt)++(wL :: gw lk):=by
   rcases Classical.em (∃mv pt lk,kE mv pt lk/\mv.length=n/\pt.length=i/\lk.length=o/\ws.drop 3=(wM :: gw mv)++(wP :: gw pt)++(wL :: gw lk)) with ⟨mv,pt,lk,D,rfl,rfl,rfl,e⟩ | z
   ·obtain ⟨a,b,c,d⟩:=DI D e;refine .inl ⟨λt ht=>?_,d l3⟩;rcases (show t=0\/t=1\/t=2 by lia) with rfl | rfl | rfl
    ·exact ⟨_,a⟩
    ·exact ⟨_,b⟩
    ·exact ⟨_,c⟩
   ·exact .inr λmv pt lk D a b c e=>z ⟨mv,pt,lk,D,a,b,c,e⟩
  have ke2:∀{t:Nat},t < 3->(∀g,¬yO ws n i o t g)->∀H',aD H H'->Q .non H':=λ{t} ht z H' s'=>by
   rcases no with ⟨a,_⟩ | y
   ·obtain ⟨g,hg⟩:=a t ht;exact absurd hg (z g)
   ·exact ke y H' s'
  have mb:∀t,(zW n i o t).2<=8:=λt=>by
   unfold zW
   split
   ·exact n8
   ·split
    ·exact ar i4 (by decide)
    ·exact ar o4 (by decide)
  have ma:∀t,t<=3->xW n i o t<=3+65*t:=λt=>by
   induction t with
   | zero=>exact λ_=>ax _
   | succ t ih =>
    intro ht;have:=ih (by lia);have:=gU (mb t) n8;show xW n i o t+(1+(zW n i o t).2*n)<=_
    lia
  exists bz λt1 H2 s2 g2=>?_
  exists bz λt2 H3 s3 g3=>?_
  exists bz λt3 H4 s4 g4=>?_
  exists cE λzl H5 s5 nz gz=>?_
  have s05:=(s2.trans s3).trans (s4.trans s5);have gp5:=s05 _ _ gp
  have pick:∀(j:Nat) (v:V),[V.ref t1,V.ref t2,V.ref t3][j]?=some v->j < 3/\∃t,v=.ref t/\H5 t=some (.tup [.str (sl (zW n i o j).1),.int ((zW n i o j).2:Nat)]):=λj v hv=>by
   rcases j with _ | _ | _ | j
   ·cases hv;exact ⟨by lia,t1,rfl,by rw[((s3.trans s4).trans s5) _ _ g2,C5];rfl⟩
   ·cases hv;exact ⟨by lia,t2,rfl,by rw[(s4.trans s5) _ _ g3,C4];rfl⟩
   ·cases hv;exact ⟨by lia,t3,rfl,by rw[s5 _ _ g4,C6];rfl⟩
   ·cases hv
  exists cE λgl H6 s6 ngl ggl=>?_
  exists ⟨⟨_,bD.of (s6 _ _ gz)⟩,?_⟩;refine iW (K:=K) (a:=zl) (xs:=[.ref t1,.ref t2,.ref t3]) (λj σ' H'=>aD H5 H'/\∃(gs:List (LR9)) (ys:List V) (y1 y2 y3:Option V),σ'=[some (.ref p),some (.int n),some (.int i),some (.int o),some (.ref zl),some (.int (xW n i o j:Nat)),some (.ref gl),y1,y2,y3]/\H' gl=some (.lst ys)/\Paired (BZ K H5 gl H') gs ys/\gs.length=j/\∀t g,gs[t]?=some g->yO ws n i o t g) ⟨s6,[],[],_,_,_,rfl,ggl,.nil,rfl,λt g e=>by cases t <;> cases e⟩ (λj σ' H' _ ⟨e,_⟩=>bD.of (e _ _ gz)) ?_ ?_
  ·rintro j v σ' H' hv ⟨s',gs,ys,y1,y2,y3,rfl,ggl',pr,lgs,hgs⟩;obtain ⟨j3,t,rfl,gt⟩:=pick j v hv;have mj:=mb j;have mn:=gU mj n8;have aj:=ma j (by lia);generalize hw:(zW n i o j).1=w at gt;generalize hm:(zW n i o j).2=m at gt mj mn;generalize hA:xW n i o j=A at aj ⊢;have pj:∀g,yO ws n i o j g↔Eg ((ws.drop A).take (1+m*n)) w m n g:=λg=>by unfold yO;rw[hw,hm,hA]
   have gt':=s' _ _ gt;have gp':=s' _ _ gp5;have s0':=s05.trans s';exists nh (bD.of gp') λl1 Ha sa na ga=>?_
   rw[show ((A:Nat):Int)+1=((A:Nat):Int)+((1:Nat):Int) from rfl,uL] at ga;have st3:∀a b,((fX ws).drop a).take b=fX ((ws.drop a).take b):=λa b=>by unfold fX;rw[List.map_take,Ek]
   rw[st3] at ga;have gt2:=sa _ _ gt';exists cE λl2 Hb sb nb gb=>?_
   have sab:=sa.trans sb;walk_at "w"
   have pk:∀l:List (List Nat),Paired (λa x=>BG.R K Hb x a) (l.map sl) (fX l):=λl=>by
    induction l with
    | nil=>exact .nil
    | cons a l ih=>exact .cons rfl ih
   refine ⟨_,_,yB BG,((ws.drop A).take 1).map sl,[sl w],by decide,⟨l1,_,rfl,bD.of (sb _ _ ga),pk _⟩,⟨l2,_,rfl,bD.of gb,.cons rfl .nil⟩,?_⟩;by_cases e1:(ws.drop A).take 1=[w]
   rotate_left
   ·rw[decide_eq_false (show ¬((ws.drop A).take 1).map sl=[sl w] from λz=>e1 (by
     generalize (ws.drop A).take 1=q at z ⊢
     match q,z with
     | [x],z=>rw[fB (bI z).1]
     | x :: y :: r,z=>cases (bI z).2))]
    exists ke2 j3 (λg hg=>e1 ?_) _ (s0'.trans sab);have:=((pj g).mp hg).2.2;have h1:=congrArg (List.take 1) this;rw[List.take_take,dR (by lia)] at h1;rw[h1];rfl
   rw[decide_eq_true (show ((ws.drop A).take 1).map sl=[sl w] by rw[e1];rfl)];have gpb:=sab _ _ gp';exists gD (fQ (by lia) (by lia)) ?_;exists nh (bD.of gpb) λl4 Hc sc nc gc=>?_
   rw[show ((A:Nat):Int)+1=((A+1:Nat):Int) by lia,show ((m:Nat):Int)*((n:Nat):Int)=((m*n:Nat):Int) by rw[AJ],uL,st3] at gc;have rl:∀x∈(ws.drop (A+1)).take (m*n),x.length<=1000:=λx hx=>wl x (fZ (tY hx))
   have lr:((ws.drop (A+1)).take (m*n)).length<=m*n:=by rw[dA];lia
   have rg:∀g,yO ws n i o j g->(ws.drop (A+1)).take (m*n)=gw g:=λg hg=>by
    have h1:=congrArg (List.drop 1) ((pj g).mp hg).2.2;rw[List.drop_take,gh,qh] at h1;exact h1
   have e1':(ws.drop A).take (1+m*n)=w :: (ws.drop (A+1)).take (m*n):=by
    rw[List.take_add,e1,gh];rfl
   generalize (ws.drop (A+1)).take (m*n)=rest at gc rl lr rg e1';exists ⟨⟨_,bD.of gc⟩,?_⟩;refine de (K:=K) (xs:=fX rest) (λi ys H'=>aD Hc H'/\Paired (Wd K H') (rest.take i) ys) (by rw[eY];exact bo (by lia)) ⟨aD.refl _,.nil⟩ (λi ys H' _ ⟨s,_⟩=>bD.of (s _ _ gc)) ?_ ?_
   ·rintro i x ys H' hx hlen ⟨s',pr⟩;unfold fX at hx;rw[bH] at hx
    obtain ⟨w,ei,rfl⟩:∃w,rest[i]?=some w/\x=.str (sl w):=by
     cases e:rest[i]? with
     | none=>rw[e] at hx;cases hx
     | some n=>rw[e] at hx;cases hx;exact ⟨n,rfl,rfl⟩
    have mw:=au ei;exists ⟨w,rfl,rl w mw,λn vn e r H4 s4 g4=>?_,λz H4 s4=>?_⟩
    ·exact ⟨s'.trans s4,by rw[take_snoc ei];exact cN (Paired.imp' (λ_ _ z=>z.same s4) pr) (.cons (.inl ⟨n,vn,e,r,rfl,i8.of g4⟩) .nil)⟩
    ·exact ⟨s'.trans s4,by rw[take_snoc ei];exact cN (Paired.imp' (λ_ _ z=>z.same s4) pr) (.cons (.inr ⟨rfl,z⟩) .nil)⟩
   rintro zs Hd' hy ⟨sd',pz⟩ l5 nd;rw[eY,cA] at pz;have sdn:aD Hd' (upd Hd' l5 (.lst zs)):=aD.new nd;have gd:(upd Hd' l5 (.lst zs)) l5=some (.lst zs):=aA;replace pz:=Paired.imp' (λ_ _ z=>Wd.same z sdn) pz;generalize upd Hd' l5 (.lst zs)=Hd at sdn gd pz ⊢;have sHd:=(sab.trans sc).trans (sd'.trans sdn);have lz:=pz.length;exists ⟨l5,zs,rfl,rfl,bD.of gd,uW pz,λb hb=>?_⟩;cases b with
   | true =>
    walk_at "w";obtain ⟨w',mw,z⟩:=yW pz (hb.mp rfl);refine ke2 j3 (λg hg=>?_) _ (s0'.trans sHd);rw[rg g hg] at mw;obtain ⟨n',vn,e⟩:=Af mw;exact z n' vn e
   | false =>
   obtain ⟨ns,hn,en,pn⟩:=yX pz λz=>nomatch hb.mpr z
   exists ⟨_,_,rfl,.inl (bD.of gd),?_⟩;exists gD (fQ (by lia) (by lia)) ?_;walk_at "w";rw[show ((m:Nat):Int)*((n:Nat):Int)=((m*n:Nat):Int) by rw[AJ]];by_cases e2:rest.length < m*n
   ·rw[decide_eq_true (show ((zs.length:Nat):Int) < ((m*n:Nat):Int) by lia)];exists ke2 j3 (λg hg=>?_) _ (s0'.trans sHd);rw[rg g hg,cy ((pj g).mp hg).1,((pj g).mp hg).2.1] at e2;exact bA _ e2
   rw[decide_eq_false (show ¬((zs.length:Nat):Int) < ((m*n:Nat):Int) by lia)]
   have ln:ns.length=m*n:=by
    have:=congrArg List.length en;rw[ay] at this
    lia
   have gr:yO ws n i o j (nG (ns.map val) m n):=(pj _).mpr (CB hn (by rw[e1',en]) ln);have ggd:=sHd _ _ ggl';have pq:=AZ hn pn;have lq:=pq.length;rw[ay] at lq;have gld:Hd gl≠none:=by rw[ggd];exact λz=>nomatch z
   exists ⟨.inl ⟨rfl,_,bD.of ggd⟩,?_⟩;exists ⟨by lia,by lia,?_⟩;refine pA (n:=m) (jL K Hd) (λkk=>((ns.map val).drop (kk*n)).take n) (by lia) (λa b=>a.same b) ?_ ?_
   ·rintro kk He NY NN hk se k1;have kn:(kk+1)*n<=m*n:=bY _ hk;rw[d6] at kn;exists gD (fQ (by lia) (by lia)) ?_;exists gD (fQ (by lia) (by lia)) ?_;exists nh (bD.of (se _ _ gd)) λl8 Hf sf nf gf=>?_
    rw[show ((n:Nat):Int)*((kk:Nat):Int)=((kk*n:Nat):Int) by rw[AJ,gT],uL] at gf;exact k1 _ _ sf ⟨l8,rfl,se.none nf,_,gf,Paired.imp' (λ_ _ z=>cg.same z (se.trans sf)) (kX (oZ pq _) _)⟩
   rintro us Hg l9 n9 s9 g9 pr9 nx9;have G9:c7 K Hd Hg l9 (nG (ns.map val) m n):=⟨us,g9,pr9,vE nx9⟩;have ggg:=s9 _ _ ggd;have lys:=pr.length;exists oV ggg (b4 (by lia)) ?_;exists gD (fQ (by lia) (by lia)) ?_;walk_at "w";have sHg:=sHd.trans s9;rw[show ((A:Nat):Int)+1+((m:Nat):Int)*((n:Nat):Int)=((xW n i o (j+1):Nat):Int) by rw[show xW n i o (j+1)=A+(1+m*n) by rw[<- hA,<- hm];rfl];push_cast;lia];refine ⟨(s'.trans sHg).after ngl,gs++[nG (ns.map val) m n],_,_,_,_,rfl,aA,cN (Paired.imp' (λ_ _ z=>(BZ.same z sHg).upd ggg) pr) (.cons (BZ.upd ⟨l9,Hd,rfl,s'.trans sHd,gld,n9,G9⟩ ggg) .nil),by rw[ai,lgs];rfl,λt g e=>?_⟩;rcases md t gs.length with q | q
   ·rw[dP q] at e;exact hgs t g e
   ·have q':t=j:=by
     have:=(aK.mp e).1;rw[ai,bQ] at this
     lia
    rw[dC q,show t - gs.length=0 by lia] at e;cases e;rw[q'];exact gr
  ·rintro σ' H' ⟨s',gs,ys,y1,y2,y3,rfl,ggl',pr,lgs,hgs⟩;have s0':=s05.trans s';exists ⟨_,_,rfl,.inl (bD.of (s' _ _ gp5)),?_⟩;walk_at "w";rw[lS,show ([V.ref t1,V.ref t2,V.ref t3]:List V).length=3 from rfl];by_cases e3:ws.length=xW n i o 3
   rotate_left
   ·rw[decide_eq_false (show ¬((xW n i o 3:Nat):Int)=((ws.length:Nat):Int) by lia)];exists ke (no.resolve_left λz=>e3 z.2) _ s0'
   rw[decide_eq_true (show ((xW n i o 3:Nat):Int)=((ws.length:Nat):Int) by lia)]
   match gs,ys,pr,lgs,hgs with
   | [mv,pt,lk],[x0,x1,x2],.cons ⟨q0,Hq0,e0,sq0,_,nq0,G0⟩ (.cons ⟨q1,Hq1,e1,sq1,_,nq1,G1⟩ (.cons ⟨q2,Hq2,e2,sq2,_,nq2,G2⟩ .nil)),_,hgs =>
   subst e0 e1 e2;exists bz λr Hr sr gr=>?_
   walk_at "w";obtain ⟨D,a,b,c,e⟩:=DS (hgs 0 _ rfl) (hgs 1 _ rfl) (hgs 2 _ rfl) n8 i4 o4 e3;exact k mv pt lk D a b c e _ _ (s0'.trans sr) ⟨q0,q1,q2,gr,(s05.trans sq0).none nq0,(s05.trans sq1).none nq1,(s05.trans sq2).none nq2,(G0.weak (s05.trans sq0)).same sr,(G1.weak (s05.trans sq1)).same sr,(G2.weak (s05.trans sq2)).same sr⟩
theorem eH:a8 ["_law_text","_law_words","_law_sizes","_law_k"] ["_law_text"] (aI il):=by walk_at "d"
theorem o7 (T:Txt K mg Z):ck P w K mg base jb 4 Z.ff Z.ky ["_law_text"] (t9 K):=by
 refine T.dy.F.ok eH (λvs H Q E h=>?_) (λcdv A outer s H vs Q E hr h=>?_)
 ·obtain ⟨l,ws,rfl,_⟩:=h;rfl
 ·obtain ⟨l,ws,rfl,hl,w0,w1,ew,k,ke⟩:=h
  refine ⟨_,(ag (aY (i:=1) eH.nd rfl (Or.inl rfl) (iO bG qI qH rA (pv 0) (aa bB ae)))
   (ag (bh (aB kv (a5 aW (by rfl) T.len aH (aa (pv 1) ae)) af (aJ _)) (ak (aL gE)) aN)
   (ag (aY (i:=2) eH.nd rfl (Or.inl rfl) (c9 ae))
   (ag (dQ PassesOwn.never rfl (cx rfl T.range (aa af ae)) (a6 (i:=3) eH.nd)
    (ag (bh (PW.pt (df (cG (bS (cW (ir T) hr T.dJ (aa (a9 bc (pv 1) (pv 3)) ae)))) (df (aB kZ (a5 eN (by rfl) T.len aH (aa (a9 bc (pv 1) (pv 3)) ae)) af (aJ _)) (cT (aB kZ (b5 iI (by rfl) T.int PyProof.Rows.boot_int (aa (a9 bc (pv 1) (pv 3)) ae)) (a9 bc (c9 (aa af (aa af (aa af ae)))) (pv 3)) (aJ _)))))) (ak (aL gE)) aN)
   (ak (jh (iO eR iz iw lU (pv 2) (aa (b5 iI (by rfl) T.int PyProof.Rows.boot_int (aa (a9 bc (pv 1) (pv 3)) ae)) ae))))))
   (ak (aL (cW (sM T) hr T.jI (aa (pv 1) (aa (a9 bc (pv 2) af) (aa (a9 bc (pv 2) af) (aa (a9 bc (pv 2) af) ae))))))))))),?_⟩
  refine aV (σ:=[some (.str (sl l)),none,none,none]) rfl ?_;have wl:∀w∈ws,w.length<=1000:=λw hw=>ar (iV (c:=32) hw) (by rw[<- ew];exact hl)
  have wc:ws.length<=1001:=ar (jQ (c:=32)) (by rw[<- ew];lia);have es:Txt.split (sl l) (sl [32])=ws.map sl:=by rw[ew];exact qR w0 w1
  exists ⟨rfl,?_⟩;exists ⟨_,_,rfl,rfl,by rw[aR];lia,by decide,λp hp=>?_⟩;rw[show Str.ofString " "=sl [32] from kH,es,t6];have s1:aD H (upd H p (.lst (fX ws))):=aD.new hp;have g1:(upd H p (.lst (fX ws))) p=some (.lst (fX ws)):=aA;generalize upd H p (.lst (fX ws))=H1 at s1 g1 ⊢;have lS:(fX ws).length=ws.length:=eY _;exists ⟨_,_,rfl,.inl (bD.of g1),?_⟩;walk_at "w";by_cases l6:ws.length < 6
  ·rw[decide_eq_true (show (((fX ws).length:Nat):Int) < 6 by lia)];exists ke (λmv pt lk h=>by have:=(iJ h).1;lia) _ s1
  rw[decide_eq_false (show ¬(((fX ws).length:Nat):Int) < 6 by lia)];exists cE λzl H2 s2 nz gz=>?_
  have g2:=s2 _ _ g1;have s02:=s1.trans s2;have zp:p≠zl:=λz=>by rw[<- z,g1] at nz;cases nz
  exists ⟨by lia,by lia,?_⟩;refine eF (n:=3) (λj σ' H'=>aD H1 H'/\∃(ns:List Nat) (y:Option V),σ'=[some (.str (sl l)),some (.ref p),some (.ref zl),y]/\H' zl=some (.lst (ns.map λn=>V.int ((n:Nat):Int)))/\ns.length=j/\∀t m,ns[t]?=some m->ws[t]?=some (bJ m)/\m<=[8,4,4].getD t 0) ⟨s2,[],none,rfl,gz,rfl,λt m e=>by cases t <;> cases e⟩ ?_ ?_
  ·rintro j σ' H' hj ⟨s',ns,y,rfl,gz',ln,hm⟩;obtain ⟨a,ea⟩:∃a,ws[j]?=some a:=⟨_,aF (by lia)⟩;have ma:=au ea;have ix:(fX ws)[j]?=some (.str (sl a)):=by unfold fX;rw[bH,ea];rfl
   have no:(∀m,yQ a m->¬m<=[8,4,4].getD j 0)->∀mv pt lk,¬w5 ws mv pt lk:=λz mv pt lk h=>by
    obtain ⟨_,c0,c1,c2,_⟩:=iJ h;have n8:=h.1.n8;have i4:=h.1.i4;have o4:=h.1.o4;rcases (show j=0\/j=1\/j=2 by lia) with rfl | rfl | rfl
    ·rw[c0] at ea;cases ea;exact z _ (ed _) n8
    ·rw[c1] at ea;cases ea;exact z _ (ed _) i4
    ·rw[c2] at ea;cases ea;exact z _ (ed _) o4
   have b8:[8,4,4].getD j 0<=8:=by
    rcases (show j=0\/j=1\/j=2 by lia) with rfl | rfl | rfl <;> decide
   exists cF (bD.of (s' _ _ g1)) (c6 ix) ?_;exists ⟨a,rfl,wl a ma,λb H3 ib s3=>?_⟩;have s13:=s'.trans s3;walk_at "w";cases b with
   | false =>
    exists ke (no λm w=>absurd (ib.mpr ⟨m,w⟩) (by simp)) _ (s1.trans s13)
   | true =>
   obtain ⟨m,wm⟩:=ib.mp rfl;exists cF (bD.of (s13 _ _ g1)) (c6 ix) ?_;walk_at "w"
   rotate_left
   refine ⟨by rw[aR];exact bo (ar (wl a ma) (by decide)),?_⟩;rw[aR];walk_at "w";by_cases l1:1 < a.length
   ·rw[decide_eq_true (show (1:Int) < ((a.length:Nat):Int) by lia)];exists ke (no λm' w' b=>?_) _ (s1.trans s13);have e:=fA w';rw[e,vM (by lia)] at l1;exact bA _ l1
   rw[decide_eq_false (show ¬(1:Int) < ((a.length:Nat):Int) by lia)];exists cF (bD.of (s13 _ _ g1)) (c6 ix) ?_;exists ⟨wm.1,wm.2.1,ar (wl a ma) (by decide),?_⟩;rw[wm.2.2.2];exists cE λq4 H4 s4 n4 g4=>?_
   have s14:=s13.trans s4;walk_at "w"
   refine cF (bD.of g4) (v:=.int (([8,4,4].getD j 0:Nat):Int)) (c6 (by
    rcases (show j=0\/j=1\/j=2 by lia) with rfl | rfl | rfl <;> rfl)) ?_
   walk_at "w";by_cases hb:m<=[8,4,4].getD j 0
   rotate_left
   ·rw[decide_eq_true (show (([8,4,4].getD j 0:Nat):Int) < ((m:Nat):Int) by lia)];exists ke (no λm' w' b=>hb ?_) _ (s1.trans s14);rw[<- wm.2.2.2,w'.2.2.2];exact b
   rw[decide_eq_false (show ¬(([8,4,4].getD j 0:Nat):Int) < ((m:Nat):Int) by lia)];have gz4:=(s3.trans s4) _ _ gz';exists ⟨.inl ⟨rfl,_,bD.of gz4⟩,?_⟩;exists cF (bD.of (s14 _ _ g1)) (c6 ix) ?_;exists ⟨wm.1,wm.2.1,ar (wl a ma) (by decide),?_⟩;rw[wm.2.2.2];exists oV gz4 (b4 (by rw[ay];lia)) ?_;exists ⟨s14.after nz,ns++[m],_,rfl,by rw[aA,bw];rfl,by rw[ai,ln];rfl,λt m' e=>?_⟩;rcases md t ns.length with q | q
   ·rw[dP q] at e;exact hm t m' e
   ·have q':t=j:=by
     have:=(aK.mp e).1;rw[ai,bQ] at this
     lia
    rw[dC q,show t - ns.length=0 by lia] at e;cases e;rw[q',ea,fA wm];exact ⟨rfl,hb⟩
  ·rintro σ' H' ⟨s',ns,y,rfl,gz',ln,hm⟩
   match ns,ln,gz',hm with
   | [n0,n1,n2],_,gz',hm =>
   have gz2:H' zl=some (.lst [.int (n0:Nat),.int (n1:Nat),.int (n2:Nat)]):=gz';clear gz';obtain ⟨c0,b0⟩:=hm 0 _ rfl;obtain ⟨c1,b1⟩:=hm 1 _ rfl;obtain ⟨c2,b2⟩:=hm 2 _ rfl;exists ⟨p,n0,n1,n2,ws,rfl,s' _ _ g1,b0,b1,b2,by lia,by lia,wl,λmv pt lk D x0 x1 x2 e r H3 s3 P=>k mv pt lk (Co D (by rw[x0];exact c0) (by rw[x1];exact c1) (by rw[x2];exact c2) e) r H3 ((s1.trans s').trans s3) (P.weak λq hq=>(s1.trans s').none hq),λz H3 s3=>ke (λmv pt lk h=>?_) H3 ((s1.trans s').trans s3)⟩;obtain ⟨_,d0,d1,d2,e⟩:=iJ h;refine z mv pt lk h.1 (cI ?_) (cI ?_) (cI ?_) e
   ·rw[c0] at d0;exact (aQ d0).symm
   ·rw[c1] at d1;exact (aQ d1).symm
   ·rw[c2] at d2;exact (aQ d2).symm
theorem eV:a8 ["_law_k","_law_text","_law_due","_law_turn","_law_word_here","_law_found"] ["_law_k","_law_text"] (aI j9):=by walk_at "d"
theorem mr (T:Txt K mg Z):ck P w K mg base jb 9 Z.oC Z.ou ["_law_k","_law_text"] (zt K):=by
 refine T.gN.F.ok eV (λvs H Q E h=>?_) (λcdv A outer s H vs Q E hr h=>?_)
 ·obtain ⟨k,l,rfl,_⟩:=h;rfl
 ·obtain ⟨k,l,rfl,k3,hl,q⟩:=h
  refine ⟨_,(ag (aY (i:=2) eV.nd rfl (Or.inl rfl) (vA (L:=[(Z.jr,t8),(Z.js,(uc K)),(Z.ff,(t9 K))]) (by intro p hp;simp only[az,bg,or_false] at hp;rcases hp with rfl | rfl | rfl;exact ⟨⟨_,_,_,(kj T),hr.mono (by decide),T.dF.F.kp ,T.dF.m.b⟩⟩;exact ⟨⟨_,_,_,(uy T),hr.mono (by decide),T.fM.F.kp ,T.fM.m.b⟩⟩;exact ⟨⟨_,_,_,(o7 T),hr.mono (by decide),T.dy.F.kp ,T.dy.m.b⟩⟩) DM (a9 bc (c9 (aa (bX (v:=.ref Z.jr) rfl T.dF.m rfl) (aa (bX (v:=.ref Z.js) rfl T.fM.m rfl) (aa (bX (v:=.ref Z.ff) rfl T.dy.m rfl) ae)))) (pv 0)) (aa (pv 1) ae)))
   (ag (dQ PassesOwn.never rfl (cx rfl T.range (aa af ae)) (a6 (i:=3) eV.nd)
    (ag (fm (cW (uv T) hr T.ko (aa (a9 bc (c9 (aa (bX (v:=.ref Z.dO) rfl T.bP.m rfl) (aa (bX (v:=.ref Z.gI) rfl T.gW.m rfl) (aa (bX (v:=.ref Z.dN) rfl T.eD.m rfl) ae)))) (pv 0)) (aa (pv 1) ae))) (oY rfl (dh (a6 (i:=4) eV.nd) (dh (a6 (i:=5) eV.nd) lT))))
   (ak (bh (aB DN (pv 2) gE (aJ _)) (ak (bh (aB iR (pv 4) bB (aJ _)) (ak (aL fG)) aN)) (ak (bh (aB iR (pv 4) bB (aJ _)) (ak (aL fG)) (ak (bh (PW.pt (eh (aB cH (pv 0) af (aJ _)) (eI (PW.pt (df (cG (bS (cW (jk T) hr T.dZ (aa (pv 5) ae)))) (cT (aB (ni (qr hr)) (pv 5) (pv 2) (aJ _)))))))) (ak (aL fG)) (ak (bh (PW.pt (eh (aB cH (pv 0) af (aJ _)) (eI (PW.pt (df (cG (bS (cW (lg T) hr T.fN (aa (pv 5) (aa (a5 aW (by rfl) T.len aH (aa (pv 2) ae)) ae))))) (cT (aB (ni (qr hr)) (pv 5) (pv 2) (aJ _)))))))) (ak (aL fG)) (ak (bh (PW.pt (eh (aB cH (pv 0) af (aJ _)) (eI (PW.pt (df (cG (bS (DL rfl T.isinstance rfl T.mg_System (pv 5)))) (cT (cG (bS (cW (rj T) hr T.iU (aa (pv 5) (aa (pv 2) ae))))))))))) (ak (aL fG)) aN))))))))))))
   (ak (aL fG)))),?_⟩
  refine aV (σ:=[some (.int k),some (.str (sl l)),none,none,none,none]) rfl ?_;obtain ⟨ws,w0,w1,ew,_⟩:=nM l 32;have wl:∀w∈ws,w.length<=1000:=λw hw=>ar (iV (c:=32) hw) (by rw[<- ew];exact hl)
  exists nU ?_;exists cE λl1 H1 s1 n1 g1=>?_
  exists zO (bD.of g1) (D1 k3 hl w0 w1 ew (λF h=>?_) λv H2 s2 d=>?_)
  ·exists h
  walk_at "w";have s12:=s1.trans s2;refine ⟨by lia,by lia,?_⟩;refine eF (n:=2) (λj σ' H'=>aD H2 H'/\∃(y1 y2 y3:Option V),σ'=[some (.int k),some (.str (sl l)),some v,y1,y2,y3]) ⟨aD.refl _,_,_,_,rfl⟩ ?_ ?_
  rotate_left
  ·rintro σ' H' ⟨s',y1,y2,y3,rfl⟩;exists q _ (s12.trans s')
  rintro j σ' H' hj ⟨s',y1,y2,y3,rfl⟩;replace d:=d.same s';exists cE λl3 H3 s3 n3 g3=>?_
  replace d:=d.same s3;obtain ⟨f,hf⟩:∃f,[Z.dO,Z.gI,Z.dN][k]?=some f:=⟨_,aF k3⟩;exists zO (bD.of g3) ⟨.ref f,?_,?_⟩
  ·have:=congrArg (Option.map V.ref) hf;rw[<- bH] at this;exact this
  exists ⟨k,f,l,ws,rfl,k3,hf,hl,w0,w1,ew,λu r H4 t s4 g4=>?_,λz r H4 s4 g4=>?_⟩
  ·have s24:=(s'.trans s3).trans s4;replace d:=d.same s4;walk_at "w";cases d with
   | non z=>exact absurd t λt=>z.not t
   | num n r1 a b c =>
    cases t with
    | num n2 r2 a2 b2 c2 =>
     exists ⟨rfl,?_⟩;walk_at "w";rw[decide_eq_false (show ¬V.ref r1=V.non from λz=>nomatch z)];walk_at "w";rw[decide_eq_true (show Str.ofString "told"=Str.ofString "told" from rfl)];walk_at "w";rw[decide_eq_true (show ((0:Nat):Int)=0 from rfl)];walk_at "w";have e:=rn a2 a (b2.symm.trans b);subst e;refine ⟨.ref r2,n2,rfl,⟨r2,rfl,i8.of c2⟩,sR a2 (by rw[<- b2];exact hl),λH5 s5=>?_⟩;exists ⟨_,_,BH,n2,n2,by decide,⟨r2,rfl,i8.of (s5 _ _ c2)⟩,⟨r1,rfl,i8.of (s5 _ _ c)⟩,?_⟩;rw[decide_eq_true rfl];walk_at "w";rw[decide_eq_false (show ¬((0:Nat):Int)=1 by decide)];walk_at "w";rw[decide_eq_false (show ¬((0:Nat):Int)=2 by decide)];exists ⟨s24.trans s5,_,_,_,rfl⟩
   | row ns p a b =>
    cases t with
    | row ns2 p2 a2 b2 =>
     exists ⟨rfl,?_⟩;walk_at "w";rw[decide_eq_false (show ¬V.ref p=V.non from λz=>nomatch z)];walk_at "w";rw[decide_eq_true (show Str.ofString "told"=Str.ofString "told" from rfl)];walk_at "w";rw[decide_eq_false (show ¬((1:Nat):Int)=0 by decide)];walk_at "w";rw[decide_eq_true (show ((1:Nat):Int)=1 from rfl)];walk_at "w";have e:=AX a2 a;subst e;obtain ⟨o1,o2⟩:=EH a2 hl;obtain ⟨xs,gx,px⟩:=id b;refine ⟨_,_,rfl,.inl (bD.of gx),?_⟩;rw[<- px.length];exists ⟨p2,ns2,rfl,b2,o1,o2,λH5 s5=>?_⟩;exists ⟨_,_,E3,ns2,ns2,by decide,(b2.same s5).kind,(b.same s5).kind,?_⟩;rw[decide_eq_true rfl];walk_at "w";rw[decide_eq_false (show ¬((1:Nat):Int)=2 by decide)];exists ⟨s24.trans s5,_,_,_,rfl⟩
   | sys mv pt lk x a b =>
    cases t with
    | sys mv2 pt2 lk2 x2 a2 b2 =>
     exists ⟨rfl,?_⟩;walk_at "w";rw[decide_eq_false (show ¬V.ref x=V.non from λz=>nomatch z)];walk_at "w";rw[decide_eq_true (show Str.ofString "told"=Str.ofString "told" from rfl)];walk_at "w";rw[decide_eq_false (show ¬((2:Nat):Int)=0 by decide)];walk_at "w";rw[decide_eq_false (show ¬((2:Nat):Int)=1 by decide)];walk_at "w";rw[decide_eq_true (show ((2:Nat):Int)=2 from rfl)];walk_at "w";obtain ⟨e1,e2,e3⟩:=AS a2 a;subst e1 e2 e3;obtain ⟨dx,am,ap,al,gx,_⟩:=id b2;refine ⟨_,_,T.ty_System.1 gx,T.ty_System.2,?_⟩;exists ⟨x2,x,_,_,mv2,pt2,lk2,rfl,b2,b,a2.1,ED a2 wl,λH5 s5=>?_⟩;exists ⟨s24.trans s5,_,_,_,rfl⟩
  ·have s24:=(s'.trans s3).trans s4;replace d:=d.same s4;cases d with
   | non z' =>
    exists ⟨rfl,?_⟩;walk_at "w";rw[decide_eq_true (show V.non=V.non from rfl)];walk_at "w";rw[decide_eq_true (show Str.ofString "refused"=Str.ofString "refused" from rfl)];exists ⟨s24,_,_,_,rfl⟩
   | num n r1 a b c=>cases z with | num z=>exact absurd b (z n a)
   | row ns p a b=>cases z with | row z=>exact absurd a (z ns)
   | sys mv pt lk x a b=>cases z with | sys z=>exact absurd a (z mv pt lk)
theorem iD:a8 ["_law_bag_here","_law_signs"] ["_law_bag_here"] (aI kR):=by walk_at "d"
theorem nW (T:Txt K mg Z):ck P w K mg base jb 2 Z.p7 Z.pT ["_law_bag_here"] zm:=by
 refine T.iE.F.ok iD (λvs H Q E h=>?_) (λcdv A outer s H vs Q E hr h=>?_)
 ·obtain ⟨b,rfl,_⟩:=h;rfl
 ·obtain ⟨b,rfl,B,k⟩:=h
  refine ⟨_,(ag (aY (i:=1) iD.nd rfl (Or.inl rfl) bB)
   (ag (bh (aB cH (cW (aS T) hr T.aM (aa (pv 0) (aa af ae))) af (aJ _)) (ag (aY (i:=1) iD.nd rfl (Or.inl rfl) bB)
   (ak (aY (i:=1) iD.nd rfl (Or.inl rfl) (aZ dm (aZ dm (pv 1) bB) bB)))) aN)
   (ak (aL (a9 Ac (pv 1) (cW (aS T) hr T.aM (aa (pv 0) (aa (a5 eN (by rfl) T.len aH (aa (pv 1) ae)) ae)))))))),?_⟩
  refine aV (σ:=[some (.ref b),none]) rfl ?_;exists ⟨b,2,rfl,B,by decide,by decide,λw H1 w0 w1 B1 u1=>?_⟩;exists gZ (λh0=>?_) (λh0=>?_)
  ·exists ⟨_,_,rfl,rfl,bo (by decide +kernel),?_⟩;exists ⟨_,_,rfl,rfl,bo (by decide +kernel),?_⟩;exists ⟨bo (by decide +kernel),?_⟩;exists ⟨b,_,rfl,B1,by decide +kernel,by decide +kernel,λv H2 v0 v1 B2 u2=>?_⟩;exists zN v0 v1 (bo (by decide +kernel)) λc=>k c H2 B2 (u1.trans u2)
  ·exists ⟨bo (by decide +kernel),?_⟩;exists ⟨b,_,rfl,B1,by decide +kernel,by decide +kernel,λv H2 v0 v1 B2 u2=>?_⟩;exists zN v0 v1 (bo (by decide +kernel)) λc=>k c H2 B2 (u1.trans u2)
theorem dW:a8 ["_law_bag_here","_law_text","_law_way","_law_at"] ["_law_bag_here","_law_text"] (aI gn):=by walk_at "d"
theorem nX (T:Txt K mg Z):ck P w K mg base jb 3 Z.jW Z.jT ["_law_bag_here","_law_text"] zv:=by
 refine T.fK.F.ok dW (λvs H Q E h=>?_) (λcdv A outer s H vs Q E hr h=>?_)
 ·obtain ⟨b,l,rfl,_⟩:=h;rfl
 ·obtain ⟨b,l,rfl,B,hl,k⟩:=h
  refine ⟨_,(ag (aY (i:=2) dW.nd rfl (Or.inl rfl) (cW (aS T) hr T.aM (aa (pv 0) (aa af ae))))
   (ag (aY (i:=3) dW.nd rfl (Or.inl rfl) (cW (aS T) hr T.aM (aa (pv 0) (aa (aZ bT (a5 eN (by rfl) T.len aH (aa (pv 1) ae)) af) ae))))
   (eJ (bh (aB cH (cW (aS T) hr T.aM (aa (pv 0) (aa af ae))) af (aJ _)) (ak (aY (i:=3) dW.nd rfl (Or.inl rfl) (a9 bc (c9 (aa af (aa (a5 eN (by rfl) T.len aH (aa (pv 1) ae)) ae))) (cW (aS T) hr T.aM (aa (pv 0) (aa af ae)))))) aN)
   (ag (bh (aB cH (pv 2) af (aJ _)) (ak (aL (aZ dm (aZ dm (cu iC (pv 1) fc (b6 (pv 3))) (cW (nW T) hr T.iE (aa (pv 0) ae))) (cu iC (pv 1) (b6 (pv 3)) fc)))) aN)
   (ag (bh (aB cH (pv 2) af (aJ _)) (ak (aL (aZ dm (cu iC (pv 1) fc (b6 (pv 3))) (cu iC (pv 1) (b6 (aZ bT (pv 3) af)) fc)))) aN)
   (ak (aL (aZ dm (aZ dm (cu iC (pv 1) fc (b6 (pv 3))) (cW (nW T) hr T.iE (aa (pv 0) ae))) (cu iC (pv 1) (b6 (aZ bT (pv 3) af)) fc))))))))),?_⟩
  refine aV (σ:=[some (.ref b),some (.str (sl l)),none,none]) rfl ?_;have lb:(sl l).length<=sizeLine:=by rw[aR];exact bo (by lia)
  exists ⟨b,3,rfl,B,by decide,by decide,λw H1 w0 w1 B1 u1=>?_⟩;exists ⟨lb,?_⟩;rw[aR];exists ⟨b,_,rfl,B1,by lia,by lia,λv H2 v0 v1 B2 u2=>?_⟩;obtain ⟨v,rfl⟩:=bL v0;have u12:=u1.trans u2;exists ⟨λσ' H'=>∃a:Nat,σ'=[some (.ref b),some (.str (sl l)),some (.int w),some (.int (a:Nat))]/\a<=l.length/\fU H' b/\bW b H H',?_,?_⟩
  ·exists ⟨b,8,rfl,B2,by decide,by decide,λx H3 x0 x1 B3 u3=>?_⟩;have u13:=u12.trans u3;exists gZ (λh0=>?_) (λh0=>?_)
   ·exists ⟨lb,?_⟩;rw[aR];exists cE λq H4 s4 n4 g4=>?_
    exists ⟨b,2,rfl,B3.same s4,by decide,by decide,λy H5 y0 y1 B5 u5=>?_⟩;have g5:=u5.other (λz=>B3.at (by rw[<- z];exact n4)) g4;obtain ⟨z,ez,mz,_⟩:=lL (xs:=[V.int 0,V.int (l.length:Nat)]) y0 (by simpa using y1)
    obtain ⟨a,rfl,al⟩:∃a:Nat,z=.int (a:Nat)/\a<=l.length:=by
     simp only[az,bg,or_false] at mz;rcases mz with rfl | rfl
     ·exact ⟨0,rfl,bf _⟩
     ·exact ⟨_,rfl,ax _⟩
    exists cF (bD.of g5) ez ?_;exists ⟨al,B5,(u13.trans s4.upto).trans u5⟩
   ·exists ⟨by lia,B3,u13⟩
  clear u12 u2 u1 B1 B2 v1;rintro σ' H3 ⟨a,rfl,al,B3,u3⟩;have cf:lH l (some ((a:Int)+1)) none=l.drop (a+1):=by rw[show (a:Int)+1=((a+1:Nat):Int) by lia];exact lY ..
  have lt:(l.take a).length=a:=by rw[dA];lia
  have ld:(l.drop a).length<=999 - a:=by rw[bu];lia
  have ld1:(l.drop (a+1)).length<=999 - a:=by rw[bu];lia
  exists gZ (λh0=>?_) (λh0=>?_)
  ·exists oU (by lia) (qD l a) ?_;exists ⟨b,rfl,B3,λc H4 B4 u4=>?_⟩;exists ⟨_,_,rfl,rfl,by rw[aR,aR,lt];exact bo (show a+1<=_ by lia),?_⟩;rw[iK];exists oU (by lia) (lY l a) ?_;exists ⟨_,_,rfl,rfl,by rw[aR,aR,ai,lt];exact bo (show a+1+_<=_ by lia),?_⟩;rw[iK];exact k _ H4 (by rw[ai,ai,lt];show a+1+_<=_;lia) B4 (u3.trans u4)
  exists gZ (λh1=>?_) (λh1=>?_)
  ·exists oU (by lia) (qD l a) ?_;exists oU (by lia) cf ?_;exists ⟨_,_,rfl,rfl,by rw[aR,aR,lt];exact bo (by lia),?_⟩;rw[iK];exact k _ H3 (by rw[ai,lt];lia) B3 u3
  ·exists oU (by lia) (qD l a) ?_;exists ⟨b,rfl,B3,λc H4 B4 u4=>?_⟩;exists ⟨_,_,rfl,rfl,by rw[aR,aR,lt];exact bo (show a+1<=_ by lia),?_⟩;rw[iK];exists oU (by lia) cf ?_;exists ⟨_,_,rfl,rfl,by rw[aR,aR,ai,lt];exact bo (show a+1+_<=_ by lia),?_⟩;rw[iK];exact k _ H4 (by rw[ai,ai,lt];show a+1+_<=_;lia) B4 (u3.trans u4)
theorem kI:a8 ["_law_script","_law_bag_here","_law_turn","_law_one","_law_row_here","_law_parts_here","_law_texts","_law_k"] ["_law_script"] (aI zH):=by walk_at "d"
theorem DQ (T:Txt K mg Z):ck P w K mg base jb 10 Z.CK Z.CH ["_law_script"] (qT K):=by
 refine T.CO.ok kI (λvs H Q E h=>?_) (λcdv A outer s H vs Q E hr h=>?_)
 ·obtain ⟨a,ns,rfl,_⟩:=h;rfl
 ·obtain ⟨a,ns,rfl,hS,hlen,k⟩:=h
  refine ⟨_,(ag (aY (i:=1) kI.nd rfl (Or.inr rfl) (cW (vD T) hr T.lh (aa (pv 0) ae)))
   (ag (dQ PassesOwn.never rfl (cx rfl T.range (aa af ae)) (a6 (i:=2) kI.nd)
    (ag (aY (i:=3) kI.nd rfl (Or.inl rfl) (cW (pJ T) hr T.jn (aa (pv 1) ae)))
   (ag (qA 4 ["_law_k"] ["_law_bag_here"] [1] kI.nd rfl rfl (cx rfl T.range (aa (cW (aS T) hr T.aM (aa (pv 1) (aa af ae))) ae)) (λ_=>(a6 (i:=0) (show ND9 ["_law_k","_law_bag_here"] by decide +kernel))) (λ_=>c8) (λ_=>(cW (pJ T) hr T.jn (aa (pv 1) ae))))
   (ag (aY (i:=5) kI.nd rfl (Or.inl rfl) (cW (sJ T) hr T.jG (aa (pv 1) (aa (cW (aS T) hr T.aM (aa (pv 1) (aa af ae))) (aa (cW (aS T) hr T.aM (aa (pv 1) (aa af ae))) (aa (cW (aS T) hr T.aM (aa (pv 1) (aa af ae))) (aa af ae)))))))
   (ag (aY (i:=6) kI.nd rfl (Or.inl rfl) (c9 (aa (cW (dv T) hr T.cm (aa (pv 3) ae)) (aa (cW (o6 T) hr T.gF (aa (pv 4) ae)) (aa (cW (mh T) hr T.eT (aa (pv 5) ae)) ae)))))
   (ak (dQ PassesOwn.never rfl (cx rfl T.range (aa af ae)) (a6 (i:=7) kI.nd)
    (ak (bh (PW.pt (df (cG (bS (cW (mr T) hr T.gN (aa (pv 7) (aa (a9 bc (pv 6) (pv 7)) ae))))) (cT (cG (bS (cW (mr T) hr T.gN (aa (pv 7) (aa (cW (nX T) hr T.fK (aa (pv 1) (aa (a9 bc (pv 6) (pv 7)) ae))) ae)))))))) (ak (aL fG)) aN)))))))))
   (ak (aL fG)))),?_⟩
  refine aV (σ:=[some (.ref a),none,none,none,none,none,none,none]) rfl ?_;exists ⟨a,ns,rfl,hS,hlen,λb H0 hb0 B0 s0=>?_⟩;exists ⟨by lia,by lia,?_⟩;refine eF (n:=3) (λj σ' H'=>fU H' b/\∃y1 y2 y3 y4 y5 y6,σ'=[some (.ref a),some (.ref b),y1,y2,y3,y4,y5,y6]) ⟨B0,_,_,_,_,_,_,rfl⟩ ?_ ?_
  rotate_left
  ·rintro σ' H' ⟨B',y1,y2,y3,y4,y5,y6,rfl⟩;exists k _
  rintro j σ' H' hj ⟨B',y1,y2,y3,y4,y5,y6,rfl⟩;exists ⟨b,rfl,B',λr1 n1 H1 ok1 l1 N1 B1 u1=>?_⟩;exists ⟨b,7,rfl,B1,by decide,by decide,λc H2 c0 c1 B2 u2=>?_⟩;obtain ⟨c,rfl⟩:=bL c0;exists ⟨by lia,by lia,?_⟩;refine tQ (n:=c) (b:=b) (λH n x=>jM K H x n) (λn=>ja n/\(bM n).length<=60) B2 (by lia) (λz u B=>o8 z u B) ?_ ?_
  ·rintro i H' NY NN hi u B k1;exists ⟨b,rfl,B,λr n H3 hn ln N3 B3 u3=>k1 _ n _ u3 B3 ⟨hn,ln⟩ N3⟩
  rintro ys ms H3 m1 nm1 u3 B3 g3 lm hm pm _;have M3:lO K H3 m1 ms:=⟨ys,g3,pm⟩;have mb:m1≠b:=λz=>B2.at (by rw[<- z];exact nm1)
  exists ⟨b,4,rfl,B3,by decide,by decide,λn H4 n0 n1' B4 u4=>?_⟩;obtain ⟨n,rfl⟩:=bL n0;exists ⟨b,3,rfl,B4,by decide,by decide,λi H5 i0 i1 B5 u5=>?_⟩;obtain ⟨i,rfl⟩:=bL i0;exists ⟨b,3,rfl,B5,by decide,by decide,λo H6 o0 o1 B6 u6=>?_⟩;obtain ⟨o,rfl⟩:=bL o0;exists ⟨b,n,i,o,4,3,rfl,B6,by lia,by lia,by lia,by decide,by decide,by decide,by decide,?_,λr mv pt lk H7 PQ ln li lo' D F B7 u7=>?_⟩
  ·have:=gU (show n+i+o<=7 by lia) (show n<=3 by lia)
   lia
  obtain ⟨f1,f2,f3⟩:=EZ F;have u37:=(u4.trans u5).trans (u6.trans u7);have u17:=(u2.trans u3).trans u37;have N7:=o8 N1 u17 B1;have M7:=yr M3 u37 B3 mb;exists ⟨_,n1,rfl,N7,ok1,?_⟩;exists ⟨m1,ms,rfl,M7,by lia,λn hn=>(hm n hn).1,λH8 s8=>?_⟩;exists ⟨r,_,mv,pt,lk,rfl,PQ.same s8,D,Ag f1,Ag f2,Ag f3,λH9 s9=>?_⟩;exists cE λtl HA sA nA gA=>?_
  have BA:=((B7.same s8).same s9).same sA;have tb:tl≠b:=λz=>((B7.same s8).same s9).at (by rw[<- z];exact nA)
  have lm2:(bU 32 (ms.map bM)).length<=999:=by
   have:=vH 32 60 (ms.map bM) (λw hw=>by obtain ⟨n,hn,rfl⟩:=be.mp hw;exact (hm n hn).2);rw[ay] at this
   lia
  have lm3:(bU 32 (j5 mv pt lk)).length<=999:=ar (yk D (by lia) (by lia) (by lia) f1 f2 f3) (by decide);exists ⟨by lia,by lia,?_⟩;refine eF (n:=3) (λ_ σ' H'=>(fU H' b/\bW b HA H')/\∃y,σ'=[some (.ref a),some (.ref b),some (.int (j:Nat)),some (.ref r1),some (.ref m1),some (.ref r),some (.ref tl),y]) ⟨⟨BA,bW.refl _⟩,_,rfl⟩ ?_ ?_
  rotate_left
  ·rintro σ' HB ⟨⟨BB,uB⟩,y,rfl⟩;exists ⟨BB,_,_,_,_,_,_,rfl⟩
  rintro t σ' HB ht ⟨⟨BB,uB⟩,y,rfl⟩;have gB:=uB.other tb gA
  obtain ⟨l,el,ll⟩:∃l,[V.str (sl (bM n1)),V.str (sl (bU 32 (ms.map bM))),V.str (sl (bU 32 (j5 mv pt lk)))][t]?=some (.str (sl l))/\l.length<=999:=by
   rcases (show t=0\/t=1\/t=2 by lia) with rfl | rfl | rfl
   ·exact ⟨_,rfl,by lia⟩
   ·exact ⟨_,rfl,lm2⟩
   ·exact ⟨_,rfl,lm3⟩
  exists cF (bD.of gB) (c6 el) ?_;exists ⟨t,l,rfl,ht,by lia,λHC sC=>?_⟩;exists cF (bD.of (sC _ _ gB)) (c6 el) ?_;exists ⟨b,l,rfl,BB.same sC,ll,λl' HD hl' BD uD=>?_⟩;exists ⟨t,l',rfl,ht,hl',λHE sE=>?_⟩;exists ⟨⟨BD.same sE,((uB.trans sC.upto).trans uD).trans sE.upto⟩,_,rfl⟩
end
theorem ln1 {P:List Value->Prop} (h:∀x0,P [x0]):∀us:List Value,us.length=1->P us
 | [x0],_=>h x0
theorem ln2 {P:List Value->Prop} (h:∀x0 x1,P [x0,x1]):∀us:List Value,us.length=2->P us
 | [x0,x1],_=>h x0 x1
theorem ln3 {P:List Value->Prop} (h:∀x0 x1 x2,P [x0,x1,x2]):∀us:List Value,us.length=3->P us
 | [x0,x1,x2],_=>h x0 x1 x2
theorem ln4 {P:List Value->Prop} (h:∀x0 x1 x2 x3,P [x0,x1,x2,x3]):∀us:List Value,us.length=4->P us
 | [x0,x1,x2,x3],_=>h x0 x1 x2 x3
theorem ln5 {P:List Value->Prop} (h:∀x0 x1 x2 x3 x4,P [x0,x1,x2,x3,x4]):∀us:List Value,us.length=5->P us
 | [x0,x1,x2,x3,x4],_=>h x0 x1 x2 x3 x4
local macro_rules | `(tactic| walk_at "b") => `(tactic| (intro _ _ _ _ _ _; first | (refine ln1 ?_; intros; rfl) | (refine ln2 ?_; intros; rfl) | (refine ln3 ?_; intros; rfl) | (refine ln4 ?_; intros; rfl) | (refine ln5 ?_; intros; rfl)))
theorem all_mk {l:W.OpenLaw} {w:World} {K:W.Frag} {h:Heap} {mg:Str->Option Value} {fa:Addr} {f0 f1 f2 f3 f4 f5 f6 f7 f8 f9 f10 f11 f12 f13 f14 f15 f16 f17 f18 f19 f20 f21 f22 f23 f24 f25 f26 f27 f28 f29 f31 f32 f33 f34 f35 f36 f37 f38 f39 f40 f41 f42 f43 f44 f45:Addr} {e0 e1 e2 e3 e4 e5 e6 e7 e8 e9 e10 e11 e12 e13 e14 e15 e16 e17 e18 e19 e20 e21 e22 e23 e24 e25 e26 e27 e28 e29 e31 e32 e33 e34 e35 e36 e37 e38 e39 e40 e41 e42 e43 e44 e45:FuncData}
  {f30:Addr} {od30 an30:Option Addr} {sl30:Array (Option Value)} {oc30 kV30 dc30 pm30 cd30 ct30:Value}
  (X:K.In h) (G:h.Ns mainGlobals mg) (hfa:mg "law"=some (.ref fa))
  {C:Addr} (aC:W.nsIn K mainGlobals "System"=some (some (.ref C)))
  (h0:Dh K "_law_bag" m7 f0 e0)
  (h1:Dh K "_law_take" kQ f1 e1)
  (h2:Dh K "_law_low" m6 f2 e2)
  (h3:Dh K "_law_number" jB f3 e3)
  (h4:Dh K "_law_any" m9 f4 e4)
  (h5:Dh K "_law_row" mZ f5 e5)
  (h6:Dh K "_law_move" kU f6 e6)
  (h7:Dh K "_law_sum" mY f7 e7)
  (h8:Dh K "_law_plus" kT f8 e8)
  (h9:Dh K "_law_prod" kS f9 e9)
  (h10:Dh K "_law_by" oS f10 e10)
  (h11:Dh K "_law_mixed" kb f11 e11)
  (h12:Dh K "_law_parts" ka f12 e12)
  (h13:Dh K "_law_number_text" fk f13 e13)
  (h14:Dh K "_law_row_text" ik f14 e14)
  (h15:Dh K "_law_system_text" fj f15 e15)
  (h16:Dh K "read_whole" j8 f16 e16)
  (h17:Dh K "read_top" mV f17 e17)
  (h18:Dh K "common_divisor" gi f18 e18)
  (h19:Dh K "read_number" jz f19 e19)
  (h20:Dh K "words_in" mU f20 e20)
  (h21:Dh K "read_row" mW f21 e21)
  (h22:Dh K "read_size" kL f22 e22)
  (h23:Dh K "cut" zI f23 e23)
  (h24:Dh K "read_rows" kM f24 e24)
  (h25:Dh K "want_list" kK f25 e25)
  (h26:Dh K "is_whole" mX f26 e26)
  (h27:Dh K "is_number" kN f27 e27)
  (h28:Dh K "is_row" qY f28 e28)
  (h29:Dh K "copied_rows" jA f29 e29)
  (a30:W.findIn K (.ref C) "__init__"=some (some (.ref f30))) (i30:W.isFn K (.ref f30)=true) (l30:K.lookup f30=some ⟨oc30,od30,.func (W.fnOf "__init__" "System.__init__" (jo cK) (gO cK) (aI cK) .none kV30 dc30 pm30 an30 cd30 ct30),sl30⟩) (c30:W.codeIn K cd30 "System.__init__"=true) (k30:W.keepIn K (.ref f30)=true)
  (h31:Dh K "read_system" jy f31 e31)
  (h32:Dh K "_law_told" kP f32 e32)
  (h33:Dh K "_law_is_number" gv f33 e33)
  (h34:Dh K "_law_is_row" jC f34 e34)
  (h35:Dh K "_law_is_grid" iM f35 e35)
  (h36:Dh K "_law_fields" jD f36 e36)
  (h37:Dh K "_law_figures" iN f37 e37)
  (h38:Dh K "_law_word" kO f38 e38)
  (h39:Dh K "_law_line" kW f39 e39)
  (h40:Dh K "_law_grids" kd f40 e40)
  (h41:Dh K "_law_parts_of" il f41 e41)
  (h42:Dh K "_law_right" j9 f42 e42)
  (h43:Dh K "_law_sign" kR f43 e43)
  (h44:Dh K "_law_otherwise" gn f44 e44)
  (h45:Dh K "law" zH f45 e45)
  {vX:Tok} (cs0:W.nsIn K mainGlobals "FIGURES"=some (some (.str (Str.ofString "0123456789") vX)))
  {it0:Tok} (ci0:W.nsIn K mainGlobals "MOST_STATES"=some (some (.int 8 it0)))
  {it1:Tok} (ci1:W.nsIn K mainGlobals "MOST_PUTS"=some (some (.int 4 it1)))
  {it2:Tok} (ci2:W.nsIn K mainGlobals "MOST_LOOKS"=some (some (.int 4 it2)))
  (pg:W.plainGet K C Str.empty=true) (hd:W.hasDictIn K C=true) (po:W.plainOver K C=true) (sa:W.findIn K (.ref C) "__setattr__"=some (some (.builtin "object.__setattr__"))) (mk:W.makesIn K C=true) (kc:W.keepIn K (.ref C)=true)
  (n_move:W.findIn K (.ref C) "move"=some none)
  (n_states:W.findIn K (.ref C) "states"=some none)
  (n_put:W.findIn K (.ref C) "put"=some none)
  (n_ins:W.findIn K (.ref C) "ins"=some none)
  (n_look:W.findIn K (.ref C) "look"=some none)
  (n_outs:W.findIn K (.ref C) "outs"=some none)
  (ia:W.findIn K (.ref C) "__class__"=some (some (.builtin "object.__class__"))) (ib:W.specialIn K (.builtin "object.__class__") "__get__"=some (some (.builtin "getset_descriptor.__get__"))) (ic:W.takesIn K (.builtin "object.__class__")=some true) (id:W.mroIn K C (.type "object")=some true)
  {x_SumError:Addr} (xa_SumError:W.nsIn K mainGlobals "SumError"=some (some (.ref x_SumError)))
  {x_Wrong:Addr} (xa_Wrong:W.nsIn K mainGlobals "Wrong"=some (some (.ref x_Wrong)))
  {x_NoThing:Addr} (xa_NoThing:W.nsIn K mainGlobals "NoThing"=some (some (.ref x_NoThing)))
  {x_TooMany:Addr} (xa_TooMany:W.nsIn K mainGlobals "TooMany"=some (some (.ref x_TooMany)))
  {x_NoNumber:Addr} (xa_NoNumber:W.nsIn K mainGlobals "NoNumber"=some (some (.ref x_NoNumber)))
  {x_NoFit:Addr} (xa_NoFit:W.nsIn K mainGlobals "NoFit"=some (some (.ref x_NoFit)))
  {x_NotSteered:Addr} (xa_NotSteered:W.nsIn K mainGlobals "NotSteered"=some (some (.ref x_NotSteered)))
  {x_NotSeen:Addr} (xa_NotSeen:W.nsIn K mainGlobals "NotSeen"=some (some (.ref x_NotSeen)))
  {x_NoText:Addr} (xa_NoText:W.nsIn K mainGlobals "NoText"=some (some (.ref x_NoText)))
  {x_NoName:Addr} (xa_NoName:W.nsIn K mainGlobals "NoName"=some (some (.ref x_NoName)))
  {x_Taken:Addr} (xa_Taken:W.nsIn K mainGlobals "Taken"=some (some (.ref x_Taken)))
  (xe_NoText:W.excIn K x_NoText yZ "ValueError.__new__"=true)
  (xm_NoText_SumError:W.exmOne K (.ref x_NoText) (.ref x_SumError)=some true)
  (ki_NoText_NoText:W.kitOne K (.ref x_NoText) (.ref x_NoText)=some true)
  (ki_NoText_ValueError:W.kitOne K (.ref x_NoText) (.type "ValueError")=some true)
  (ka_NoText_0:W.kitAny K (.ref x_NoText) [.ref x_NoFit,.ref x_NoName,.ref x_NoNumber,.ref x_NoThing,.ref x_NotSeen,.ref x_NotSteered,.ref x_Taken,.ref x_TooMany,.ref x_Wrong]=some false)
  (ga_NoText:W.findIn K (.ref x_NoText) "__getattribute__"=some (some (.builtin "BaseException.__getattribute__")))
  (gt_NoText:W.findIn K (.ref x_NoText) "__getattr__"=some none)
  (mb_NoText:W.mroIn K x_NoText (.type "BaseException")=some true)
  (mo_NoText:W.mroIn K x_NoText (.type "object")=some true)
  (hd_NoText:W.hasDictIn K x_NoText=true)
  (ca_NoText:W.findIn K (.ref x_NoText) "__class__"=some (some (.builtin "object.__class__")))
  (sg_:W.specialIn K (.builtin "object.__class__") "__get__"=some (some (.builtin "getset_descriptor.__get__")))
  (tk_:W.takesIn K (.builtin "object.__class__")=some true)
  (z_abs:W.nsIn K mainGlobals "abs"=some none)
  (z_len:W.nsIn K mainGlobals "len"=some none)
  (z_int:W.nsIn K mainGlobals "int"=some none)
  (z_str:W.nsIn K mainGlobals "str"=some none)
  (z_range:W.nsIn K mainGlobals "range"=some none)
  (z_all:W.nsIn K mainGlobals "all"=some none)
  (z_isinstance:W.nsIn K mainGlobals "isinstance"=some none)
  (z_list:W.nsIn K mainGlobals "list"=some none)
  (z_bool:W.nsIn K mainGlobals "bool"=some none)
  (z_tuple:W.nsIn K mainGlobals "tuple"=some none)
  (z_enumerate:W.nsIn K mainGlobals "enumerate"=some none)
  (z_ValueError:W.nsIn K mainGlobals "ValueError"=some none)
  (z_any:W.nsIn K mainGlobals "any"=some none)
  : ∃fd:FuncData,(∀(s:Shared) (v:Value),BindsTo s fd ⟨[v],[]⟩ [("_law_script",v)])/\∀base:Heap,K.In base->base.Ns mainGlobals mg->ck l.prog w K mg base jb 10 fa fd ["_law_script"] (qT K):=by
 have e:=hfa.symm.trans (W.mg_of X G h45.a);cases e;obtain ⟨_,_,_,_,_,_,_,_,_,rfl,_,_⟩:=h45.F.ex;have F30:=Ak (st:=cK) l30 c30 k30
 have T:Txt K mg ⟨f0,_,f1,_,f2,_,f3,_,f4,_,f5,_,f6,_,f7,_,f8,_,f9,_,f10,_,f11,_,f12,_,f13,_,f14,_,f15,_,f16,_,f17,_,f18,_,f19,_,f20,_,f21,_,f22,_,f23,_,f24,_,f25,_,f26,_,f27,_,f28,_,f29,_,f30,_,f31,_,f32,_,f33,_,f34,_,f35,_,f36,_,f37,_,f38,_,f39,_,f40,_,f41,_,f42,_,f43,_,f44,_,fa,_,it0,it1,it2,vX,C,x_SumError,x_Wrong,x_NoThing,x_TooMany,x_NoNumber,x_NoFit,x_NotSteered,x_NotSeen,x_NoText,x_NoName,x_Taken⟩:={
  lh:=h0.D X G
  aM:=h1.D X G
  di:=h2.D X G
  fL:=h3.D X G
  jn:=h4.D X G
  gY:=h5.D X G
  kr:=h6.D X G
  gX:=h7.D X G
  kq:=h8.D X G
  fJ:=h9.D X G
  nu:=h10.D X G
  jH:=h11.D X G
  jG:=h12.D X G
  cm:=h13.D X G
  gF:=h14.D X G
  eT:=h15.D X G
  bF:=h16.D X G
  gV:=h17.D X G
  dY:=h18.D X G
  bP:=h19.D X G
  jl:=h20.D X G
  gW:=h21.D X G
  b9:=h22.D X G
  wF:=h23.D X G
  cb:=h24.D X G
  fI:=h25.D X G
  jm:=h26.D X G
  km:=h27.D X G
  pd:=h28.D X G
  eE:=h29.D X G
  jq:=F30.binds (ps:=["self","move","put","look"]) λ_ _ _ _ _ _=>by refine ln4 ?_;intros;rfl
  ju:=F30
  eD:=h31.D X G
  ko:=h32.D X G
  dZ:=h33.D X G
  fN:=h34.D X G
  dI:=h35.D X G
  iU:=h36.D X G
  dJ:=h37.D X G
  dF:=h38.D X G
  fM:=h39.D X G
  jI:=h40.D X G
  dy:=h41.D X G
  gN:=h42.D X G
  iE:=h43.D X G
  fK:=h44.D X G
  CO:=h45.F
  abs:=W.mg_none_of X G z_abs
  len:=W.mg_none_of X G z_len
  int:=W.mg_none_of X G z_int
  str:=W.mg_none_of X G z_str
  range:=W.mg_none_of X G z_range
  all:=W.mg_none_of X G z_all
  isinstance:=W.mg_none_of X G z_isinstance
  list:=W.mg_none_of X G z_list
  bool:=W.mg_none_of X G z_bool
  tuple:=W.mg_none_of X G z_tuple
  enumerate:=W.mg_none_of X G z_enumerate
  ValueError:=W.mg_none_of X G z_ValueError
  any:=W.mg_none_of X G z_any
  mg_MOST_STATES:=W.mg_of X G ci0
  mg_MOST_PUTS:=W.mg_of X G ci1
  mg_MOST_LOOKS:=W.mg_of X G ci2
  mg_FIGURES:=W.mg_of X G cs0
  mg_System:=W.mg_of X G aC
  cl_System:=⟨pg,hd,po,sa⟩
  na_move:=n_move
  na_states:=n_states
  na_put:=n_put
  na_ins:=n_ins
  na_look:=n_look
  na_outs:=n_outs
  mk_System:=⟨mk,a30,i30,kc⟩
  mg_SumError:=W.mg_of X G xa_SumError
  mg_Wrong:=W.mg_of X G xa_Wrong
  mg_NoThing:=W.mg_of X G xa_NoThing
  mg_TooMany:=W.mg_of X G xa_TooMany
  mg_NoNumber:=W.mg_of X G xa_NoNumber
  mg_NoFit:=W.mg_of X G xa_NoFit
  mg_NotSteered:=W.mg_of X G xa_NotSteered
  mg_NotSeen:=W.mg_of X G xa_NotSeen
  mg_NoText:=W.mg_of X G xa_NoText
  mg_NoName:=W.mg_of X G xa_NoName
  mg_Taken:=W.mg_of X G xa_Taken
  ex_NoText:=xe_NoText
  xm_NoText_SumError:=xm_NoText_SumError
  ki_NoText_NoText:=ki_NoText_NoText
  ki_NoText_ValueError:=ki_NoText_ValueError
  ka_NoText_0:=ka_NoText_0
  xc_NoText:=⟨ga_NoText,gt_NoText,mb_NoText,mo_NoText,hd_NoText,ca_NoText,sg_,tk_⟩
  ty_System:=⟨λe=>.ins e ⟨pg,hd,po,sa⟩ ia ib ic id,Ab⟩ }
 exact ⟨_,λs v=>.of_eq rfl,λbase _ _=>DQ T⟩
theorem walk {l:W.OpenLaw} {q:Program} {loose:List Str} {XP:(Str->Option Value)->Heap->Prop} {YP:World->Heap->Prop} {d:DefRec} {K:Params->W.Frag} (hn:l.most=some 63) (hdf:d.params.defaults=[])
  (hY:∀(w:World) (h:Heap),YP w h->(K w.params).In h)
  (F:∀(w:World) (mg:Str->Option Value) (fa:Addr) (h:Heap),(K w.params).In h->h.Ns mainGlobals mg->mg d.name=some (.ref fa) →
   ∃fd:FuncData,(∀(s:Shared) (u:Value),BindsTo s fd ⟨[u],[]⟩ [("_law_script",u)])/\∀base:Heap,(K w.params).In base->base.Ns mainGlobals mg->ck l.prog w (K w.params) mg base jb 10 fa fd ["_law_script"] (qT (K w.params))) :
  W.WalkO q loose XP YP l.row.toRowW d [] (λf vs=>PySem.call f vs) :=
 L2.AO (n:=63) (k:=10) (x:="_law_script") (CX:=λ_=>jb) (sp:=λw=>qT (K w.params)) hn (by decide) hdf ⟨rfl,by decide,by decide⟩ hY F (λ_ _ a ns hl _ hS=>⟨a,ns,rfl,hS,hl,λ_=>rfl⟩) λ_ _ _ _ _ z=>z
end Lw
namespace PySem.W.Fast
def tw10573438686555898465:=()
def tw7759424670220026286:=()
def tw3906212735551597114:=()
def tw11312312617158989798:=()
def tw13402916421026435356:=()
def tw3956601933754587058:=()
def tw17528976069947070427:=()
def tw1398973580733734650:=()
def tw4259046006679735410:=()
def tw11513870538994473908:=()
def tw8478652843713620270:=()
def tw383234260417572505:=()
def tw12889547283412641366:=()
def tw13361167709411275960:=()
def tw6467195911415244474:=()
def tw11365091831420390909:=()
def tw3750175386472406331:=()
def tw746742167563748569:=()
def tw12693519230544240810:=()
def tw12414942274408801438:=()
def tw7879032119394568368:=()
def tw6232683900074158698:=()
def tw10368386210989951193:=()
def tw13161860651377305400:=()
def tw16766653539558294467:=()
def tw9253822298977248208:=()
def tw9915563619582180547:=()
def tw12256823575505000053:=()
def tw3559431182233804890:=()
def tw12492640947925288474:=()
def tw9070778834041915163:=()
def tw7700893824803538244:=()
def tw12847737086397856547:=()
def tw8407295730160318215:=()
def tw10818247235894445352:=()
def tw5122051611088848826:=()
def tw13674609270481205844:=()
def tw13398644975130067613:=()
def tw9704885936366433308:=()
def tw10595678298669242595:=()
def tw17860033368278159457:=()
def tw11823126613369127611:=()
def tw14520080229973481600:=()
def tw5705547516638520617:=()
def tw17384426728931464724:=()
def tw9108842985157302522:=()
def tw9265079851719305474:=()
def tw156236588798901629:=()
def tw428608034113404106:=()
def tw14296464658472302267:=()
def tw5924038765503643860:=()
def tw15712564352758880755:=()
def tw16342365209093030590:=()
def tw15419016384251119225:=()
def tw18101729104954678699:=()
def tw7522455383311254353:=()
def tw18147955381078431577:=()
def tw5072521614418607988:=()
def tw14903848379415194060:=()
def tw1144968709290091105:=()
def tw9590918050669783688:=()
def tw7915778292415789299:=()
def tw17579834964640559177:=()
def tw17339076976795018556:=()
def tw17249830860991132726:=()
def tw3263817931813231562:=()
def tw8027127240593134550:=()
def tw3207460588198184001:=()
def tw13830423799149916801:=()
def tw15366806375952861591:=()
def tw2384187233876627128:=()
def tw5928755705569474817:=()
def tw12393337112754456003:=()
def tw5450170864670666330:=()
def tw6011033007606469683:=()
def tw1670308099880037410:=()
def tw8507086018066950594:=()
def tw8380537949984977985:=()
def tw15499928491099184812:=()
def tw8796055529475337799:=()
def tw3848914213176957121:=()
def tw9420752229852580154:=()
def tw8435502553854588167:=()
def tw16684104277927769983:=()
def tw11095231306989171870:=()
def tw18009950376668771881:=()
def tw18174991220616415978:=()
def tw2521415187059007094:=()
def tw9363227994159124959:=()
def tw6151388107303968378:=()
def tw261126342053142541:=()
def tw2024604351297065079:=()
def tw7253294362713623529:=()
def tw10075667132071881027:=()
def tw11782667971939516243:=()
def tw7939017671759729294:=()
def tw8301953101857878373:=()
def tw16538203410782012721:=()
def tw15644886828405561292:=()
def tw51467476447377942:=()
def tw293271717140849133:=()
def tw3281829998088042468:=()
def tw866257361977054613:=()
def tw10663439856010908041:=()
def tw13804363121688691148:=()
def tw17850302965021683482:=()
def tw13835557396773944816:=()
def tw13820143432142278973:=()
def tw5809009997966040248:=()
def tw14203997102414797877:=()
def tw8654986727560282828:=()
def tw9553979289724358513:=()
def tw16503809669935387706:=()
def tw4210729394872723850:=()
def tw7171840740559935628:=()
def tw4814706232919180727:=()
def tw10492406371210784862:=()
def tw2308820178513031500:=()
def tw9263843834149122758:=()
def tw1743383836609863135:=()
def tw13523851092323758747:=()
def tw8971656930568427957:=()
def tw2220796803239049492:=()
def tw3491298121489569183:=()
def tw17134393994726238034:=()
def tw17409007832926124240:=()
def tw16519463856974985986:=()
def tw331523055704384547:=()
def tw11305153494952233745:=()
def tw8983540687000059873:=()
def tw2124473900725508803:=()
def tw4910153383195197037:=()
def tw13261190981427585070:=()
def tw169347879720698767:=()
def tw4723614604714070673:=()
def tw2895852955948014618:=()
def tw14550965425622786797:=()
def tw5551479319014161431:=()
def tw5127168435688314782:=()
def tw3696491749645550624:=()
def tw15448430526419185532:=()
def tw16240236969067668946:=()
def tw17013792880913822927:=()
def tw4860164632919108695:=()
def tw5208447788746631567:=()
def tw5202478557453918393:=()
def tw9787858557791303681:=()
def tw4543283184175963685:=()
def tw18370956441586673704:=()
def tw12101915040769033207:=()
def tw8196583161959809744:=()
def tw15159306392411632193:=()
def tw16011182181919807826:=()
def tw4198785835758628296:=()
def tw5571328325395715607:=()
def tw16540412183301818302:=()
def tw12668383432329824814:=()
def tw12536584902365358971:=()
def tw6858362950904774132:=()
def tw8694187321687473197:=()
def tw6548428597363177141:=()
def tw6658211480065693015:=()
def tw9481540402924684420:=()
def tw6858391018272418274:=()
def tw9390642051361848504:=()
def tw11054191056360350910:=()
def tw843348360390816331:=()
def tw1693387726390977790:=()
def tw17829710345681441042:=()
def tw10351132670565379672:=()
def tw3387919436378980344:=()
def tw18351280696496653296:=()
def tw5310228613323486119:=()
def tw7780585801696406549:=()
def tw5467543756592643166:=()
def tw5270076364621133014:=()
def tw6974924010285339127:=()
def tw11992693950504386355:=()
def tw4454979190787041311:=()
def tw18427463904968025141:=()
def tw7505009048909440207:=()
def tw14560511618304760616:=()
def tw5080862681034571475:=()
def tw6748372736372176620:=()
def tw6716976253366015541:=()
def tw3511159183696414077:=()
def tw17863618324531360317:=()
def tw9312365042976868174:=()
def tw2361048942700081708:=()
def tw283640454254709695:=()
def tw2654884426486429901:=()
def tw2035478583404243627:=()
def tw7790370738211826350:=()
def tw6141143726388463202:=()
def tw9712550591621257395:=()
def tw6385815955545291439:=()
def tw9451477396106770073:=()
def tw1800912758546382701:=()
def tw5978994137299005194:=()
def tw12779001635701571111:=()
def tw2237434058159557608:=()
def tw8149034755676491691:=()
def tw17754387455054968861:=()
def tw9515443286259557432:=()
def tw7325752509777856735:=()
def tw10530630051420759102:=()
def tw580774376544714175:=()
def tw391882941480900846:=()
def tw9800180223655914585:=()
def tw3958675788083307895:=()
def tw2818634800749938046:=()
def tw3845331468646404915:=()
def tw18257857262016043077:=()
def tw6085414780075422306:=()
def tw2990167018788908172:=()
def tw2701064095650235420:=()
def tw13235042532777262371:=()
def tw5041594253439657291:=()
def tw3788090295201904724:=()
def tw6847411614673804453:=()
def tw17805327036417991466:=()
def tw12364870135501489088:=()
def tw9566501357422327344:=()
def tw11234829298630369475:=()
def tw938838043982650607:=()
def tw16999396305564787460:=()
def tw453537605293180524:=()
def tw15871411024158672692:=()
def tw15847858686720790015:=()
def tw8970427016162575198:=()
def tw489418374360496781:=()
def tw4129545329494050121:=()
def tw12990976104705994433:=()
def tw4338555695175216204:=()
def tw4067131833006837074:=()
def tw8608206950625559652:=()
def tw5803870954740132801:=()
def tw9227006760858623058:=()
def tw15395110493948632242:=()
def tw15127476261915081769:=()
def tw4515815610323047828:=()
def tw9034065916006562595:=()
def tw5121818249460028536:=()
def tw4595517994581060970:=()
def tw4257204611573663261:=()
def tw16874868633726659331:=()
def tw13311558455589464537:=()
def tw7514354694306488402:=()
def tw9297606284589454553:=()
def tw1995159435990643547:=()
def tw2287273096768434201:=()
def tw15688533049829490821:=()
def tw7137787610570788461:=()
def tw3087070265860223322:=()
def tw11947840024692295332:=()
def tw640089105886983866:=()
def tw6252000369114956545:=()
def tw2906698236474098132:=()
def tw7769285250650946322:=()
def tw14621799578715812091:=()
def tw5586603805044405553:=()
def tw15136848219836714581:=()
def tw10034957439836403259:=()
def tw15634371426769837103:=()
def tw13685489431360730857:=()
def tw3068216029060015234:=()
def tw9388581754208325071:=()
def tw16521451976584023781:=()
def tw5005865073305566686:=()
def tw12211697260038267536:=()
def tw9394406080523399852:=()
def tw9830463610387050014:=()
def tw326694909432975250:=()
def tw14849525462250559855:=()
def tw13901820788779015714:=()
def tw14377997074071650194:=()
def tw4294555181531823026:=()
def tw17326415957447686105:=()
def tw669016524780418795:=()
def tw1129068145713854086:=()
def tw9778566444850714858:=()
def tw18309095232948623902:=()
def tw7885114726232514973:=()
def tw14817368916072601763:=()
def tw12204866645561796476:=()
def tw16563618134229658020:=()
def tw6352614156855994361:=()
def tw15971055113738283117:=()
def tw18203752799723910732:=()
def tw14604660184123136835:=()
def tw12288921557968873837:=()
def tw13564603132778175282:=()
def tw894877190264815694:=()
def tw3429061767637523879:=()
def tw791879112660220637:=()
def tw14499346930853585938:=()
def tw9992802556791379237:=()
def tw8983709332123593478:=()
def tw7573358217582433342:=()
def tw15307601029552217002:=()
def tw14070113175909409128:=()
def tw16895534881330989861:=()
def tw17402767374090663001:=()
def tw3587922465058617812:=()
def tw832489818683946885:=()
def tw10473144807767333156:=()
def tw5259644732535759644:=()
def tw8355713958452145788:=()
def tw13087955516979777236:=()
def tw6565587143429502488:=()
def tw5242721517215971959:=()
def tw6876133201849125452:=()
def tw293347754060120676:=()
def tw11708344164777992216:=()
def tw3240421350194518075:=()
def tw4521802721637285447:=()
def tw12382814292082422799:=()
def tw1520258136788822226:=()
def tw7925967569566688353:=()
def tw16517694454353651751:=()
def tw4516732902919860302:=()
def tw14477617697617655755:=()
def tw7219731572569087055:=()
def tw7379241253896111608:=()
def tw6947593877358873256:=()
def tw5510824549261199416:=()
def tw14259421565469357644:=()
def tw14370562130965514702:=()
def tw10349952409754622993:=()
def tw13194951944479267084:=()
def tw13857653589965695573:=()
def tw3198968345726351501:=()
def tw7534820127487507988:=()
def tw1245096251418094226:=()
def tw18351900048946257380:=()
def tw7777526488007433431:=()
def tw13777439206254424383:=()
def tw17695974128361666865:=()
def tw1776890209339189267:=()
def tw18012683149305964602:=()
def tw9621816866703796002:=()
def tw15261066309856648564:=()
def tw18281120016299721126:=()
def tw12786010338914279364:=()
def tw18040174535437158295:=()
def tw18079861771546943637:=()
def tw9995608622396748524:=()
def tw14063119802825024981:=()
def tw4620969692297905395:=()
def tw7822324048466373035:=()
def tw6594842570165792772:=()
def tw16199192466742600709:=()
def tw15903879803692594396:=()
def tw2003578698149670172:=()
def tw14611735996517360556:=()
def tw11227601747249850205:=()
def tw8508904600232685793:=()
def tw7856139022265014309:=()
def tw170877052920539007:=()
def tw12564173864052114853:=()
def tw7204957482360948667:=()
def tw669597206034304453:=()
def tw17800647480930846573:=()
def tw11505552256683540029:=()
def tw15121698509133306552:=()
def tw14473310601723994331:=()
def tw5638795303291349676:=()
def tw6999728500757282993:=()
def tw11393534798043373069:=()
def tw13926587308530476880:=()
def tw16078769018569693108:=()
def tw3342154646584900149:=()
def tw5846538027174522961:=()
def tw4354403720401958786:=()
def tw9482078680114609143:=()
def tw4260793879563469875:=()
def tw2060975310586700215:=()
def tw3495248614119196548:=()
def tw11077766967906735609:=()
def tw2262128361930460657:=()
def tw14651554035948379513:=()
def tw2780398962025929920:=()
def tw7476099473906886983:=()
def tw6118544468907230016:=()
def tw2931259705499874849:=()
def tw7499374177715346509:=()
def tw6101199022753494526:=()
def tw5389337178780127856:=()
def tw2956575039479623311:=()
def tw18230267121310872689:=()
def tw6082547229233622008:=()
def tw3248123858884959961:=()
def tw15603747508443809174:=()
def tw3298638606328166759:=()
def tw4142980385058408637:=()
def tw17207359921339741620:=()
def tw14975541439427714367:=()
def tw11558121476642565191:=()
def tw2302007428169593979:=()
def tw12565113235723851395:=()
def tw8704917312084117010:=()
def tw7973117156659755316:=()
def tw17458918372588652804:=()
def tw1745636812144619387:=()
def tw3612408588954545703:=()
def tw6363837882031759906:=()
def tw12838251107112308224:=()
def tw15596408936184213081:=()
def tw9946560577573783917:=()
def tw9103515190096868615:=()
def tw9152263969633594449:=()
def tw8787306356507940753:=()
def tw14882229040086379726:=()
def tw1434265603228085543:=()
def tw13927033156371989051:=()
def tw11336487862923170628:=()
def tw12848564983461781429:=()
def tw7687941530000137777:=()
def tw15815097546274505910:=()
def tw5494941626131426876:=()
def tw17266402044654749500:=()
def tw4474272201370649179:=()
def tw9385129484094369981:=()
def tw3074582991932156511:=()
def tw1463673071303134384:=()
def tw6122316154158385448:=()
def tw12196102296896161571:=()
def tw763758664691266273:=()
def tw15310101874196653898:=()
def tw6903261187039691935:=()
def tw4728968345674832580:=()
def tw13434084455750691461:=()
def tw853260601099745420:=()
def tw4028460499802615991:=()
def tw4933326994108341825:=()
def tw4386343453309532244:=()
def tw1480818806859546141:=()
def tw1725095219860813880:=()
def tw15688508924548247536:=()
def tw16041185103633084320:=()
def tw11742680726484179321:=()
def tw14556605950359194016:=()
def tw9186987853346630680:=()
def tw17059864286274987268:=()
def tw453785453539477922:=()
def tw15958310914123558122:=()
def tw2188330430336731519:=()
def tw17535667723830933822:=()
def tw5559472243146496613:=()
def tw10001001074787624885:=()
def tw12633714257899612833:=()
def tw5855278643425264439:=()
def tw14477421250376976056:=()
def tw2582242812368409907:=()
def tw18198409376394237906:=()
def tw48892585745703725:=()
def tw8385018041300720929:=()
def tw12455257669881068236:=()
def tw17285697400679670249:=()
def tw12052296007694137272:=()
theorem te10573438686555898465:True:=trivial
end PySem.W.Fast
open PySem PySem.W PyProof.Rows
set_option maxRecDepth 100000 in
set_option maxHeartbeats 0 in
theorem PySem.Challenge.cw_helmsum_k02_whole_texts_otherwise_holds : PySem.Challenge.rw_helmsum_k02_whole_texts_otherwise.Holds := by
 w_on;o_law;k_head;(case hw=>w_witness2)
 k_fill
 refine Lw.walk (l:=PySem.Challenge.rw_helmsum_k02_whole_texts_otherwise) rfl rfl (λw h Y=>PySem.W.kIn_of Y) ?F
 case F =>
  intro w mg fa h KX G hmg;refine' Lw.all_mk KX G hmg ?aC ?_ ?_ ?_ ?_ ?_ ?_ ?_ ?_ ?_ ?_ ?_ ?_ ?_ ?_ ?_ ?_ ?_ ?_ ?_ ?_ ?_ ?_ ?_ ?_ ?_ ?_ ?_ ?_ ?_ ?_ ?a30 ?i30 ?l30 ?c30 ?k30 ?_ ?_ ?_ ?_ ?_ ?_ ?_ ?_ ?_ ?_ ?_ ?_ ?_ ?_ ?_ ?cs0 ?ci0 ?ci1 ?ci2 ?pg ?hd ?po ?sa ?mk ?kc ?n_move ?n_states ?n_put ?n_ins ?n_look ?n_outs ?ia ?ib ?ic ?id ?xa_SumError ?xa_Wrong ?xa_NoThing ?xa_TooMany ?xa_NoNumber ?xa_NoFit ?xa_NotSteered ?xa_NotSeen ?xa_NoText ?xa_NoName ?xa_Taken ?xe_NoText ?xm_NoText_SumError ?ki_NoText_NoText ?ki_NoText_ValueError ?ka_NoText_0 ?ga_NoText ?gt_NoText ?mb_NoText ?mo_NoText ?hd_NoText ?ca_NoText ?sg_ ?tk_ ?z_abs ?z_len ?z_int ?z_str ?z_range ?z_all ?z_isinstance ?z_list ?z_bool ?z_tuple ?z_enumerate ?z_ValueError ?z_any
  all_goals try refine' Fi ?_ ?_ ?_ ?_
  all_goals try k_is
  (case xe_NoText=>k_exc)
  (case xm_NoText_SumError=>kts_exm)
  (case ki_NoText_NoText=>kit_is)
  (case ki_NoText_ValueError=>kit_is)
  (case ka_NoText_0=>kit_is)
  (case ga_NoText=>k_is)
  (case gt_NoText=>k_is)
  (case mb_NoText=>k_is)
  (case mo_NoText=>k_is)
  (case hd_NoText=>k_is)
  (case ca_NoText=>k_is)
  (case sg_=>k_is)
  (case tk_=>k_is)