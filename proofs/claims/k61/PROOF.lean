import PyProof.Rows.All
import Wide.All
import OpenK.AllK
import PySem.Challenge.RW_manyleast_k61_papers_at_a_desk
set_option Elab.async false
set_option genSizeOf false
set_option linter.all false
set_option maxRecDepth 100000
set_option maxHeartbeats 4000000
def fnt:false ≠ true:=Bool.noConfusion
def nf {p:Prop} (z:false=true):p:=absurd z fnt
def nr {α:Type} {a:α} {p:Prop} (z:¬ a=a):p:=absurd rfl z
def na {p q:Prop} [Decidable p] (h:p) (z:¬ decide p=true):q:=absurd (decide_eq_true h) z
def ny {p q:Prop} [Decidable p] (h:¬ p) (z:decide p=true):q:=absurd (of_decide_eq_true z) h
set_option hygiene false in
open Lean in
local macro_rules|`(init_quot)=>do
 let g n:=let x:=mkIdent (.mkSimple s!"tw{hash n}");`(def $x:ident:=Nat)
 let f a (i:Nat):=g (`MyQ.hd++.mkSimple s!"{a}_{i}")
 return mkNullNode ((←(Array.range 1195).mapM (f "o"))++(←#[47,70,92,107,122,137,187,271,351,430,505,587,662,697,825,909,997,1016,1046,1102,1182,1194].mapM (f "tree"))++(←#[49,71,93,108,123,138,188,272,352,431,506,588,663,698,913,998,1019,1047,1103,1183].mapM (f "sts"))++(←#[39,46,1195].mapM (f "heap"))++[←f "view" 39,←g `PySem.Challenge.pw_manyleast_k61_papers_at_a_desk])
namespace PySem.W.Fast
init_quot
end PySem.W.Fast
namespace MyQ
open PySem PySem.W PyProof.Rows
set_option maxRecDepth 100000 in
set_option maxHeartbeats 0 in
open_top hd for PySem.Challenge.rw_manyleast_k61_papers_at_a_desk
end MyQ
local macro_rules|`(tactic|walk_at "a")=>`(tactic|(first | exact .inl rfl | exact .inr rfl | assumption))
local macro_rules|`(tactic|walk_at "b")=>`(tactic|(first | exact Or.inl rfl | exact Or.inr (Or.inl rfl) | exact Or.inr (Or.inr rfl)))
local macro_rules|`(tactic|walk_at "c")=>`(tactic|(first | exact Or.inl rfl | exact Or.inr rfl))
set_option autoImplicit true
inductive aO {α0 α1:Sort _} (p:α0->α1->Prop):Prop
 | mk (a b) (_:p a b)
inductive bR {α0 α1 α2:Sort _} (p:α0->α1->α2->Prop):Prop
 | mk (a b c) (_:p a b c)
inductive ik {α0 α1 α2 α3:Sort _} (p:α0->α1->α2->α3->Prop):Prop
 | mk (a b c d) (_:p a b c d)
inductive lT {α0 α1 α2 α3 α4:Sort _} (p:α0->α1->α2->α3->α4->Prop):Prop
 | mk (a b c d e) (_:p a b c d e)
inductive Kw {α0 α1 α2 α3 α4 α5:Sort _} (p:α0->α1->α2->α3->α4->α5->Prop):Prop
 | mk (a b c d e f) (_:p a b c d e f)
inductive V3 {α0 α1 α2 α3 α4 α5 α6:Sort _} (p:α0->α1->α2->α3->α4->α5->α6->Prop):Prop
 | mk (a b c d e f g) (_:p a b c d e f g)
inductive V2 {α0 α1 α2 α3 α4 α5 α6 α7:Sort _} (p:α0->α1->α2->α3->α4->α5->α6->α7->Prop):Prop
 | mk (a b c d e f g h) (_:p a b c d e f g h)
inductive Cn {α0 α1 α2 α3 α4 α5 α6 α7 α8:Sort _} (p:α0->α1->α2->α3->α4->α5->α6->α7->α8->Prop):Prop
 | mk (a b c d e f g h i) (_:p a b c d e f g h i)
inductive aP (a0 a1 a2:Prop):Prop
 | mk (_:a0) (_:a1) (_:a2)
inductive cP (a0 a1 a2 a3:Prop):Prop
 | mk (_:a0) (_:a1) (_:a2) (_:a3)
inductive dw (a0 a1 a2 a3 a4:Prop):Prop
 | mk (_:a0) (_:a1) (_:a2) (_:a3) (_:a4)
inductive gB (a0 a1 a2 a3 a4 a5:Prop):Prop
 | mk (_:a0) (_:a1) (_:a2) (_:a3) (_:a4) (_:a5)
inductive nY (a0 a1 a2 a3 a4 a5 a6:Prop):Prop
 | mk (_:a0) (_:a1) (_:a2) (_:a3) (_:a4) (_:a5) (_:a6)
inductive xR (a0 a1 a2 a3 a4 a5 a6 a7:Prop):Prop
 | mk (_:a0) (_:a1) (_:a2) (_:a3) (_:a4) (_:a5) (_:a6) (_:a7)
inductive Ky (a0 a1 a2 a3 a4 a5 a6 a7 a8 a9 a10 a11:Prop):Prop
 | mk (_:a0) (_:a1) (_:a2) (_:a3) (_:a4) (_:a5) (_:a6) (_:a7) (_:a8) (_:a9) (_:a10) (_:a11)
abbrev Fg:=PySem.W.Frag
abbrev VS:=PySem.Value->PySem.Shared->Prop
abbrev LL:=List (List Int)
abbrev Mg:=PySem.Str->Option PySem.Value
section
open PySem PySem.Spec PyProof.Rows PySem.W List
def ZA:type_of% @wpAny_bind:=@wpAny_bind
def ZE:type_of% @Heap.get?_push_of_some:=@Heap.get?_push_of_some
def ZF:type_of% @Nat.le_refl:=@Nat.le_refl
def ZG:type_of% @decide_eq_true:=@decide_eq_true
def ZI:type_of% @of_decide_eq_true:=@of_decide_eq_true
def ZJ:type_of% @if_neg:=@if_neg
def ZK:type_of% @length_map:=@length_map
def ZL:type_of% @if_pos:=@if_pos
theorem ZM:type_of% @length_append:=@length_append
def ZN:type_of% @kasC_bind:=@kasC_bind
def ZO:type_of% @wpAny_pure:=@wpAny_pure
theorem ZP:type_of% @getElem?_eq_getElem:=@getElem?_eq_getElem
def ZQ:type_of% @mem_cons_self:=@mem_cons_self
def ZR:type_of% @kasC_pure:=@kasC_pure
def ZS:type_of% @decide_eq_false:=@decide_eq_false
def ZT:type_of% @Nat.le_trans:=@Nat.le_trans
def ZU:type_of% @mem_cons_of_mem:=@mem_cons_of_mem
def ZV:type_of% @mem_of_getElem?:=@mem_of_getElem?
def ZW:type_of% @Heap.lt_size:=@Heap.lt_size
def ZX:type_of% @Nat.zero_le:=@Nat.zero_le
def ZY:type_of% @Heap.get?_push_size:=@Heap.get?_push_size
def WB:type_of% @length_cons:=@length_cons
def WC:type_of% @size_toArray:=@size_toArray
def WE:type_of% @getElem?_map:=@getElem?_map
theorem WF:type_of% @map_append:=@map_append
def WG:type_of% @Nat.lt_of_lt_of_le:=@Nat.lt_of_lt_of_le
def WI:type_of% @mem_append_right:=@mem_append_right
def WK:type_of% @take_add_one:=@take_add_one
def WL:type_of% @length_take:=@length_take
def WM:type_of% @getElem?_append_right:=@getElem?_append_right
def WN:type_of% @Nat.ne_of_lt:=@Nat.ne_of_lt
theorem WO:type_of% @getElem?_append_left:=@getElem?_append_left
def WP:type_of% @take_of_length_le:=@take_of_length_le
def WQ:type_of% @Array.toList_append:=@Array.toList_append
def WR:type_of% @take_length:=@take_length
theorem WS:type_of% @getD_eq_getElem?_getD:=@getD_eq_getElem?_getD
def WT:type_of% @Int.le_refl:=@Int.le_refl
def WV:type_of% @decide_eq_true_eq:=@decide_eq_true_eq
def WW:type_of% @PySem.F.plainAttrs_str:=@PySem.F.plainAttrs_str
def WX:type_of% @wpAny_mono:=@wpAny_mono
def WY:type_of% @Array.length_toList:=@Array.length_toList
def WZ:type_of% @Bool.and_eq_true:=@Bool.and_eq_true
def YA:type_of% @map_cons:=@map_cons
def YB:type_of% @Nat.le_of_ble_eq_true:=@Nat.le_of_ble_eq_true
def YC:type_of% @Array.getElem?_toList:=@Array.getElem?_toList
def YD:type_of% @wpAny_field:=@wpAny_field
def YE:type_of% @wpAny_callSpecial?_slot:=@wpAny_callSpecial?_slot
def YF:type_of% @PySem.F.plainAttrs_list:=@PySem.F.plainAttrs_list
def YG:type_of% @mem_of_mem_take:=@mem_of_mem_take
def YH:type_of% @Nat.min_eq_left:=@Nat.min_eq_left
def YJ:type_of% @wpAny_call_entry:=@wpAny_call_entry
def YK:type_of% @wpAny_setField_rec:=@wpAny_setField_rec
def YL:type_of% @Nat.zero_add:=@Nat.zero_add
def YM:type_of% @PySem.F.slot_list_append:=@PySem.F.slot_list_append
def YN:type_of% @PySem.F.type_list_append:=@PySem.F.type_list_append
def YO:type_of% @PySem.F.slot_str_join:=@PySem.F.slot_str_join
def YQ:type_of% @PySem.F.type_str_join:=@PySem.F.type_str_join
def YR:type_of% @wpAny_truthy_bool:=@wpAny_truthy_bool
def YS:type_of% @append_assoc:=@append_assoc
def YT:type_of% @drop_eq_getElem_cons:=@drop_eq_getElem_cons
def YU:type_of% @wpAny_holding:=@wpAny_holding
def YV:type_of% @PySem.W.kia_one:=@PySem.W.kia_one
def YW:type_of% @filter_append:=@filter_append
def YX:type_of% @countP_append:=@countP_append
def YY:type_of% @take_append_drop:=@take_append_drop
def YZ:type_of% @wpAny_newObj_type:=@wpAny_newObj_type
end
local macro_rules(kind:=Lean.Parser.Term.structInst)|`({})=>`(by lia)
local macro_rules|`(∅)=>`(by decide)
local macro_rules(kind:=Lean.Parser.Term.anonymousCtor)|`(⟨⟩)=>`(by decide +kernel)
local macro_rules|`(tactic|exists $[$es],*)=>`(tactic|refine ⟨$[$es],*, ?_⟩)
def eC{a:α}{l m:List α}(h:a∈l++m):a∈l\/a∈m:=List.mem_append.mp h
def eD{a b:α}(h:a∈[b]):a=b:=List.mem_singleton.mp h
def eE{f:α->β}{b:β}{l:List α}(h:b∈l.map f):∃ a,a∈l/\f a=b:=List.mem_map.mp h
def ac{l:List α}{i:Nat}{a:α}(h:l[i]? = some a):∃ h,l[i]=a:=List.getElem?_eq_some_iff.mp h
def ad{a b:α}{l:List α}(h:a∈b::l):a=b\/a∈l:=List.mem_cons.mp h
def am{a b:α}(h:some a=some b):a=b:=Option.some.inj h
theorem bd:type_of% @Bool.false_and:=@Bool.false_and
theorem be:type_of% @Bool.and_false:=@Bool.and_false
open PySem PyProof.Rows PySem.W in
def bn:type_of% @PassesOwn.never:=@PassesOwn.never
def ce:type_of% @Nat.le_add_left:=@Nat.le_add_left
theorem l_2{l:List α}(h:l.length=2):∃ a b,l=[a,b]:=by obtain _ | ⟨a,_ | ⟨b,_ | _⟩⟩:=l <;> cases h;exact⟨a,b,rfl⟩
theorem l_3{l:List α}(h:l.length=3):∃ a b c,l=[a,b,c]:=by obtain _ | ⟨a,l⟩:=l;cases h;obtain⟨b,c,rfl⟩:=l_2 (Nat.succ.inj h);exact⟨a,b,c,rfl⟩
theorem l_1{a c:Int}(h:c≤a→False):a<c:=Int.lt_of_not_ge h
local macro_rules|`(tactic|lia)=>`(tactic|first|(simp[*];done)|exact l_1 λ_=>by cutsat|cutsat)
theorem J{α:Sort u}{a:α}:a=a:=rfl
namespace L2
open PySem PySem.Spec PyProof.Rows List
abbrev Key:=Sum Int Str
def f6:Key->Value->Bool
 | .inl k,v=>Value.isInt k v
 | .inr x,v=>Value.isStrOf x v
def TV(w:World):Key->Int
 | .inl k=>hashInt k
 | .inr x=>hashStr w x
theorem Cz:∀{k:Key}{v:Value},f6 k v=true->(aO λi t=>k=Sum.inl i/\v=Value.int i t)\/(aO λx t=>k=Sum.inr x/\v=Value.str x t)
 | .inl i,v,h=>by
  obtain⟨t,e⟩:=Value.isInt_shape (k:=i) (v:=v) h;exact .inl ⟨i,t,J,e⟩
 | .inr x,v,h=>by
  obtain⟨t,e⟩:=Value.isStrOf_shape (x:=x) (v:=v) h;exact .inr ⟨x,t,J,e⟩
def NG(i:Int)(t:Tok):f6 (.inl i) (.int i t)=true:=by simp[f6,Value.isInt]
def zW(x:Str)(t:Tok):f6 (.inr x) (.str x t)=true:=by simp[f6,Value.isStrOf]
def BU(a b:Int):decide ((Sum.inl a:Key)=Sum.inl b)=(a==b):=by
 by_cases e:a=b
 ·subst e;simp
 ·have h:¬(Sum.inl a:Key)=Sum.inl b:=λq=>e (Sum.inl.inj q);rw[ZS h];exact(beq_eq_false_iff_ne.mpr e).symm
def BQ(a b:Str):decide ((Sum.inr a:Key)=Sum.inr b)=decide (a=b):=by
 by_cases e:a=b
 ·subst e;simp
 ·have h:¬(Sum.inr a:Key)=Sum.inr b:=λq=>e (Sum.inr.inj q);rw[ZS h,ZS e]
def BS(a:Int)(b:Str):decide ((Sum.inl a:Key)=Sum.inr b)=false:=ZS (λq=>nomatch q)
def BR(a:Str)(b:Int):decide ((Sum.inr a:Key)=Sum.inl b)=false:=ZS (λq=>nomatch q)
noncomputable def KQ(prog:Program)(w:World):PySem.KeyKind prog w Key where
 is:=f6
 hash:=TV w
 inj:=λv a b O M=>by
  rcases Cz O with ⟨i,t,rfl,rfl⟩ | ⟨x,t,rfl,rfl⟩
  ·rcases Cz M with ⟨j,u,rfl,e⟩ | ⟨y,u,rfl,e⟩
   ·injection e with B _;rw[B]
   ·exact nomatch e
  ·rcases Cz M with ⟨j,u,rfl,e⟩ | ⟨y,u,rfl,e⟩
   ·exact nomatch e
   ·injection e with B _;rw[B]
 byValue:=λk v h=>by
  rcases Cz h with ⟨i,t,rfl,rfl⟩ | ⟨x,t,rfl,rfl⟩ <;> rfl
 pyHash:=λI h=>by
  rcases Cz I with ⟨i,t,rfl,rfl⟩ | ⟨x,t,rfl,rfl⟩
  ·exact wpAny_pyHash_int h
  ·exact wpAny_pyHash_str h
 eqBool:=λN I h=>by
  rcases Cz N with ⟨i,t,rfl,rfl⟩ | ⟨x,t,rfl,rfl⟩
  ·rcases Cz I with ⟨j,u,rfl,rfl⟩ | ⟨y,u,rfl,rfl⟩
   ·rw[BU]at h;exact wpAny_eqBool_int h
   ·rw[BS]at h;exact SeqAt.EqAt.int_str i t y u _ _ _ _ h
  ·rcases Cz I with ⟨j,u,rfl,rfl⟩ | ⟨y,u,rfl,rfl⟩
   ·rw[BR]at h;exact SeqAt.EqAt.str_int x t j u _ _ _ _ h
   ·rw[BQ]at h;exact wpAny_eqBool_str h
 «strs»:=λk x t v h=>by
  rcases Cz h with ⟨i,u,rfl,e⟩ | ⟨y,u,rfl,e⟩
  ·exact nomatch e
  ·injection e with B _;subst B;cases v <;> rfl
def Aj(prog:Program)(w:World)(i:Int)(t:Tok):(KQ prog w).is (.inl i) (.int i t)=true:=NG i t
def PF(prog:Program)(w:World)(x:Str)(t:Tok):(KQ prog w).is (.inr x) (.str x t)=true:=zW x t
inductive V where
 | bf | bl (b:Bool) | int (i:Int) | str (x:Str) | om (b:Array UInt8) | Cd (b:UInt64) | ref (a:Addr) | ty (n:String)
 deriving DecidableEq
def RelV:V->Value->Prop
 | .bf,u=>u=Value.none
 | .bl b,u=>u=Value.bool b
 | .int i,u=>∃ t,u=Value.int i t
 | .str x,u=>∃ t,u=Value.str x t
 | .om b,u=>∃ t,u=Value.bytes b t
 | .Cd b,u=>∃ t,u=Value.float b t
 | .ref a,u=>u=Value.ref a
 | .ty n,u=>u=Value.type n
abbrev Vals:List V->List Value->Prop:=Paired RelV
def Vals.length{xs:List V}{us:List Value}(r:Vals xs us):xs.length=us.length:=Paired.length r
theorem Vals.get{xs:List V}{us:List Value}{i:Nat}{x:V}(h:Vals xs us)(e:xs[i]? = some x):∃ u,us[i]? = some u/\RelV x u:=by
 induction h generalizing i with
 | nil=>cases e
 | cons r t k=>
  obtain _ | i:=i
  ·cases e;exact⟨_,J,r⟩
  ·exact k (i:=i) e
theorem Vals.set{x:V}{u:Value}(r:RelV x u):∀{xs:List V}{us:List Value}(i:Nat),Vals xs us->Vals (xs.set i x) (us.set i u)
 | _,_,_,.nil=>.nil
 | _,_,0,.cons _ t=>.cons r t
 | _,_,i+1,.cons q t=>.cons q (Vals.set r i t)
theorem Vals.append{xs ys:List V}{us ws:List Value}(h:Vals xs us)(s:Vals ys ws):Vals (xs++ys) (us++ws):=by
 induction h with
 | nil=>exact s
 | cons r t i=>exact .cons r i
theorem Vals.take{xs:List V}{us:List Value}(n:Nat)(h:Vals xs us):Vals (xs.take n) (us.take n):=by
 induction h generalizing n with
 | nil=>cases n <;> exact .nil
 | cons r t i=>cases n;exact .nil;exact .cons r (i _)
theorem Vals.drop:∀{xs:List V}{us:List Value}(n:Nat),Vals xs us->Vals (xs.drop n) (us.drop n)
 | _,_,0,r=>r
 | _,_,_+1,.nil=>.nil
 | _,_,n+1,.cons _ t=>Vals.drop n t
def c8:Option V->Option Value->Prop
 | some v,some u=>RelV v u
 | none,none=>True
 | _,_=>False
def KV{κ:Type}:List (κ×V)->List (κ×Value)->Prop:=Paired λ(p:κ×V) (q:κ×Value)=>p.1=q.1/\RelV p.2 q.2
def kV:Key->V
 | .inl i=>.int i
 | .inr x=>.str x
inductive HO where
 | lst (xs:List V)
 | tup (xs:List V)
 | dK (kvs:List (Key×V)) | dT (kvs:List (List Key×V))
 | set (S:Int->Bool) (n:Nat)
 | ins (C dx:Addr) (fs:List (Str×V))
 | own (x:Addr)
 | xd (fs:List (Str×V))
 | met (f x:Addr)
 | Cy (lo hi:Int)
 | cx (o:Obj) (u:HO)
 | fG (ps:Array Value)
 | ext (φ:Heap->Prop)
set_option genInjectivity false
abbrev Hp:=Addr->Option HO
def upd(H:Hp)(a:Addr)(o:HO):Hp:=λb=>if b=a then some o else H b
def ax:upd H a o a=some o:=by unfold upd;rw[ZL J]
def bC(h:b≠a):upd H a o b=H b:=by unfold upd;rw[ZJ h]
def kX:upd (upd H a o) a u=upd H a u:=by funext b;unfold upd;split <;> rfl
def bc{H:Hp}{a b:Addr}{o u:HO}(h:H a=some o)(h':H b=some u)(d:o≠u):a≠b:=by intro e;subst e;rw[h]at h';exact d (am h')
def cO{H:Hp}{a b:Addr}{o:HO}(h:H a=some o)(h':H b=none):a≠b:=by intro e;subst e;rw[h]at h';cases h'
section
variable (P:Program)(w:World)
noncomputable def bg(H:Hp)(h:Heap)(a:Addr):HO->Prop
 | .lst xs=>xs.length<=sizeLine/\aO λ(B:List Value) (n:Nat)=>Vals xs B/\h.get? a=some { cls:=.type "list", data:=.seq B.toArray n }
 | .tup xs=>xs.length<=sizeLine /\ ∃ B:List Value,Vals xs B/\IsTup h a B.toArray
 | .dK kvs=>kvs.length<=sizeLine/\(a==sysModules)=false /\ ∃ vs,KV kvs vs/\h.DictOf (KQ P w) a vs
 | .dT kvs=>kvs.length<=sizeLine/\(a==sysModules)=false /\ ∃ xs:List (List Key×Addr×Value),
   Paired (λ(p:List Key×V) (q:List Key×Addr×Value)=>p.1=q.1/\H q.2.1=some (.tup (p.1.map kV))/\RelV p.2 q.2.2) kvs xs /\
   bR λo es ep=>h.get? a=some o/\o.ExactDict/\o.data = .dict es ep/\es.toList=xs.map (entryOfKey (tupleKind (KQ P w)))/\(xs.map (·.1)).Nodup
 | .set S n=>h.SetOf (intKind P w) a S n
 | .ins C dx fs=>H dx=some (.own a)/\fs.length<=1000/\dx≠a/\h.get? a=some (PySem.W.instObj C dx) /\
   ∃ mA,h.Ns1 dx mA/\(∀ f,c8 (fs.lookup f) (mA f))/\PySem.Within mA (fs.map (·.1))
 | .own _=>∃ o,h.get? a=some o
 | .xd fs=>∃ mA,h.Ns1 a mA /\ ∀ f,c8 (fs.lookup f) (mA f)
 | .Cy lo hi=>bR λt u v=>h.get? a=some { cls:=.type "range", data:=.fields #[.int lo t,.int hi u,.int 1 v] }
 | .cx o u=>h.get? a=some o/\bg H h a u
 | .fG ps=>h.get? a=some { cls:=.none,data:=.fields ps }
 | .met f x=>h.get? a=some (PySem.W.methodObj (.ref f) (.ref x))
 | .ext φ=>φ h/\(∃ o,h.get? a=some o) /\ ∀ h1 h2:Heap,φ h1->(∀ o,h1.get? a=some o->h2.get? a=some o)->φ h2
noncomputable def c9(H:Hp)(h:Heap):Prop:=∀ a o,H a=some o->bg P w H h a o
end
section
variable {P:Program}{w:World}{H H':Hp}{h h':Heap}{a:Addr}{o:HO}
def bg.lt(x:bg P w H h a o):a<h.objs.size:=by
 cases o with
 | lst xs=>obtain⟨_,_,_,_,e⟩:=x;exact ZW e
 | tup xs=>obtain⟨_,_,_,p⟩:=x;exact p.lt
 | dK kvs=>obtain⟨_,_,_,_,o,_,_,e,_⟩:=x;exact ZW e
 | dT kvs=>obtain⟨_,_,_,_,o,_,_,e,_⟩:=x;exact ZW e
 | set S n=>obtain⟨o,_,_,_,e,_⟩:=x;exact ZW e
 | ins C dx fs=>obtain⟨_,_,_,e,_⟩:=x;exact ZW e
 | own y=>obtain⟨_,e⟩:=x;exact ZW e
 | xd fs=>obtain⟨_,⟨_,_,_,e,_⟩,_⟩:=x;exact ZW e
 | Cy lo hi=>obtain⟨_,_,_,e⟩:=x;exact ZW e
 | cx B u=>obtain⟨e,_⟩:=x;exact ZW e
 | fG ps=>exact ZW (show h.get? a=some _ from x)
 | met f y=>exact ZW (show h.get? a=some _ from x)
 | ext φ=>obtain⟨_,⟨_,e⟩,_⟩:=x;exact ZW e
theorem Paired.fZ{α β:Type}{F G:α->β->Prop}{l₁:List α}{l₂:List β}(h:Paired F l₁ l₂)(f:∀ a b,F a b->G a b):Paired G l₁ l₂:=by
 induction h with
 | nil=>exact .nil
 | cons r t i=>exact .cons (f _ _ r) i
theorem bg.dY(x:bg P w H h a o)(k:∀ b u,(b=a\/H b=some (.own a))->h.get? b=some u->h'.get? b=some u)
  (U:∀ b,H b=some (.own a)->H' b=some (.own a)) (O:∀ b xs,H b=some (.tup xs)->H' b=some (.tup xs)):bg P w H' h' a o:=by
 induction o with
 | lst xs=>obtain⟨z,I,n,r,e⟩:=x;exact⟨z,I,n,r,k _ _ (.inl J) e⟩
 | tup xs=>obtain⟨z,I,r,B,e,c⟩:=x;exact⟨z,I,r,B,k _ _ (.inl J) e,c⟩
 | dK kvs=>obtain⟨z,y,vs,r,B,es,ep,e,c⟩:=x;exact⟨z,y,vs,r,B,es,ep,k _ _ (.inl J) e,c⟩
 | dT kvs=>obtain⟨z,y,xs,r,B,es,ep,e,c⟩:=x;exact⟨z,y,xs,Paired.fZ r λp q z=>⟨z.1,O _ _ z.2.1,z.2.2⟩,B,es,ep,k _ _ (.inl J) e,c⟩
 | set S n=>obtain⟨B,es,ep,t,e,c⟩:=x;exact⟨B,es,ep,t,k _ _ (.inl J) e,c⟩
 | ins C dx fs=>obtain⟨d,z,ne,e,mA,⟨M,es,ep,Y,c⟩,r⟩:=x;exact⟨U _ d,z,ne,k _ _ (.inl J) e,mA,⟨M,es,ep,k _ _ (.inr d) Y,c⟩,r⟩
 | own y=>obtain⟨B,e⟩:=x;exact⟨B,k _ _ (.inl J) e⟩
 | xd fs=>obtain⟨mA,⟨M,es,ep,e,c⟩,r⟩:=x;exact⟨mA,⟨M,es,ep,k _ _ (.inl J) e,c⟩,r⟩
 | Cy lo hi=>obtain⟨t,u,v,e⟩:=x;exact⟨t,u,v,k _ _ (.inl J) e⟩
 | cx B u N=>obtain⟨e,q⟩:=x;exact⟨k _ _ (.inl J) e,N q⟩
 | fG ps=>have e:h.get? a=some { cls:=.none,data:=.fields ps }:=x;show h'.get? a=some { cls:=.none,data:=.fields ps };exact k a _ (.inl J) e
 | met f y=>have e:h.get? a=some (PySem.W.methodObj (.ref f) (.ref y)):=x;show h'.get? a=some (PySem.W.methodObj (.ref f) (.ref y));exact k a _ (.inl J) e
 | ext φ=>obtain⟨p,⟨o,e⟩,st⟩:=x;exact⟨st _ _ p λo q=>k _ _ (.inl J) q,⟨o,k _ _ (.inl J) e⟩,st⟩
def c9.lt(x:c9 P w H h)(e:H a=some o):a<h.objs.size:=(x a o e).lt
def c9.fresh(x:c9 P w H h)(e:h.objs.size<=a):H a=none:=by
 cases q:H a with
 | none=>rfl
 | some u=>exact absurd (WG (x.lt q) e) (Nat.lt_irrefl _)
def c9.kept(x:c9 P w H h)(k:∀ b u,h.get? b=some u->h'.get? b=some u):c9 P w H h':=λa o e=>
 (x a o e).dY (λb u _ q=>k b u q) (λ_ q=>q) λ_ _ q=>q
def c9.laid(x:c9 P w H h)(k:∀ b u,h.get? b=some u->h'.get? b=some u)(hp:h.objs.size<=a)(new:bg P w (upd H a o) h' a o):c9 P w (upd H a o) h':=λb u e=>by
 have B:=x.fresh hp;by_cases I:b=a
 ·subst I;rw[ax]at e;cases e;exact new
 ·rw[bC I]at e;exact(x b u e).dY (λc v _ q=>k c v q) (λc q=>by rw[bC (cO q B)];exact q) λc xs q=>by rw[bC (cO q B)];exact q
end
def Rd(H:Hp)(a:Addr)(u:HO):Prop:=H a=some u \/ ∃ o,H a=some (.cx o u)
def Rd.ok(r:Rd H a u)(x:c9 P w H h):bg P w H h a u:=by
 rcases r with r | ⟨o,r⟩
 ·exact x a u r
 ·obtain⟨_,q⟩:=x a _ r;exact q
def Ku:Option HO->Prop
 | some (.lst _)=>True
 | some (.dK _)=>True
 | some (.dT _)=>True
 | some (.set _ _)=>True
 | some (.ins _ _ _)=>True
 | some (.ext _)=>True
 | _=>False
section
variable {P:Program}{w:World}{H:Hp}{h h':Heap}{x e:Addr}{o':HO}
def c9.write(ok:c9 P w H h)(N:Ku (H x))(W:e=x\/H e=some (.own x))(k:∀ b u,b≠e->h.get? b=some u->h'.get? b=some u)(U:∃ u,h'.get? e=some u)
  (new:bg P w (upd H x o') h' x o'):c9 P w (upd H x o') h':=λb u q=>by
 have I:∀ c y,H c=some (.own y)->c≠x:=λc y r z=>by subst z;rw[r]at N;exact N
 have M:∀ c xs,H c=some (.tup xs)->c≠x:=λc xs r z=>by subst z;rw[r]at N;exact N
 by_cases S:b=x
 ·subst S;rw[ax]at q;cases q;exact new
 ·rw[bC S]at q;by_cases B:b=e
  ·have q':H b=some (.own x):=by
    rcases W with z | z
    ·exact absurd (B.trans z) S
    ·rw[B];exact z
   rw[q]at q';cases q';obtain⟨v,Y⟩:=U;exact⟨v,by rw[B];exact Y⟩
  ·refine(ok b u q).dY (λc v O r=>k c v ?_ r) (λc r=>by rw[bC (I c b r)];exact r) λc xs r=>by rw[bC (M c xs r)];exact r
   rcases O with rfl | O
   ·exact B
   ·rintro rfl;rcases W with z | z
    ·exact I c b O z
    ·rw[O]at z;cases z;exact S J
end
structure Un(fs ex:List Addr)(H H':Hp)(h h':Heap):Prop where
 keep:∀ b o,h.get? b=some o->H b=none->b ∉ fs->b ∉ ex->h'.get? b=some o
 slot:∀ b o,h.get? b=some o->H b=none->b∈fs->b ∉ ex -> ∃ sl,h'.get? b=some { o with slots:=sl }
 free:∀ b o,h.get? b=some o->H b=none->b ∉ ex->H' b=none
 there:∀ b o,h.get? b=some o->b ∉ ex -> ∃ o',h'.get? b=some o'
 fJ:∀ b xs,H b=some (.tup xs)->H' b=some (.tup xs)
 fx:∀ b o u,H b=some (.cx o u)->H' b=some (.cx o u)
 fK:∀ b ps,H b=some (.fG ps) -> ∃ more,H' b=some (.fG (ps++more))
section
variable{fs fs' ex ex':List Addr}{H H1 H2:Hp}{h h1 h2 h':Heap}{a x e:Addr}{o:HO}
def Un.any(u:Un fs ex H H1 h h1)(q:h.get? b=some ob)(n:H b=none)(B:b ∉ ex):∃ M,h1.get? b=some { ob with slots:=M }:=by
 by_cases I:b∈fs
 ·exact u.slot b ob q n I B
 ·exact⟨ob.slots,u.keep b ob q n I B⟩
def Un.kept(k:∀ b u,h.get? b=some u->h'.get? b=some u):Un fs ex H H h h':=
 ⟨λb B q _ _ _=>k b B q,λb B q _ _ _=>⟨B.slots,k b B q⟩,λ_ _ _ n _=>n,λb B q _=>⟨B,k b B q⟩,λ_ _ q=>q,λ_ _ _ q=>q,λ_ ps q=>⟨#[],by rw[q];simp⟩⟩
def Un.refl:Un fs ex H H h h:=Un.kept λ_ _ q=>q
def Un.laid(k:∀ b u,h.get? b=some u->h'.get? b=some u)(hp:h.objs.size<=a)(B:H a=none):Un fs ex H (upd H a o) h h' where
 keep:=λb u q _ _ _=>k b u q
 slot:=λb u q _ _ _=>⟨u.slots,k b u q⟩
 free:=λb u q n _=>by rw[bC (WN (WG (ZW q) hp))];exact n
 there:=λb u q _=>⟨u,k b u q⟩
 fJ:=λb xs q=>by rw[bC (cO q B)];exact q
 fx:=λb u xs q=>by rw[bC (cO q B)];exact q
 fK:=λb ps q=>⟨#[],by rw[bC (cO q B),q];simp⟩
def Un.write(I:Ku (H x))(S:e=x\/H e=some (.own x))(k:∀ b u,b≠e->h.get? b=some u->h'.get? b=some u)(M:∃ u,h'.get? e=some u):Un fs ex H (upd H x o) h h':=by
 have N:∀ b,H b=none->b≠x:=λb n z=>by subst z;rw[n]at I;exact I
 have O:∀ b,H b=none->b≠e:=λb n z=>by
  subst z;rcases S with r | r
  ·exact N b n r
  ·rw[n]at r;cases r
 have hm:∀ b u,H b=some u -> ¬ Ku (some u)->b≠x:=λb u q nm z=>by subst z;rw[q]at I;exact nm I
 refine⟨λb u q n _ _=>k b u (O b n) q,λb u q n _ _=>⟨u.slots,k b u (O b n) q⟩,λb u q n _=>by rw[bC (N b n)];exact n,λb u q _=>?_,
  λb xs q=>by rw[bC (hm b _ q λz=>z)];exact q,λb u xs q=>by rw[bC (hm b _ q λz=>z)];exact q,λb ps q=>⟨#[],by rw[bC (hm b _ q λz=>z),q];simp⟩⟩
 by_cases B:b=e
 ·subst B;exact M
 ·exact⟨u,k b u B q⟩
end
noncomputable def KH(h:Heap)(H:Hp):List Addr:=(List.range h.objs.size).filter λa=>(H a).isSome
noncomputable def gO(h:Heap)(H:Hp):Heap:=PySem.W.hideAll h (KH h H)
def NF(h:Heap)(H:Hp):(gO h H).objs.size=h.objs.size:=PySem.W.hideAll_size _ _
def rF{h:Heap}(e:h.get? b=some o)(n:H b=none):(gO h H).get? b=some o:=
 PySem.W.hideAll_get _ e λhm=>by
  have q:(H b).isSome=true:=(List.mem_filter.mp hm).2;rw[n]at q;simp at q
def wJ{h:Heap}(e:(gO h H).get? b=some o):h.get? b=some o/\H b=none:=by
 have B:h.get? b=some o:=PySem.W.of_hideAll (KH h H) e;exists B;cases q:H b with
 | none=>rfl
 | some x=>have hm:b∈KH h H:=List.mem_filter.mpr ⟨List.mem_range.mpr (ZW B),by simp[q]⟩;have z:(gO h H).get? b=none:=PySem.W.hideAll_none (KH h H) hm;rw[z]at e;cases e
noncomputable def xI(g h:Heap)(L:Addr):List (Addr×Obj):=(List.range h.objs.size).filterMap λa=>if a=L\/(g.get? a).isSome=true then none else(h.get? a).map λo=>(a,o)
noncomputable def rest(g h:Heap)(L d:Addr):List (Addr×Obj):=(xI g h L).filter λp=>decide (p.1≠d)
structure Mod(K:Fg)(mg:Mg)(base:Heap):Prop where
 CI:K.In base
 glob:base.Ns mainGlobals mg
 blt:∃ mb,base.Ns builtinsNs mb /\ ∀ x:Str,x ≠ "__name__" -> mb x=bootBuiltins x
 nolimit:base.NoLimit
structure Cx where
 prog:Program
 w:World
 K:Fg
 mg:Mg
 base:Heap
 A:Around
 N:List Str
 s₀:Shared
 H₀:Hp
 env:Env
 outer:List Env
 stack:List Env
 ex:List Addr
 fn:Str->Bool
 calm:Bool
 pn:List (Addr×Obj)
 xe:VS
variable {X:Cx}
def gF(l:List Env):List Addr:=l.filterMap (·.frame)
abbrev Cx.fs(X:Cx):List Addr:=gF X.outer
def Kn(sc:Scope)(x:Str):Prop:=sc.names.lookup x=some .local\/sc.names.lookup x=some .cell\/sc.names.lookup x=some .free
def Loc(sc:Scope)(x:Str):Prop:=sc.names.lookup x=some .local\/sc.names.lookup x=some .cell
def Look(B:Env)(h:Heap)(m:Mg)(x:Str)(u:Value):Prop:=
 (B.kindOf x=some .local/\m x=some u)\/((B.kindOf x=some .cell\/B.kindOf x=some .free) /\ ∃ c,B.cells.lookup x=some c/\h.IsCell c (some u))
structure Cx.Ok(X:Cx):Prop where
 mod:Mod X.K X.mg X.base
 kind:X.env.scope.kind = .function
 glob:X.env.globals=mainGlobals
 blt:X.env.builtins=builtinsNs
 above:X.s₀.heap.objs.size<=X.env.locals
 inj:∀ x y c,X.env.cells.lookup x=some c->X.env.cells.lookup y=some c->x=y
 has:∀ x,(X.env.kindOf x=some .cell\/X.env.kindOf x=some .free) -> ∃ c,X.env.cells.lookup x=some c
 C3:∀ x c,X.fn x=true->X.env.cells.lookup x=some c->X.s₀.heap.objs.size<=c
 hd:X.calm=true->X.A.handled=none
 frames:X.A.frames=some X.stack
 KN:X.stack=X.outer\/(X.stack=X.env::X.outer/\X.env.frame=some X.env.locals)
 XG:∀ b∈X.ex,b≠X.env.locals /\ ∀ x c,X.env.cells.lookup x=some c->c≠b
 bs:∀ b o,X.base.get? b=some o->X.s₀.heap.get? b=some o/\X.H₀ b=none
 oo:X.base.objs.size<=X.s₀.heap.objs.size
 qP:∀ b o,X.base.get? b=some o->b ∉ X.ex
 xp:∀ b∈X.ex,b ∉ X.fs
 dN:X.s₀.heap.FunFrames X.base X.outer
 rM:∀ b∈X.fs,X.H₀ b=none
structure Inv(X:Cx)(pins:List (Addr×Obj))(σ:List (Option V))(H:Hp)(s:Shared):Prop where
 ok:X.Ok
 os:s.os=X.s₀.os
 bare:AllBare s.gens
 base:Un X.fs X.ex X.H₀ H X.s₀.heap s.heap
 loc:∃ m,s.heap.Ns X.env.locals m /\ ∀(i:Nat)(x:Str)(v:V),X.N[i]? = some x->σ[i]? = some (some v)->Kn X.env.scope x -> ∃ u,RelV v u/\Look X.env s.heap m x u
 cell:∀ x c,X.env.cells.lookup x=some c -> ∃ v,s.heap.IsCell c v
 free:H X.env.locals=none
 cZ:∀ x c,X.env.cells.lookup x=some c->H c=none
 pin:∀ p∈X.pn++pins,s.heap.get? p.1=some p.2/\H p.1=none/\p.1≠X.env.locals/\p.1 ∉ X.fs /\ ∀ v,p.2.data ≠ .cell v
 aD:c9 X.prog X.w H s.heap
 len:σ.length=X.N.length
section
variable {pins:List (Addr×Obj)}{σ:List (Option V)}{H H':Hp}{s:Shared}{h':Heap}
def Cx.Ok.Tw(ok:X.Ok)(e:X.base.get? b=some o):b ∉ X.fs:=λB=>by
 have:=(ok.dN.mem B).1;rw[e]at this;cases this
def Inv.bs(I:Inv X pins σ H s):∀ b o,X.base.get? b=some o->s.heap.get? b=some o/\H b=none:=λb o e=>
 ⟨I.base.keep b o (I.ok.bs b o e).1 (I.ok.bs b o e).2 (I.ok.Tw e) (I.ok.qP b o e),I.base.free b o (I.ok.bs b o e).1 (I.ok.bs b o e).2 (I.ok.qP b o e)⟩
def Inv.bk(I:Inv X pins σ H s):∀ b o,X.base.get? b=some o->s.heap.get? b=some o:=λb o e=>(I.bs b o e).1
def Inv.mod(I:Inv X pins σ H s):Mod X.K X.mg X.base:=I.ok.mod
def Inv.d8(I:Inv X pins σ H s):X.K.In s.heap:=I.ok.mod.CI.keeps I.bk
def Inv.lt(I:Inv X pins σ H s):X.env.locals<s.heap.objs.size:=by obtain⟨_,hn,_⟩:=I.loc;exact hn.lt
def Inv.sz(I:Inv X pins σ H s):X.s₀.heap.objs.size<=s.heap.objs.size:=ZT I.ok.above (Nat.le_of_lt I.lt)
def Inv.Tv(I:Inv X pins σ H s)(h:s.heap.objs.size<=a):a ∉ X.fs:=λM=>by
 obtain⟨_,o,B,_⟩:=I.ok.dN.mem M;exact absurd (WG (ZW B) (ZT I.sz h)) (Nat.lt_irrefl _)
def Inv.yz(I:Inv X pins σ H s):∀ x c,X.env.cells.lookup x=some c->c≠X.env.locals:=λx c e z=>by
 obtain⟨v,o,N,hd⟩:=I.cell x c e;obtain⟨m,⟨o',es,ep,B,M,_⟩,_⟩:=I.loc;rw[z,B]at N;cases N;rw[M]at hd;cases hd
def Inv.dN(I:Inv X pins σ H s):s.heap.FunFrames X.base X.outer:=by
 have all:∀(l:List Env),(∀ b∈gF l,b∈X.fs)->X.s₀.heap.FunFrames X.base l->s.heap.FunFrames X.base l:=by
  intro l
  induction l with
  | nil=>intro _ _;trivial
  | cons Y r N=>intro hs U;obtain⟨W,⟨L,o,B,S,O,hd⟩,hr⟩:=U;have hL:L∈X.fs:=hs L (by unfold gF;rw[filterMap_cons,B];exact ZQ);obtain⟨Z,e⟩:=I.base.slot L o O (I.ok.rM L hL) hL λz=>I.ok.xp L z hL;exact⟨W,⟨L,_,B,S,e,hd⟩,N (λb M=>hs b (by unfold gF;rw[filterMap_cons,B];exact ZU _ M)) hr⟩
 exact all X.outer (λ_ M=>M) I.ok.dN
def Inv.stack(I:Inv X pins σ H s):s.heap.FunFrames X.base X.stack:=by
 rcases I.ok.KN with e | ⟨e,M⟩
 ·rw[e];exact I.dN
 ·rw[e];obtain⟨m,B,_⟩:=I.loc;refine .cons (by rw[I.ok.kind];decide) M B ?_ I.dN;exact Heap.get?_none_of_le (ZT I.ok.oo I.ok.above)
def Inv.iG(I:Inv X pins σ H s):∀ b∈gF X.stack,b∈X.env.locals::X.fs:=λb B=>by
 rcases I.ok.KN with e | ⟨e,M⟩
 ·rw[e]at B;exact ZU _ B
 ·rw[e]at B;unfold gF at B;rw[filterMap_cons,M]at B;exact B
def Inv.lU(I:Inv X pins σ H s):∀ b∈gF X.stack,H b=none:=λb B=>by
 rcases ad (I.iG b B)with e | B
 ·rw[e];exact I.free
 ·obtain⟨_,o,M,_⟩:=I.ok.dN.mem B;exact I.base.free b o M (I.ok.rM b B) λz=>I.ok.xp b z B
def Inv.step{g':Array GenState}{t':Nat}{d':Drawn}{ch:List Addr}(I:Inv X pins σ H s)
  (N:∀ b∈ch,(b∈X.ex\/X.s₀.heap.objs.size<=b)/\b≠X.env.locals/\(∀ x c,X.env.cells.lookup x=some c->c≠b) /\ ∀ p∈X.pn++pins,p.1≠b)
  (keep:∀ b o,b≠X.env.locals->b ∉ X.fs->b ∉ ch->s.heap.get? b=some o->H b=none->h'.get? b=some o)
  (slot:∀ b o,b≠X.env.locals->b∈X.fs->b ∉ ch->s.heap.get? b=some o->H b=none -> ∃ sl,h'.get? b=some { o with slots:=sl }) (free:∀ b o,b ∉ ch->s.heap.get? b=some o->H b=none->H' b=none)
  (there:∀ b o,b ∉ ch->s.heap.get? b=some o -> ∃ o',h'.get? b=some o')
  (fJ:∀ b xs,H b=some (.tup xs)->H' b=some (.tup xs)) (fx:∀ b o u,H b=some (.cx o u)->H' b=some (.cx o u)) (fK:∀ b ps,H b=some (.fG ps) -> ∃ more,H' b=some (.fG (ps++more)))
  (ns:∀ m,s.heap.Ns X.env.locals m->h'.Ns X.env.locals m) (aD:c9 X.prog X.w H' h') (hg:AllBare g') :
  Inv X pins σ H' { s with heap:=h',gens:=g',drawn:=d',toks:=t' }:=by
 have Y:∀ b o,X.s₀.heap.get? b=some o->b≠X.env.locals:=λb o e=>WN (WG (ZW e) I.ok.above);have O:∀ b o,X.s₀.heap.get? b=some o->b ∉ X.ex->b ∉ ch:=λb o e B U=>by
  rcases(N b U).1 with z | z
  ·exact B z
  ·exact absurd (WG (ZW e) z) (Nat.lt_irrefl _)
 have cellK:∀ x c,X.env.cells.lookup x=some c -> ∀ v,s.heap.IsCell c v->h'.IsCell c v:=λx c e v ⟨o,W,hd⟩=>by
  have M:c ∉ ch:=λz=>(N c z).2.2.1 x c e J;by_cases hc:c∈X.fs
  ·obtain⟨sl,q⟩:=slot c o (I.yz x c e) hc M W (I.cZ x c e);exact⟨_,q,hd⟩
  ·exact⟨o,keep c o (I.yz x c e) hc M W (I.cZ x c e),hd⟩
 refine⟨I.ok,I.os,hg,⟨λb o e n U B=>?_,λb o e n U B=>?_,λb o e n B=>?_,λb o e B=>?_,λb xs e=>fJ b xs (I.base.fJ b xs e),λb o xs e=>fx b o xs (I.base.fx b o xs e),λb ps e=>?_⟩,?_,λx c e=>?_,?_,λx c e=>?_,λp hp=>?_,aD,I.len⟩
 ·exact keep b o (Y b o e) U (O b o e B) (I.base.keep b o e n U B) (I.base.free b o e n B)
 ·obtain⟨sl,S⟩:=I.base.slot b o e n U B;obtain⟨Yl,Z⟩:=slot b _ (Y b o e) U (O b o e B) S (I.base.free b o e n B);exact⟨Yl,Z⟩
 ·obtain⟨o',S⟩:=I.base.there b o e B;exact free b o' (O b o e B) S (I.base.free b o e n B)
 ·obtain⟨o',S⟩:=I.base.there b o e B;exact there b o' (O b o e B) S
 ·obtain⟨m1,S⟩:=I.base.fK b ps e;obtain⟨m2,Z⟩:=fK b _ S;exact⟨m1++m2,by rw[Z,Array.append_assoc]⟩
 ·obtain⟨m,hn,hl⟩:=I.loc;refine⟨m,ns m hn,λi x v S Z e3=>?_⟩;obtain⟨u,r,l⟩:=hl i x v S Z e3;exists u,r;rcases l with l | ⟨k,c,e,z⟩
  ·exact .inl l
  ·exact .inr ⟨k,c,e,cellK x c e _ z⟩
 ·obtain⟨v,z⟩:=I.cell x c e;exact⟨v,cellK x c e v z⟩
 ·obtain⟨m,⟨o,_,_,W,_⟩,_⟩:=I.loc;exact free _ o (λz=>(N _ z).2.1 J) W I.free
 ·obtain⟨v,o,W,hd⟩:=I.cell x c e;exact free c o (λz=>(N c z).2.2.1 x c e J) W (I.cZ x c e)
 ·obtain⟨e,n,ne,nf,d⟩:=I.pin p hp;have M:p.1 ∉ ch:=λz=>(N p.1 z).2.2.2 p hp J;exact⟨keep p.1 p.2 ne nf M e n,free p.1 p.2 M e n,ne,nf,d⟩
def Inv.un{t':Nat}(I:Inv X pins σ H s)(u:Un X.fs [] H H' s.heap h')(M:c9 X.prog X.w H' h'):Inv X pins σ H' { s with heap:=h',toks:=t' }:=by
 obtain⟨m,⟨o,es,ep,U,r⟩,_⟩:=id I.loc;obtain⟨Y,hL⟩:=u.any U I.free (by simp);exact I.step (g':=s.gens) (d':=s.drawn) (ch:=[]) (λ_ z=>nomatch z) (λb o _ N _ e n=>u.keep b o e n N (by simp)) (λb o _ N _ e n=>u.slot b o e n N (by simp)) (λb o _ e n=>u.free b o e n (by simp)) (λb o _ e=>u.there b o e (by simp)) u.fJ u.fx u.fK (λZ hm=>by
  obtain⟨o',O,S,B,W⟩:=hm;rw[U]at B;cases B;exact⟨_,O,S,hL,W⟩) M I.bare
def Inv.call{g':Array GenState}{t':Nat}{d':Drawn}{ch:List Addr}(I:Inv X pins σ H s)(u:Un (gF X.stack) ch H H' s.heap h')(O:c9 X.prog X.w H' h')(Z:AllBare g')
  (N:∀ b∈ch,(b∈X.ex\/X.s₀.heap.objs.size<=b)/\b≠X.env.locals/\(∀ x c,X.env.cells.lookup x=some c->c≠b) /\ ∀ p∈X.pn++pins,p.1≠b) :
  Inv X pins σ H' { s with heap:=h',gens:=g',drawn:=d',toks:=t' }:=by
 obtain⟨m,⟨o,es,ep,W,r⟩,_⟩:=id I.loc;obtain⟨sl,hL⟩:=u.any W I.free λz=>(N _ z).2.1 J;exact I.step (ch:=ch) N (λb o hL hb B e n=>u.keep b o e n (λz=>(ad (I.iG b z)).elim hL hb) B) (λb o _ _ B e n=>u.any e n B) (λb o B e n=>u.free b o e n B) (λb o B e=>u.there b o e B) u.fJ u.fx u.fK (λm' hm=>by
  obtain⟨o',S,U,M,Y⟩:=hm;rw[W]at M;cases M;exact⟨_,S,U,hL,Y⟩) O Z
def Inv.turned{t':Nat}{B:Addr}(I:Inv X pins σ H s)(k:∀ b o,b≠B->s.heap.get? b=some o->h'.get? b=some o)(S:H B=none)(hL:B≠X.env.locals)
  (h1:B∈X.ex\/X.s₀.heap.objs.size<=B) (h2:∀ x c,X.env.cells.lookup x=some c->c≠B) (W:∀ p∈X.pn++pins,p.1≠B):Inv X pins σ H { s with heap:=h',toks:=t' }:=by
 have N:∀ b u,H b=some u->b≠B:=λb u e z=>by rw[z,S]at e;cases e
 refine I.step (g':=s.gens) (d':=s.drawn) (ch:=[B]) (λb U=>?_) (λb o _ _ M e _=>k b o (λz=>M (by simp[z])) e) (λb o _ _ M e _=>⟨o.slots,k b o (λz=>M (by simp[z])) e⟩) (λ_ _ _ _ n=>n)
  (λb o M e=>⟨o,k b o (λz=>M (by simp[z])) e⟩) (λ_ _ e=>e) (λ_ _ _ e=>e) (λb ps e=>⟨#[],by rw[e];simp⟩) (λm hm=>?_) (λb u e=>?_) I.bare
 ·have e:b=B:=by simpa using U
  subst e;exact⟨h1,hL,h2,W⟩
 ·obtain⟨o,es,ep,O,r⟩:=hm;exact⟨o,es,ep,k _ o (Ne.symm hL) O,r⟩
 ·refine(I.aD b u e).dY (λc v M q=>k c v ?_ q) (λ_ q=>q) λ_ _ q=>q;rcases M with z | z
  ·rw[z];exact N b u e
  ·exact N c _ z
def Inv.tok(I:Inv X pins σ H s)(t:Nat):Inv X pins σ H { s with toks:=t }:=I.un (h':=s.heap) (t':=t) Un.refl I.aD
def Inv.kept{t':Nat}(I:Inv X pins σ H s)(k:∀ b u,s.heap.get? b=some u->h'.get? b=some u):Inv X pins σ H { s with heap:=h',toks:=t' }:=I.un (Un.kept k) (I.aD.kept k)
def Inv.laid{t':Nat}(I:Inv X pins σ H s)(k:∀ b u,s.heap.get? b=some u->h'.get? b=some u)(hp:s.heap.objs.size<=a)(new:bg X.prog X.w (upd H a o) h' a o) :
  Inv X pins σ (upd H a o) { s with heap:=h',toks:=t' }:=I.un (Un.laid k hp (I.aD.fresh hp)) (I.aD.laid k hp new)
def Inv.write{t':Nat}(I:Inv X pins σ H s)(M:Ku (H x))(N:e=x\/H e=some (.own x))(k:∀ b u,b≠e->s.heap.get? b=some u->h'.get? b=some u)(B:∃ u,h'.get? e=some u)
  (new:bg X.prog X.w (upd H x o) h' x o):Inv X pins σ (upd H x o) { s with heap:=h',toks:=t' }:=I.un (Un.write M N k B) (I.aD.write M N k B new)
def Inv.lY(I:Inv X pins σ H s)(h:∀ p∈IP,s.heap.get? p.1=some p.2/\H p.1=none/\p.1≠X.env.locals/\p.1 ∉ X.fs /\ ∀ v,p.2.data ≠ .cell v):Inv X IP σ H s:=
 ⟨I.ok,I.os,I.bare,I.base,I.loc,I.cell,I.free,I.cZ,λp hp=>(eC hp).elim (λz=>I.pin p (mem_append_left _ z)) (h p),I.aD,I.len⟩
def Fl{N:List Str}(B:N.Nodup){i j:Nat}(a:N[i]? = some x)(b:N[j]? = some x):i=j:=by obtain⟨h1,M⟩:=ac a;obtain⟨h2,I⟩:=ac b;exact(getElem_inj B).mp (M.trans I.symm)
def Ii{M:Model}{A:Around}{E:VS}{i:Nat}(I:Inv X pins σ H s)(hN:X.N.Nodup)(hi:X.N[i]? = some x)(S:Loc X.env.scope x)(r:RelV v u)
  (h:∀ s',Inv X pins (σ.set i (some v)) H s'->(∃ a,Heap.SameBut a s.heap s'.heap/\(a=X.env.locals\/X.env.cells.lookup x=some a))->Q () s') (hf:X.fn x=true\/X.env.scope.names.lookup x=some .local:=by walk_at "a"):wpAny M A (storeName X.env x u) Q E s:=by
 obtain⟨m,hn,hl⟩:=id I.loc;have Vh:(X.env.scope.kind == .class||(X.env.scope.kind == .module&&X.env.locals != X.env.globals))=false:=by rw[I.ok.kind];rfl
 have hiσ:i<σ.length:=by rw[I.len];exact(ac hi).1
 have yz:=I.yz;have tracked:∀{a:Addr}{h':Heap},(∃ o,s.heap.get? a=some o/\H a=none)->Heap.SameBut a s.heap h'->c9 X.prog X.w H h':=fun {a h'} ha hs b ob e=>by
  obtain⟨_,_,U⟩:=ha;refine(I.aD b ob e).dY (λc w' O q=>(hs.2 c ?_).trans q) (λ_ q=>q) λ_ _ q=>q;rintro rfl;rcases O with rfl | O
  ·rw[U]at e;cases e
  ·rw[U]at O;cases O
 rcases S with Y | Y
 ·refine wpAny_storeName_local Y hn (λh' hn' hs=>?_) Vh;obtain⟨oL,_,_,hoL,_⟩:=id hn;refine h _ ⟨I.ok,I.os,I.bare,⟨λb o e n hb S=>?_,λb o e n hb S=>?_,I.base.free,λb o e S=>?_,I.base.fJ,I.base.fx,I.base.fK⟩,⟨_,hn',λj y v' B W e3=>?_⟩,λy c e=>?_,I.free,I.cZ,λp hp=>?_,tracked ⟨oL,hoL,I.free⟩ hs,by simpa using I.len⟩ ⟨_,hs,.inl J⟩
  ·exact(hs.2 b (WN (WG (ZW e) I.ok.above))).trans (I.base.keep b o e n hb S)
  ·obtain⟨sl,B⟩:=I.base.slot b o e n hb S;exact⟨sl,(hs.2 b (WN (WG (ZW e) I.ok.above))).trans B⟩
  ·obtain⟨o',B⟩:=I.base.there b o e S;exact⟨o',(hs.2 b (WN (WG (ZW e) I.ok.above))).trans B⟩
  ·by_cases Z:j=i
   ·subst Z;rw[hi]at B;cases B;rw[getElem?_set_self hiσ]at W;cases W;exact⟨u,r,.inl ⟨Y,by simp⟩⟩
   ·rw[getElem?_set_ne (Ne.symm Z)]at W;obtain⟨u',r',q⟩:=hl j y v' B W e3;exists u',r';rcases q with ⟨k,e⟩ | ⟨k,c,e,z⟩
    ·refine .inl ⟨k,?_⟩;have:y≠x:=λe=>Z (Fl hN B (e▸hi));simp[this,e]
    ·exact .inr ⟨k,c,e,z.sameBut hs (yz y c e)⟩
  ·obtain⟨w',z⟩:=I.cell y c e;exact⟨w',z.sameBut hs (yz y c e)⟩
  ·obtain⟨e,n,ne,nf,d⟩:=I.pin p hp;exact⟨(hs.2 p.1 ne).trans e,n,ne,nf,d⟩
 ·have yt:X.fn x=true:=by
   rcases hf with z | z
   ·exact z
   ·rw[z]at Y;cases Y
  obtain⟨c,O⟩:=I.ok.has x (.inl Y);obtain⟨w',z⟩:=I.cell x c O;refine wpAny_storeName_cell I.ok.kind Y O z (λh' xh hs=>?_);obtain⟨oc,CS,UM⟩:=id z;refine h { s with heap:=h' } ⟨I.ok,I.os,I.bare,⟨λb o e n hb S=>?_,λb o e n hb S=>?_,I.base.free,λb o e S=>?_,I.base.fJ,I.base.fx,I.base.fK⟩,⟨m,hn.sameBut hs (Ne.symm (yz x c O)),λj y v' B W e3=>?_⟩,λy c' e=>?_,I.free,I.cZ,λp hp=>?_,tracked ⟨oc,CS,I.cZ x c O⟩ hs,by simpa using I.len⟩ ⟨c,hs,.inr O⟩
  ·exact(hs.2 b (WN (WG (ZW e) (I.ok.C3 x c yt O)))).trans (I.base.keep b o e n hb S)
  ·obtain⟨sl,B⟩:=I.base.slot b o e n hb S;exact⟨sl,(hs.2 b (WN (WG (ZW e) (I.ok.C3 x c yt O)))).trans B⟩
  ·obtain⟨o',B⟩:=I.base.there b o e S;exact⟨o',(hs.2 b (WN (WG (ZW e) (I.ok.C3 x c yt O)))).trans B⟩
  ·by_cases Z:j=i
   ·subst Z;rw[hi]at B;cases B;rw[getElem?_set_self hiσ]at W;cases W;exact⟨u,r,.inr ⟨.inl Y,c,O,xh⟩⟩
   ·rw[getElem?_set_ne (Ne.symm Z)]at W;obtain⟨u',r',q⟩:=hl j y v' B W e3;exists u',r';rcases q with q | ⟨k,c',e,z'⟩
    ·exact .inl q
    ·refine .inr ⟨k,c',e,z'.sameBut hs ?_⟩;rintro rfl;exact Z (Fl hN B (I.ok.inj _ _ _ e O▸hi))
  ·by_cases Xl:c'=c
   ·subst Xl;exact⟨_,xh⟩
   ·obtain⟨w2,z2⟩:=I.cell y c' e;exact⟨w2,z2.sameBut hs Xl⟩
  ·obtain⟨e,n,ne,nf,d⟩:=I.pin p hp;refine⟨(hs.2 p.1 ?_).trans e,n,ne,nf,d⟩;intro q;rw[q,CS]at e;have q':oc=p.2:=am e;exact d w' (by rw[<- q'];exact UM)
def mV{M:Model}{A:Around}{E:VS}{i:Nat}(I:Inv X pins σ H s)(S:X.N.Nodup)(hi:X.N[i]? = some x)(B:Loc X.env.scope x)(r:RelV v u)
  (h:∀ s',Inv X pins (σ.set i (some v)) H s'->Q () s') (O:X.fn x=true\/X.env.scope.names.lookup x=some .local:=by walk_at "a"):wpAny M A (storeName X.env x u) Q E s:=
 Ii I S hi B r (λs' U _=>h s' U) O
def Inv.iB{s':Shared}(I:Inv X pins σ H s)(N:s'.os=s.os)(u:Un (gF X.stack) ch H H' s.heap s'.heap)(B:c9 X.prog X.w H' s'.heap)(O:AllBare s'.gens)
  (M:∀ b∈ch,(b∈X.ex\/X.s₀.heap.objs.size<=b)/\b≠X.env.locals/\(∀ x c,X.env.cells.lookup x=some c->c≠b) /\ ∀ p∈X.pn++pins,p.1≠b):Inv X pins σ H' s':=by
 obtain⟨h',g',d',t',o'⟩:=s';have e:o'=s.os:=N;subst e;exact I.call (g':=g') (t':=t') (d':=d') u B O M
end
abbrev XK:=Value->Option Addr->Hp->Prop
abbrev St:=List (Option V)
abbrev VK:=V->Hp->Prop
abbrev TE:=St->Hp->VK->Prop
abbrev TT:=St->Hp->(Bool->Hp->Prop)->Prop
abbrev TA:=St->Hp->(List V->Hp->Prop)->Prop
structure Ends where
 nx:St->Hp->Prop
 rt:VK
 bk:St->Hp->Prop:=λ_ _=>False
 ct:St->Hp->Prop:=λ_ _=>False
abbrev TS:=Ends->St->Hp->Prop
inductive EP(X:Cx)(pins:List (Addr×Obj))(σ:St)(Q:VK)(u:Value)(s':Shared):Prop
 |mk(v:V)(H':Hp)(_:Inv X pins σ H' s')(_:RelV v u)(_:Q v H')
inductive TP(X:Cx)(pins:List (Addr×Obj))(σ:St)(Q:Bool->Hp->Prop)(b:Bool)(s':Shared):Prop
 |mk(H':Hp)(_:Inv X pins σ H' s')(_:Q b H')
inductive AP(X:Cx)(pins:List (Addr×Obj))(σ:St)(Q:List V->Hp->Prop)(us:List Value)(s':Shared):Prop
 |mk(vs:List V)(H':Hp)(_:Inv X pins σ H' s')(_:Vals vs us)(_:Q vs H')
inductive NP(X:Cx)(pins:List (Addr×Obj))(N:St->Hp->Prop)(s':Shared):Prop
 |mk(σ':St)(H':Hp)(_:Inv X pins σ' H' s')(_:N σ' H')
inductive RP(X:Cx)(pins:List (Addr×Obj))(R:VK)(u:Value)(s':Shared):Prop
 |mk(v:V)(σ':St)(H':Hp)(_:Inv X pins σ' H' s')(_:RelV v u)(_:R v H')
def SP(X:Cx)(pins:List (Addr×Obj))(D:Ends)(f:Flow)(s':Shared):Prop:=
 match f with
 | .next=>NP X pins D.nx s'
 | .brk=>NP X pins D.bk s'
 | .cont=>NP X pins D.ct s'
 | .ret u=>RP X pins D.rt u s'
def PE(X:Cx)(e:Expr)(t:TE):Prop:=
 ∀⦃pins:List (Addr×Obj)⦄ (s:Shared) (σ:St) (H:Hp) (Q:VK),Inv X pins σ H s->t σ H Q->wpAny (model X.prog X.w) X.A (eval e X.env) (EP X pins σ Q) X.xe s
def PT(X:Cx)(e:Expr)(t:TT):Prop:=
 ∀⦃pins:List (Addr×Obj)⦄ (s:Shared) (σ:St) (H:Hp) (Q:Bool->Hp->Prop),Inv X pins σ H s->t σ H Q->wpAny (model X.prog X.w) X.A (isTrue e X.env (eval e X.env)) (TP X pins σ Q) X.xe s
def PW(X:Cx)(e:Expr)(t:TT):Prop:=
 ∀(whole:Sem Value) (pins:List (Addr×Obj)) (s:Shared) (σ:St) (H:Hp) (Q:Bool->Hp->Prop),Inv X pins σ H s->t σ H Q->wpAny (model X.prog X.w) X.A (isTrue e X.env whole) (TP X pins σ Q) X.xe s
def PW.pt(h:PW X e t):PT X e t:=h _
def PA(X:Cx)(es:List Expr)(t:TA):Prop:=
 ∀⦃pos:Pos⦄ (pins:List (Addr×Obj)) (s:Shared) (σ:St) (H:Hp) (Q:List V->Hp->Prop),Inv X pins σ H s->t σ H Q->wpAny (model X.prog X.w) X.A (spliced (backTo pos (starEach es X.env))) (AP X pins σ Q) X.xe s
def PS(X:Cx)(st:Stmt)(t:TS):Prop:=
 ∀⦃pins:List (Addr×Obj)⦄ (s:Shared) (σ:St) (H:Hp) (D:Ends),Inv X pins σ H s->t D σ H->wpAny (model X.prog X.w) X.A (exec st X.env) (SP X pins D) X.xe s
def jf(X:Cx)(st:List Stmt)(t:TS):Prop:=
 ∀⦃pins:List (Addr×Obj)⦄ (s:Shared) (σ:St) (H:Hp) (D:Ends),Inv X pins σ H s->t D σ H->wpAny (model X.prog X.w) X.A (execs st X.env) (SP X pins D) X.xe s
def aV{α:Type}{t:Sem α}{Q B:α->Shared->Prop}{M:Model}{A:Around}{E:VS}{s:Shared}(h:wpAny M A t Q E s)(I:∀ a s,Q a s->B a s):wpAny M A t B E s:=WX h I λ_ _ x=>x
section
inductive yQ(i:Nat)(σ:St)(H:Hp)(Q:VK):Prop
 |mk(v:V)(_:σ[i]? = some (some v))(_:Q v H)
def tC(v:V):TE:=λ_ H Q=>Q v H
def ND{i:Nat}{pos:Pos}(hN:X.N[i]? = some x)(W:Kn X.env.scope x)(hd:(x==("__debug__" : Str))=false:=by decide) (S:(x==("__classdict__" : Str))=false:=by decide):PE X (.Name x pos) (yQ i):=by
 intro pins s σ H Q I h;obtain⟨v,e,h⟩:=h;obtain⟨m,Y,Z⟩:=I.loc;obtain⟨u,r,l⟩:=Z i x v hN e W;have O:EP X pins σ Q u s:=⟨v,H,I,r,h⟩
 rcases l with ⟨M,hm⟩ | ⟨M,c,U,B⟩
 ·exact wpAny_Name (wpAny_loadName_local I.ok.kind M Y hm O) hd
 ·rcases M with M | M
  ·exact wpAny_Name (wpAny_loadName_cell I.ok.kind M U B O) hd
  ·exact wpAny_Name (wpAny_loadName_free I.ok.kind M U B O S) hd
def ah{i j pos}:PE X (.Constant (.int i) j pos) (tC (.int i)):=λ_ _ _ H _ I h=>wpAny_Constant_int ⟨.int i,H,I.tok _,⟨_,J⟩,h⟩
def bx{b j pos}:PE X (.Constant (.bool b) j pos) (tC (.bl b)):=λ_ _ _ H _ I h=>Constant_bool ⟨.bl b,H,I,J,h⟩
def dG{j pos}:PE X (.Constant .none j pos) (tC .bf):=λ_ _ _ H _ I h=>Constant_none ⟨.bf,H,I,J,h⟩
def aR{x j pos}:PE X (.Constant (.str x) j pos) (tC (.str x)):=λ_ _ _ H _ I h=>Calls.Constant_str ⟨.str x,H,I.tok _,⟨_,J⟩,h⟩
def Gl(X:Cx)(x:Str):Prop:=X.env.kindOf x=some .globalImplicit
def AK{E:VS}{pos:Pos}(I:Inv X pins σ H s)(B:Gl X x)(hm:X.mg x=some u)(h:Q u s)
  (hd:(x==("__debug__" : Str))=false:=by decide):wpAny (model X.prog X.w) X.A (eval (.Name x pos) X.env) Q E s:=
 Calls.Name_function_global I.ok.kind B (Calls.loadGlobal_global (by rw[I.ok.glob];exact I.mod.glob.keeps I.bk) hm h) hd
def qd{E:VS}{pos:Pos}(I:Inv X pins σ H s)(N:Gl X x)(hm:X.mg x=none)(B:bootBuiltins x=some u)(h:Q u s)
  (M:x ≠ "__name__" := by decide) (hd:(x==("__debug__" : Str))=false:=by decide):wpAny (model X.prog X.w) X.A (eval (.Name x pos) X.env) Q E s:=by
 obtain⟨O,h1,h2⟩:=I.mod.blt;exact Calls.Name_function_global I.ok.kind N (Calls.loadGlobal_builtin (by rw[I.ok.glob];exact I.mod.glob.keeps I.bk) hm (by rw[I.ok.blt];exact h1.keeps I.bk) ((h2 x M).trans B) h) hd
def kR{pos:Pos}(B:Gl X x)(hm:X.mg x=some u)(r:RelV v u)(hd:(x==("__debug__" : Str))=false:=by decide):PE X (.Name x pos) (tC v):=
 λ_ _ _ H _ I h=>AK I B hm ⟨v,H,I,r,h⟩ hd
def iN{pos:Pos}(N:Gl X x)(hm:X.mg x=none)(B:bootBuiltins x=some u)(r:RelV v u)(M:x ≠ "__name__" := by decide) (hd:(x==("__debug__" : Str))=false:=by decide):PE X (.Name x pos) (tC v):=
 λ_ _ _ H _ I h=>qd I N hm B ⟨v,H,I,r,h⟩ M hd
variable{a b:Expr}{ta tb:TE}{pos:Pos}
def PC(X:Cx)(B:CmpOp)(a b:Expr)(t:TE):Prop:=
 ∀⦃pins:List (Addr×Obj)⦄ (s:Shared) (σ:St) (H:Hp) (Q:VK),Inv X pins σ H s->t σ H Q ->
  wpAny (model X.prog X.w) X.A (eval a X.env) (λv s₁=>wpAny (model X.prog X.w) X.A (eval b X.env) (λu s₂=>wpAny (model X.prog X.w) X.A (compareOp B v u) (EP X pins σ Q) X.xe s₂) X.xe s₁) X.xe s
inductive Ju(x:V)(H:Hp)(Q:Bool->Hp->Prop):Prop
 |mk(c:Bool)(_:x = .bl c)(_:Q c H)
def tB(t:TE):TT:=λσ H Q=>t σ H λx H1=>Ju x H1 Q
def uQ{e:Expr}(h:PE X e t)(N:∀ whole,isTrue e X.env whole=(do let v <- whole;standAt e.pos;holding [v] (truthy v)):=by intro _;rfl):PT X e (tB t):=by intro pins s σ H Q I hw;refine isTrue_plain (aV (h s σ H _ I hw) λv S ⟨x,H1,O,B,M⟩=>?_) (N _);obtain⟨d,rfl,q⟩:=M;cases B;exact YR ⟨H1,O,q⟩
variable{tA KL:TT}{rest:List Expr}
def L5(t u:TT):TT:=λσ H Q=>t σ H λc H1=>if c=true then u σ H1 Q else Q false H1
def Ye(t u:TT):TT:=λσ H Q=>t σ H λc H1=>if c=true then Q true H1 else u σ H1 Q
def LX(t:TT):TT:=λσ H Q=>t σ H λc H1=>Q (!c) H1
def mu(B:PT X a tA):PW X (.BoolOp .And [a] pos) tA:=by
 intro M pins s σ H Q I h;refine isTrue_and (aV (B s σ H Q I h) λc N e=>?_);cases c with
 | true=>exact isTrue_and_nil e
 | false=>exact e
def yc(B:PT X a tA):PW X (.BoolOp .Or [a] pos) tA:=by
 intro M pins s σ H Q I h;refine isTrue_or (aV (B s σ H Q I h) λc N e=>?_);cases c with
 | false=>exact isTrue_or_nil e
 | true=>exact e
def iV(U:PT X a tA)(S:PW X (.BoolOp .And (b::rest) pos) KL):PW X (.BoolOp .And (a::b::rest) pos) (L5 tA KL):=by
 intro N pins s σ H Q I h;refine isTrue_and (aV (U s σ H _ I h) λc O ⟨H1,M,B⟩=>?_);cases c with
 | true=>exact @S N pins O σ H1 Q M B
 | false=>exact⟨H1,M,B⟩
def pw_or(U:PT X a tA)(S:PW X (.BoolOp .Or (b::rest) pos) KL):PW X (.BoolOp .Or (a::b::rest) pos) (Ye tA KL):=by
 intro N pins s σ H Q I h;refine isTrue_or (aV (U s σ H _ I h) λc O ⟨H1,M,B⟩=>?_);cases c with
 | true=>exact⟨H1,M,B⟩
 | false=>exact @S N pins O σ H1 Q M B
def Eh(B:PT X a tA):PT X (.UnaryOp .Not a pos) (LX tA):=by intro pins s σ H Q I h;exact isTrue_not (aV (B s σ H (λc H1=>Q (!c) H1) I h) λc s' ⟨H1,M,q⟩=>⟨H1,M,q⟩)
def Dn(ta tb:TE):TE:=λσ H Q=>ta σ H λx H1=>Ju x H1 λc H1=>if c=true then tb σ H1 Q else Q (.bl false) H1
def LW(ta tb:TE):TE:=λσ H Q=>ta σ H λx H1=>Ju x H1 λc H1=>if c=true then Q (.bl true) H1 else tb σ H1 Q
def Dh(ta:TE):TE:=λσ H Q=>ta σ H λx H1=>Ju x H1 λc H1=>Q (.bl (!c)) H1
def kJ{op}(h:PE X a t):PE X (.BoolOp op [a] pos) t:=λpins s σ H Q I hw=>BoolOp_one (h s σ H Q I hw)
def fP(U:PE X a ta)(S:PE X (.BoolOp .And (b::rest) pos) tb):PE X (.BoolOp .And (a::b::rest) pos) (Dn ta tb):=by
 intro pins s σ H Q I h;refine BoolOp_and (aV (U s σ H _ I h) λv N ⟨x,H1,M,O,B⟩=>?_);obtain⟨c,rfl,B⟩:=B;cases O;refine YR ?_;cases c with
 | true=>exact S N σ H1 Q M B
 | false=>exact⟨.bl false,H1,M,J,B⟩
def IS(U:PE X a ta)(S:PE X (.BoolOp .Or (b::rest) pos) tb):PE X (.BoolOp .Or (a::b::rest) pos) (LW ta tb):=by
 intro pins s σ H Q I h;refine BoolOp_or (aV (U s σ H _ I h) λv N ⟨x,H1,M,O,B⟩=>?_);obtain⟨c,rfl,B⟩:=B;cases O;refine YR ?_;cases c with
 | false=>exact S N σ H1 Q M B
 | true=>exact⟨.bl true,H1,M,J,B⟩
def BD(N:PE X a ta):PE X (.UnaryOp .Not a pos) (Dh ta):=by intro pins s σ H Q I h;refine UnaryOp_ (aV (N s σ H _ I h) λv S ⟨x,H1,O,M,B⟩=>?_);obtain⟨c,rfl,B⟩:=B;cases M;exact not_of (YR ⟨.bl (!c),H1,O,J,B⟩)
def Yh(t:TT)(ta tb:TE):TE:=λσ H Q=>t σ H λc H1=>if c=true then ta σ H1 Q else tb σ H1 Q
def vR(O:PT X c tA)(U:PE X a ta)(S:PE X b tb):PE X (.IfExp c a b pos) (Yh tA ta tb):=by
 intro pins s σ H Q I h;refine wpAny_IfExp (aV (O s σ H _ I h) λd B ⟨H1,N,M⟩=>?_);cases d with
 | true=>exact U B σ H1 Q N M
 | false=>exact S B σ H1 Q N M
end
def ao(K:Fg)(H:Hp)(a:Addr)(xs:List V):Prop:=
 Rd H a (.lst xs) \/
  bR λ(o:Obj) (B:Array Value) (n:Nat)=>gB (K.lookup a=some o) (o.cls = .type "list") (o.dict=none) (o.data = .seq B n) (B.size<=sizeLine) (Vals xs B.toList)
def au(K:Fg)(H:Hp)(a:Addr)(xs:List V):Prop:=
 Rd H a (.tup xs) \/
  bR λ(o:Obj) (B:Array Value) (n:Nat)=>dw (K.lookup a=some o) (o.cls = .type "tuple") (o.data = .seq B n) (B.size<=sizeLine) (Vals xs B.toList)
noncomputable def VT:Value->Option V
 | .none=>some .bf
 | .bool b=>some (.bl b)
 | .int i _=>some (.int i)
 | .str x _=>some (.str x)
 | .bytes b _=>some (.om b)
 | .float b _=>some (.Cd b)
 | .ref a=>some (.ref a)
 | .type n=>some (.ty n)
 | _=>none
def RelV.abs(r:RelV x u):VT u=some x:=by
 cases x with
 | bf=>cases r;rfl
 | bl _=>cases r;rfl
 | int _=>obtain⟨t,rfl⟩:=r;rfl
 | str _=>obtain⟨t,rfl⟩:=r;rfl
 | om _=>obtain⟨t,rfl⟩:=r;rfl
 | Cd _=>obtain⟨t,rfl⟩:=r;rfl
 | ref _=>cases r;rfl
 | ty _=>cases r;rfl
def RelV.inj(r:RelV x u)(q:RelV y u):x=y:=am (r.abs.symm.trans q.abs)
theorem Vals.inj{xs ys:List V}{us:List Value}(h:Vals xs us):Vals ys us->xs=ys:=by
 induction h generalizing ys with intro k
 | nil=>cases k;rfl
 | cons r t i=>cases k with | cons B u=>rw[r.inj B,i u]
section
variable {pins:List (Addr×Obj)}{σ:St}{H:Hp}{s:Shared}{a:Addr}{xs ys:List V}
def ao.of{K:Fg}(h:H a=some (.lst xs)):ao K H a xs:=.inl (.inl h)
def au.of{K:Fg}(h:H a=some (.tup xs)):au K H a xs:=.inl (.inl h)
def Inv.list(I:Inv X pins σ H s)(h:ao X.K H a xs):∃ B:List Value,aP (Vals xs B) (PlainL s.heap a B.toArray) (xs.length<=sizeLine):= by
 rcases h with h | ⟨o,B,n,M,N,hd,hs,O,r⟩
 ·obtain⟨z,B,n,r,e⟩:=h.ok I.aD;exact⟨B,r,⟨_,n,e,J,J,J⟩,z⟩
 ·exists B.toList,r,⟨o,n,I.d8 a o M,N,hd,by simpa using hs⟩
  have e:=r.length;simp only[WY]at e;lia
def Inv.tuple(I:Inv X pins σ H s)(h:au X.K H a xs):∃ B:List Value,aP (Vals xs B) (IsTup s.heap a B.toArray) (xs.length<=sizeLine):= by
 rcases h with h | ⟨o,B,n,M,N,hs,O,r⟩
 ·obtain⟨z,B,r,p⟩:=h.ok I.aD;exact⟨B,r,p,z⟩
 ·exists B.toList,r,⟨o,I.d8 a o M,N,n,by simpa using hs⟩
  have e:=r.length;simp only[WY]at e;lia
def Inv.jH(I:Inv X pins σ H s)(h:ao X.K H a xs)(h':ao X.K H a ys):xs=ys:=by
 obtain⟨B,r,⟨o,n,e,_,_,d⟩,_⟩:=I.list h;obtain⟨eF,N,⟨o',S,M,_,_,d'⟩,_⟩:=I.list h';rw[e]at M;cases M;rw[d]at d';injection d' with O _;have:B=eF:=by simpa using congrArg Array.toList O
 subst this;exact r.inj N
def Inv.eV(I:Inv X pins σ H s)(h:au X.K H a xs)(h':au X.K H a ys):xs=ys:=by
 obtain⟨B,r,⟨o,e,_,n,d⟩,_⟩:=I.tuple h;obtain⟨eF,N,⟨o',M,_,S,d'⟩,_⟩:=I.tuple h';rw[e]at M;cases M;rw[d]at d';injection d' with O _;have:B=eF:=by simpa using congrArg Array.toList O
 subst this;exact r.inj N
end
abbrev Cx.gG(X:Cx)(E:VS):Cx:={ X with xe:=E }
abbrev Cx.BJ(X:Cx):Cx:=X.gG λ_ _=>False
def Cx.Ok.gG{X:Cx}(ok:X.Ok)(E:VS):(X.gG E).Ok:=
 ⟨ok.mod,ok.kind,ok.glob,ok.blt,ok.above,ok.inj,ok.has,ok.C3,ok.hd,ok.frames,ok.KN,ok.XG,ok.bs,ok.oo,ok.qP,ok.xp,ok.dN,ok.rM⟩
def Cx.Ok.df{X:Cx}(ok:(X.gG E).Ok):X.Ok:=
 ⟨ok.mod,ok.kind,ok.glob,ok.blt,ok.above,ok.inj,ok.has,ok.C3,ok.hd,ok.frames,ok.KN,ok.XG,ok.bs,ok.oo,ok.qP,ok.xp,ok.dN,ok.rM⟩
section
variable {pins:List (Addr×Obj)}{σ:St}{H:Hp}{s:Shared}{E:VS}
def Inv.gG(I:Inv X pins σ H s)(E:VS):Inv (X.gG E) pins σ H s:=⟨I.ok.gG E,I.os,I.bare,I.base,I.loc,I.cell,I.free,I.cZ,I.pin,I.aD,I.len⟩
def Inv.df(I:Inv (X.gG E) pins σ H s):Inv X pins σ H s:=⟨I.ok.df,I.os,I.bare,I.base,I.loc,I.cell,I.free,I.cZ,I.pin,I.aD,I.len⟩
def SP.df(h:SP (X.gG E) pins D f s'):SP X pins D f s':=by
 cases f with
 | next=>obtain⟨σ',H',I,q⟩:=h;exact⟨σ',H',I.df,q⟩
 | brk=>obtain⟨σ',H',I,q⟩:=h;exact⟨σ',H',I.df,q⟩
 | cont=>obtain⟨σ',H',I,q⟩:=h;exact⟨σ',H',I.df,q⟩
 | ret u=>obtain⟨v,σ',H',I,r,q⟩:=h;exact⟨v,σ',H',I.df,r,q⟩
def jf.BJ{st:List Stmt}{t:TS}(h:jf X.BJ st t):jf X st t:=λpins s σ H D I hw=>
 WX (h s σ H D (I.gG _) hw) (λ_ _ q=>q.df) λ_ _ z=>False.elim z
end
section
variable {st:Stmt}{rest:List Stmt}{t u:TS}{e:Expr}{te:TE}{pos:Pos}
def xW:TS:=λD σ H=>D.nx σ H
def Df(t u:TS):TS:=λD σ H=>t { D with nx:=u D } σ H
def vT:jf X [] xW:=λ_ _ σ H _ I h=>wpAny_execs_nil ⟨σ,H,I,h⟩
def aj(h1:PS X st t)(h2:jf X rest u):jf X (st::rest) (Df t u):=by
 intro pins s σ H D I h;refine wpAny_execs_cons (aV (h1 s σ H { D with nx:=u D } I h) λf B q=>?_);cases f with
 | next=>obtain⟨σ',H',M,q⟩:=q;exact h2 B σ' H' D M q
 | ret v=>exact q
 | brk=>exact q
 | cont=>exact q
def bF(h1:PS X st t):jf X [st] t:=by
 intro pins s σ H D I h;refine wpAny_execs_cons (aV (h1 s σ H D I h) λf B q=>?_);cases f with
 | next=>exact wpAny_execs_nil q
 | ret v=>exact q
 | brk=>exact q
 | cont=>exact q
def Inv.quiet(I:Inv X pins σ H s):interactive X.env=false:=by simp[interactive,I.ok.kind]
def Dl(te:TE):TS:=λD σ H=>te σ H λ_ H1=>D.nx σ H1
def d6(M:PE X e te)(hs:swapsWith e none pos.line X.env=pure false:=by rfl):PS X (.Expr e pos) (Dl te):=by intro pins s σ H D I h;exact wpAny_Expr_any (aV (M s σ H _ I h) λv O ⟨x,H1,N,S,B⟩=>⟨σ,H1,N,B⟩) I.quiet hs
def Dg(te:TE):TS:=λD σ H=>te σ H D.rt
def Bs(N:PE X e te):PS X (.Return (some e) pos) (Dg te):=by intro pins s σ H D I h;exact wpAny_Return_some (aV (N s σ H _ I h) λv S ⟨x,H1,O,B,M⟩=>⟨x,σ,H1,O,B,M⟩)
def Dk(c:TT)(t u:TS):TS:=λD σ H=>c σ H λb H1=>if b=true then t D σ H1 else u D σ H1
def qo(O:PT X c tc)(U:jf X a t)(S:jf X b u):PS X (.If c a b pos) (Dk tc t u):=by
 intro pins s σ H D I h;refine wpAny_If (aV (O s σ H _ I h) λd B ⟨H1,N,M⟩=>?_);cases d with
 | true=>exact U B σ H1 D N M
 | false=>exact S B σ H1 D N M
def yR:TS:=λ_ _ _=>False
def dF:PS X st yR:=λ_ _ _ _ _ _ h=>h.elim
end
abbrev TG:=V->St->Hp->(St->Hp->Prop)->Prop
abbrev C4:=List V->St->Hp->(St->Hp->Prop)->Prop
def PG(X:Cx)(target:Expr)(t:TG):Prop:=
 ∀(pins:List (Addr×Obj)) (s:Shared) (σ:St) (H:Hp) (v:V) (u:Value) (Q:St->Hp->Prop),Inv X pins σ H s->RelV v u->t v σ H Q ->
  wpAny (model X.prog X.w) X.A (assign target X.env u) (λ_ s'=>NP X pins Q s') X.xe s
def C5(X:Cx)(ts:List Expr)(t:C4):Prop:=
 ∀(pins:List (Addr×Obj)) (s:Shared) (σ:St) (H:Hp) (vs:List V) (us:List Value) (Q:St->Hp->Prop),Inv X pins σ H s->Vals vs us->t vs σ H Q ->
  wpAny (model X.prog X.w) X.A (assignInOrder ((assignEach ts X.env).map (·.2)) us) (λ_ s'=>NP X pins Q s') X.xe s
abbrev Ko:=V->V->V->Hp->(Hp->Prop)->Prop
def Ks(X:Cx)(t:Ko):Prop:=
 ∀(pins:List (Addr×Obj)) (s:Shared) (σ:St) (H:Hp) (o i v:V) (B I u:Value) (Q:Hp->Prop),Inv X pins σ H s->RelV o B->RelV i I->RelV v u->t o i v H Q ->
  wpAny (model X.prog X.w) X.A (setItem B I u) (λ_ s'=>∃ H',Inv X pins σ H' s'/\Q H') X.xe s
section
variable {pos:Pos}
def iA(i:Nat):TG:=λv σ H Q=>Q (σ.set i (some v)) H
def kg{i:Nat}(O:X.N.Nodup)(hi:X.N[i]? = some x)(B:Loc X.env.scope x)(M:X.fn x=true\/X.env.scope.names.lookup x=some .local:=by walk_at "a"):PG X (.Name x pos) (iA i):=by intro pins s σ H v u Q I r h;exact wpAny_assign_Name (mV I O hi B r (λs' S=>⟨_,H,S,h⟩) M)
def VG:C4:=λvs σ H Q=>vs=[]/\Q σ H
inductive Ke(t:TG)(u:C4)(vs:List V)(σ:St)(H:Hp)(Q:St->Hp->Prop):Prop
 |mk(v:V)(r:List V)(_:vs=v::r)(_:t v σ H λσ' H'=>u r σ' H' Q)
def jq:C5 X [] VG:=by intro pins s σ H vs us Q I r h;obtain⟨e,h⟩:=h;subst e;cases r;exact assignInOrder_nil ⟨σ,H,I,h⟩
theorem cF(h1:PG X e t)(h2:C5 X es u)
  (hs:(assignEach (e::es) X.env).map (·.2)=assign e X.env::(assignEach es X.env).map (·.2):=by rfl):C5 X (e::es) (Ke t u):=by
 intro pins s σ H vs us Q I r h;obtain⟨v,U,O,h⟩:=h;subst O;cases r with
 | cons r M=>rw[hs];refine assignInOrder_cons (aV (h1 pins s σ H _ _ _ I r h) λ_ B ⟨σ1,H1,S,N⟩=>?_);exact h2 pins B σ1 H1 _ _ Q S M N
inductive Kd(K:Fg)(n:Nat)(t:C4)(v:V)(σ:St)(H:Hp)(Q:St->Hp->Prop):Prop
 |mk(a:Addr)(xs:List V)(_:v = .ref a)(_:au K H a xs)(_:xs.length=n)(_:t xs σ H Q)
def IE{k:Nat}{n:Nat}(Y:X.calm=true)(h:C5 X es t)
  (U:(assignEach es X.env).length=n:=by rfl) (B:(assignEach es X.env).findIdx? (·.1)=none:=by rfl):PG X (.Tuple es k pos) (Kd X.K n t):=by
 intro pins s σ H v u Q I r hw;obtain⟨a,xs,Z,hq,W,hw⟩:=hw;subst Z;cases r;obtain⟨N,M,S,hz⟩:=I.tuple hq;refine assign_Tuple_tuple (I.ok.hd Y) S (by simp[U,<- W,M.length]) B λh' O=>?_;have I1:Inv X pins σ H { s with heap:=h' }:=I.kept (t':=s.toks) λb o e=>O b o (WN (ZW e)) e;exact h pins _ σ H xs _ Q I1 (by simpa using M) hw
def VF(to B:TE)(t:Ko):TG:=λv σ H Q=>to σ H λo H1=>B σ H1 λi H2=>t o i v H2 λI=>Q σ I
def qB(ho:PE X o to)(hi:PE X i ti)(hs:Ks X t)
  (ha:∀ v,assign (.Subscript o i pos) X.env v=(do
   let B <- holding [v] (eval o X.env)
   let M <- holding [v,B] (eval i X.env)
   standAt pos
   holding [v,B,M] (setItem B M v)
   release [v,B,M] []):=by intro _;rfl):PG X (.Subscript o i pos) (VF to ti t):=by
 intro pins s σ H v u Q I r h;rw[ha];refine ZA (YU (aV (ho s σ H _ I h) ?_));rintro B O ⟨x,H1,I1,U,Z⟩;refine ZA (YU (aV (hi O σ H1 _ I1 Z) ?_));rintro M N ⟨y,H2,I2,S,Y⟩;refine ZA (wpAny_standAt (ZA (YU (aV (hs pins N σ H2 x y v B M u _ I2 U S r Y) ?_))));rintro _ s3 ⟨H3,I3,W⟩;exact wpAny_release ⟨σ,H3,I3,W⟩
def yX(te:TE)(g:TG):TS:=λD σ H=>te σ H λx H1=>g x σ H1 D.nx
def HI(S:PE X e te)(O:PG X tg g)(hs:swapsWithSole [tg] e pos.line X.env=pure false:=by rfl)(hw:swappedStores [tg] e X.env=pure none:=by rfl)
  (h1:(assignEach [tg] X.env).map (·.2)=[assign tg X.env]:=by rfl):PS X (.Assign [tg] e pos) (yX te g):=by
 intro pins s σ H D I h;refine wpAny_Assign_stores (aV (S s σ H _ I h) λv B ⟨x,H1,U,M,N⟩=>?_) hs hw;rw[h1];exact aV (O pins B σ H1 x v _ U M N) λ_ W q=>q
def Br{i:Nat}(W:X.N.Nodup)(hi:X.N[i]? = some x)(O:Loc X.env.scope x)(U:PE X e te)(hs:swapsWith e (some (.Name x pos')) pos.line X.env=pure false:=by rfl)(S:X.fn x=true\/X.env.scope.names.lookup x=some .local:=by walk_at "a") :
  PS X (.Assign [.Name x pos'] e pos) (yX te (iA i)):=by
 intro pins s σ H D I h;refine wpAny_Assign_Name (aV (U s σ H _ I h) λv s1 ⟨y,H1,Y,B,M⟩=>?_) hs;exact mV Y W hi O B (λZ I2=>⟨_,H1,I2,M⟩) S
def LV(i j:Nat)(ta:TA):TS:=λD σ H=>ta σ H λvs H1=>aO λv w=>vs=[v,w]/\D.nx ((σ.set i (some v)).set j (some w)) H1
def Bt{i j:Nat}{kt k2 Tq}(hc:X.calm=true)(hN:X.N.Nodup)(hi:X.N[i]? = some x)(hj:X.N[j]? = some y)(W:i≠j)
  (Z:X.env.scope.names.lookup x=some .local) (Y:X.env.scope.names.lookup y=some .local) (ha:PA X [a,b] ta)
  (hw:swappedStores [.Tuple [.Name x px,.Name y py] kt pt] (.Tuple [a,b] k2 Tq) X.env=pure (some [x,y]))
  (hs:swapsWithSole [.Tuple [.Name x px,.Name y py] kt pt] (.Tuple [a,b] k2 Tq) pos.line X.env=pure false:=by rfl) :
  PS X (.Assign [.Tuple [.Name x px,.Name y py] kt pt] (.Tuple [a,b] k2 Tq) pos) (LV i j ta):=by
 intro pins s σ H D I h;rw[exec_Assign_arm];refine ZA (wpAny_standAt ?_);rw[hs];refine ZA (ZO ?_);rw[ZJ ∅];refine ZA (Tuple_ (aV (ha pins s σ H _ I h) λus O ⟨vs,H1,I1,r1,S⟩=>?_));obtain⟨v,w,e1,S⟩:=S;subst e1;obtain⟨M,B,rfl,rv,Yw⟩:aO λM B=>aP (us=[M,B]) (RelV v M) (RelV w B):= by
  cases r1 with
  | cons p q=>
   cases q with
   | cons p' q'=>cases q';exact⟨_,_,J,p,p'⟩
 refine YZ ?_ (by show 2<=sizeLine;decide);have I2:Inv X pins σ H1 { O with heap:=O.heap.push { cls:=.type "tuple", data:=.seq [M,B].toArray } }:=I1.kept (t':=O.toks) λb o e=>ZE _ e;rw[hw];refine ZA (ZO ?_);show wpAny (model X.prog X.w) X.A (do rule "assign.swapped-stores"; let items <- unpackItems (.ref O.heap.objs.size) 2 none;assignInOrder [λv=>bindName X.env y v,λv=>bindName X.env x v] items.reverse;pure Flow.next) _ _ _;refine ZA (wpAny_rule (ZA (unpackItems_tuple (items:=#[M,B]) (I.ok.hd hc) (IsTup.new O.heap _) λh' U=>?_)));have I3:=I2.kept (h':=h') (t':=O.toks) λb o e=>U b o (WN (ZW e)) e;show wpAny _ _ (assignInOrder [λv=>bindName X.env y v,λv=>bindName X.env x v] [B,M] >>= λ_=>pure Flow.next) _ _ _;refine ZA (assignInOrder_cons (wpAny_bindName (mV I3 hN hj (.inl Y) Yw (λs2 I4=>?_) (.inr Y))));refine assignInOrder_cons (wpAny_bindName (mV I4 hN hi (.inl Z) rv (λs3 I5=>assignInOrder_nil (ZO ?_)) (.inr Z)));rw[set_comm _ _ (Ne.symm W)]at I5;exact⟨_,H1,I5,S⟩
end
section
variable {pos:Pos}
inductive u7(c:TT)(tb:TS)(D:Ends)(σ:St)(H:Hp):Prop
 |mk(W:Nat->St->Hp->Prop)(_:(∃ m,W m σ H))(_:∀ m σ H,W m σ H->c σ H λb H1=>if b=true then ∃ N:St->Hp->Prop,(∀ σ' H',N σ' H' -> ∃ m',m'<m/\W m' σ' H')/\tb { D with nx:=N,ct:=N,bk:=D.nx } σ H1 else D.nx σ H1)
def vy(hp:PassesOwn (model X.prog X.w) X.A X.env X.xe)(hc:PT X c tc)(hb:jf X body tb):PS X (.While c body [] pos) (u7 tc tb):=by
 intro pins s σ H D I h;obtain⟨W,⟨m0,w0⟩,turn⟩:=h;refine wpAny_While (codeAny_whileLoop (λn s'=>aO λσ' H'=>Inv X pins σ' H' s'/\W n σ' H') ?_ m0 ⟨σ,H,I,w0⟩);rintro n s1 ⟨σ1,H1,I1,w1⟩;refine wpAny_passesOwn hp (aV (hc s1 σ1 H1 _ I1 (turn n σ1 H1 w1)) λb s2 ⟨H2,I2,O⟩=>?_);cases b with
 | true=>
  obtain⟨N,Z,O⟩:=O;rw[ZL J];refine wpAny_passesOwn hp (aV (hb s2 σ1 H2 _ I2 O) λf s3 M=>?_);cases f with
  | next=>obtain⟨σ3,B,I3,U⟩:=M;obtain⟨Y,hm,S⟩:=Z σ3 B U;exact⟨Y,hm,σ3,B,I3,S⟩
  | cont=>obtain⟨σ3,B,I3,U⟩:=M;obtain⟨Y,hm,S⟩:=Z σ3 B U;exact⟨Y,hm,σ3,B,I3,S⟩
  | brk=>exact M
  | ret v=>exact M
 | false=>rw[ZJ fnt];exact wpAny_execs_nil ⟨σ1,H2,I2,O⟩
end
structure It where
 go:Nat->Hp->Prop
 fF:Nat->Hp->V->Hp->Prop
 stop:Nat->Hp->Prop
def dP(X:Cx)(pins:List (Addr×Obj))(H:Hp)(b:Addr):Prop:=
 H b=none/\b≠X.env.locals/\b ∉ X.fs/\(b∈X.ex\/X.s₀.heap.objs.size<=b)/\(∀ x c,X.env.cells.lookup x=some c->c≠b) /\ ∀ p∈X.pn++pins,p.1≠b
def Inv.lu{s:Shared}(I:Inv X pins σ H s)(B:s.heap.objs.size<=b)(M:H' b=none):dP X pins H' b:=by
 refine⟨M,Nat.ne_of_gt (WG I.lt B),I.Tv B,.inr (ZT I.sz B),λx c e z=>?_,λp hp z=>?_⟩
 ·obtain⟨v,q⟩:=I.cell x c e;exact absurd (WG q.lt (by rw[z];exact B)) (Nat.lt_irrefl _)
 ·exact absurd (WG (ZW (I.pin p hp).1) (by rw[z];exact B)) (Nat.lt_irrefl _)
structure Turn(P:Program)(w:World)(K:Fg)(tg:Expr)(JJ:It)(fp:List Addr)(it:Addr)(tn:Nat->Heap->Prop):Prop where
 mem:it∈fp
 obj:∀ i h,tn i h -> ∀ b∈fp,∃ o,h.get? b=some o /\ ∀ v,o.data ≠ .cell v
 keep:∀ i h h',tn i h->(∀ b∈fp,∀ o,h.get? b=some o->h'.get? b=some o)->tn i h'
 item:∀(X:Cx),X.prog=P->X.w=w->X.K=K->X.calm=true -> ∀(i:Nat) (pins:List (Addr×Obj)) (s:Shared) (σ:St) (H:Hp) (E:VS),Inv X pins σ H s->(∀ b∈fp,dP X pins H b)->tn i s.heap->JJ.go i H ->
  wpAny (model P w) X.A (pyNext (.ref it)) (λr s1=>∃ u,r=some u /\
   wpAny (model P w) X.A (letOwnedTupleGo tg (.ref it) u) (λ_ s2=>aO λx H'=>dw (Inv X pins σ H' s2) (RelV x u) (JJ.fF i H x H') (tn (i+1) s2.heap) (∀ b∈fp,H' b=none)) E s1) E s
 done:∀(X:Cx),X.prog=P->X.w=w->X.K=K->X.calm=true -> ∀(i:Nat) (pins:List (Addr×Obj)) (s:Shared) (σ:St) (H:Hp) (E:VS),Inv X pins σ H s->(∀ b∈fp,dP X pins H b)->tn i s.heap->JJ.stop i H ->
  wpAny (model P w) X.A (pyNext (.ref it)) (λr s1=>r=none/\Inv X pins σ H s1) E s
 self:∀(A:Around)(i:Nat)(s:Shared)(Q:VS)(E:VS),tn i s.heap->Q (.ref it) s->wpAny (model P w) A (pyIter (.ref it)) Q E s
abbrev TI:=St->Hp->(It->Hp->Prop)->Prop
inductive XT(X:Cx)(pins:List (Addr×Obj))(σ:St)(tg:Expr)(R:It->Hp->Prop)(itv:Value)(s2:Shared):Prop
 |mk(it:Addr)(fp:List Addr)(tn:Nat->Heap->Prop)(JJ:It)(H':Hp)(_:itv = .ref it)(_:Inv X pins σ H' s2)(_:Turn X.prog X.w X.K tg JJ fp it tn)(_:tn 0 s2.heap)(_:∀ b∈fp,dP X pins H' b)(_:R JJ H')
def PI(X:Cx)(tg B:Expr)(I:TI):Prop:=
 ∀⦃pins:List (Addr×Obj)⦄ (s:Shared) (σ:St) (H:Hp) (R:It->Hp->Prop),Inv X pins σ H s->I σ H R ->
  wpAny (model X.prog X.w) X.A (eval B X.env) (λv M=>wpAny (model X.prog X.w) X.A (pyIter v) (XT X pins σ tg R) X.xe M) X.xe s
def jM{s:Shared}{o:Obj}(I:s.heap.get? it=some o)(O:o.cls = .type n)(hd:o.data = .fields vs)
  (N:["enumerate", "zip", "dict_itemiterator", "dict_reverseitemiterator", "odict_iterator", "itertools.zip_longest", "itertools.pairwise"].contains n=false) (B:Q () s):wpAny M A (letOwnedTupleGo tg (.ref it) u) Q E s:=by
 unfold letOwnedTupleGo;cases tg <;> first
  | exact ZO B
  | (cases u <;> first
    | exact ZO B
    | (refine ZA (wpAny_load I ?_)
       rw[O,hd];show wpAny M A (if(["enumerate", "zip", "dict_itemiterator", "dict_reverseitemiterator", "odict_iterator", "itertools.zip_longest", "itertools.pairwise"].contains n&&vs[0]?==some (rawInt _))=true then _ else _) Q E s;rw[ZJ (by intro h;rw[N,bd]at h;cases h)];exact ZO B))
def fj(K:Fg)(a:Addr):It:=
 ⟨λi H=>aO λxs x=>ao K H a xs/\xs[i]? = some x,λi H x H'=>H'=H /\ ∀ xs,ao K H a xs->xs[i]? = some x,λi H=>∃ xs,ao K H a xs/\xs.length<=i⟩
def yC(K:Fg)(a:Addr):It:=
 ⟨λi H=>aO λxs x=>au K H a xs/\xs[i]? = some x,λi H x H'=>H'=H /\ ∀ xs,au K H a xs->xs[i]? = some x,λi H=>∃ xs,au K H a xs/\xs.length<=i⟩
def nW(lo:Int)(n:Nat):It:=⟨λi _=>i<n,λi H x H'=>H'=H/\x = .int (lo+i),λi _=>n<=i⟩
def NC{P:Program}{w:World}{K:Fg}{tg:Expr}(a B:Addr):Turn P w K tg (fj K a) [B] B (λi h=>h.IsListIter B a i) where
 mem:=by simp
 obj:=λi h st b M=>by
  have e:b=B:=by simpa using M
  subst e;obtain⟨o,e,c,d⟩:=st;exact⟨o,e,λv z=>by rw[d]at z;cases z⟩
 keep:=λi h h' st k=>st.at λo e=>k B (by simp) o e
 item:=by
  intro X Z hw hK hc i pins s σ H E I O st Y;subst Z hw hK;obtain⟨xs,x,hq,W⟩:=Y;obtain⟨U,S,p,hz⟩:=I.list hq;obtain⟨u,hu,ru⟩:=S.get W;obtain⟨f0,f1,f2,f3,f4,f5⟩:=O B (by simp);refine wpAny_pyNext_list_item st p.isList (x:=u) (by simpa using hu) λh' N sb=>?_;have I1:Inv X pins σ H { s with heap:=h' }:=I.turned (t':=s.toks) (λb o M e=>(sb.2 b M).trans e) f0 f1 f3 f4 f5;obtain⟨o,e,c,d⟩:=id N;exact⟨u,J,jM (s:={ s with heap:=h' }) e c d ∅ ⟨x,H,I1,ru,⟨J,λys hy=>by rw[I.jH hy hq];exact W⟩,N,λb M=>(O b M).1⟩⟩
 done:=by intro X Z hw hK hc i pins s σ H E I O st Y;subst Z hw hK;obtain⟨xs,hq,W⟩:=Y;obtain⟨U,S,p,hz⟩:=I.list hq;obtain⟨f0,f1,f2,f3,f4,f5⟩:=O B (by simp);have hl:=S.length;exact wpAny_pyNext_list_end (I.ok.hd hc) st p.isList (by simp;lia) λh' eb=>⟨J,I.turned (t':=s.toks) (λb o M e=>eb b o M e) f0 f1 f3 f4 f5⟩
 self:=λ_ _ _ _ _ st h=>wpAny_pyIter_listiter st h
def OW{P:Program}{w:World}{K:Fg}{tg:Expr}(a M:Addr):Turn P w K tg (yC K a) [M] M (λi h=>h.IsTupleIter M a i) where
 mem:=by simp
 obj:=λi h st b N=>by
  have e:b=M:=by simpa using N
  subst e;obtain⟨o,e,c,d⟩:=st;exact⟨o,e,λv z=>by rw[d]at z;cases z⟩
 keep:=λi h h' st k=>st.at λo e=>k M (by simp) o e
 item:=by
  intro X Z hw hK hc i pins s σ H E I S st Y;subst Z hw hK;obtain⟨xs,x,hq,W⟩:=Y;obtain⟨B,U,p,hz⟩:=I.tuple hq;obtain⟨u,hu,ru⟩:=U.get W;obtain⟨f0,f1,f2,f3,f4,f5⟩:=S M (by simp);refine wpAny_pyNext_tuple_item st (show s.heap.IsTuple a B.toArray from p) (x:=u) (by simpa using hu) λh' O sb=>?_;have I1:Inv X pins σ H { s with heap:=h' }:=I.turned (t':=s.toks) (λb o N e=>(sb.2 b N).trans e) f0 f1 f3 f4 f5;obtain⟨o,e,c,d⟩:=id O;exact⟨u,J,jM (s:={ s with heap:=h' }) e c d ∅ ⟨x,H,I1,ru,⟨J,λys hy=>by rw[I.eV hy hq];exact W⟩,O,λb N=>(S b N).1⟩⟩
 done:=by intro X Z hw hK hc i pins s σ H E I S st Y;subst Z hw hK;obtain⟨xs,hq,W⟩:=Y;obtain⟨B,U,p,hz⟩:=I.tuple hq;obtain⟨f0,f1,f2,f3,f4,f5⟩:=S M (by simp);have hl:=U.length;exact wpAny_pyNext_tuple_end (I.ok.hd hc) st (show s.heap.IsTuple a B.toArray from p) (by simp;lia) λh' eb=>⟨J,I.turned (t':=s.toks) (λb o N e=>eb b o N e) f0 f1 f3 f4 f5⟩
 self:=λ_ _ _ _ _ st h=>wpAny_pyIter_tupleiter st h
def OV{P:Program}{w:World}{K:Fg}{tg:Expr}(B:Addr)(lo:Int)(n:Nat):Turn P w K tg (nW lo n) [B] B (λi h=>IsRangeIter h B (lo+(i:Nat)*1) ((n:Int)-(i:Nat)) 1) where
 mem:=by simp
 obj:=λi h st b M=>by
  have e:b=B:=by simpa using M
  subst e;exact⟨_,st,λv z=>by
   have z':Data.fields _=Data.cell v:=z;cases z'⟩
 keep:=λi h h' st k=>k B (by simp) _ st
 item:=by
  intro X Y hw Z U i pins s σ H E I O st S;subst Y hw Z;obtain⟨f0,f1,f2,f3,f4,f5⟩:=O B (by simp);have W:=Walks.range (prog:=X.prog) (w:=X.w) (I.ok.hd U) B lo 1 n;refine W.item i s _ _ S st λv h' tk hv N kk=>?_;obtain⟨t,rfl⟩:=hv;have I1:Inv X pins σ H { s with heap:=h',toks:=tk }:=I.turned (λb o M e=>kk b o (by simpa using M) e) f0 f1 f3 f4 f5;refine⟨_,J,jM (s:={ s with heap:=h',toks:=tk }) (n := "range_iterator") N J J ∅ ⟨.int (lo+i),H,I1,⟨t,?_⟩,⟨J,J⟩,N,λb M=>(O b M).1⟩⟩;rw[Int.mul_one]
 done:=by intro X Y hw Z U i pins s σ H E I O st S;subst Y hw Z;obtain⟨f0,f1,f2,f3,f4,f5⟩:=O B (by simp);exact wpAny_pyNext_range_end (I.ok.hd U) st (by have:n<=i:=S;lia) λh' eb=>⟨J,I.turned (t':=s.toks) (λb o M e=>eb b o M e) f0 f1 f3 f4 f5⟩
 self:=λ_ _ _ _ _ st h=>wpAny_pyIter_rangeiter st h
section
variable {tg:Expr}
inductive Js(K:Fg)(x:V)(H:Hp)(R:It->Hp->Prop):Prop
 |mk(a:Addr)(_:x = .ref a)(_:∃ xs,ao K H a xs)(_:R (fj K a) H)
def Jz(K:Fg)(tl:TE):TI:=λσ H R=>tl σ H λx H1=>Js K x H1 R
inductive T9(K:Fg)(x:V)(H:Hp)(R:It->Hp->Prop):Prop
 |mk(a:Addr)(_:x = .ref a)(_:∃ xs,au K H a xs)(_:R (yC K a) H)
def Jw(K:Fg)(tl:TE):TI:=λσ H R=>tl σ H λx H1=>T9 K x H1 R
def cw{l:Expr}{tl:TE}(U:PE X l tl):PI X tg l (Jz X.K tl):=by
 intro pins s σ H R I h;refine aV (U s σ H _ I h) λv B ⟨x,H1,M,N,O⟩=>?_;obtain⟨a,e,⟨xs,hq⟩,q⟩:=O;subst e;cases N;obtain⟨S,Y,p,Z⟩:=M.list hq;refine wpAny_pyIter_list p.isList ?_;refine⟨B.heap.objs.size,[B.heap.objs.size],_,_,H1,J,M.kept (t':=B.toks) λb o e=>ZE _ e,NC a _,⟨_,ZY _ J,J,J⟩,λb W=>?_,q⟩;have e:b=B.heap.objs.size:=by simpa using W
 subst e;exact M.lu (ZF _) (M.aD.fresh (ZF _))
def mE{l:Expr}{tl:TE}(U:PE X l tl):PI X tg l (Jw X.K tl):=by
 intro pins s σ H R I h;refine aV (U s σ H _ I h) λv B ⟨x,H1,M,O,S⟩=>?_;obtain⟨a,e,⟨xs,hq⟩,q⟩:=S;subst e;cases O;obtain⟨N,Y,p,Z⟩:=M.tuple hq;refine wpAny_pyIter_tuple (show B.heap.IsTuple a N.toArray from p) ?_;refine⟨B.heap.objs.size,[B.heap.objs.size],_,_,H1,J,M.kept (t':=B.toks) λb o e=>ZE _ e,OW a _,⟨_,ZY _ J,J,J⟩,λb W=>?_,q⟩;have e:b=B.heap.objs.size:=by simpa using W
 subst e;exact M.lu (ZF _) (M.aD.fresh (ZF _))
def Fj{s:Shared}{lo hi:Int}{t u v:Tok}{tk:Nat}(I:Inv X pins σ H s)(h1:-(2^62)<=lo)(h2:lo<2^62)(O:-(2^62)<=hi)(N:hi<2^62)
  (q:R (nW lo (hi-lo).toNat) H):wpAny (model X.prog X.w) X.A (pyIter (.ref s.heap.objs.size)) (XT X pins σ tg R) E { s with heap:=s.heap.push { cls:=.type "range", data:=.fields #[.int lo t,.int hi u,.int 1 v] },toks:=tk }:=by
 refine wpAny_pyIter_range (IsRange.new ..) (small_one h1 h2 O N) ?_;have B:Inv X pins σ H { s with heap:=s.heap.push { cls:=.type "range", data:=.fields #[.int lo t,.int hi u,.int 1 v] },toks:=tk }:=I.kept λb o e=>ZE _ e;refine⟨(s.heap.push { cls:=.type "range", data:=.fields #[.int lo t,.int hi u,.int 1 v] }).objs.size,[(s.heap.push { cls:=.type "range", data:=.fields #[.int lo t,.int hi u,.int 1 v] }).objs.size],_,_,H,J,
  B.kept (t':=tk) λb o e=>ZE _ e,OV _ lo (hi-lo).toNat,?_,λb M=>?_,q⟩
 ·have U:lo+((0:Nat):Int)*1=lo:=by simp
  have S:(((hi-lo).toNat:Nat):Int)-((0:Nat):Int)=Builtin.Range.rangeSize lo hi 1:=by rw[rangeSize_one];split <;> lia
  show IsRangeIter _ _ (lo+((0:Nat):Int)*1) ((((hi-lo).toNat:Nat):Int)-((0:Nat):Int)) 1;rw[U,S];exact ZY _ J
 ·have e:b=(s.heap.push { cls:=.type "range", data:=.fields #[.int lo t,.int hi u,.int 1 v] }).objs.size:=by simpa using M
  subst e;exact B.lu (ZF _) (B.aD.fresh (ZF _))
inductive Jp(vs:List V)(H:Hp)(R:It->Hp->Prop):Prop
 |mk(j:Int)(_:vs=[.int j])(_:-(2^62)<=j)(_:j<2^62)(_:R (nW 0 j.toNat) H)
def Jy(ta:TA):TI:=λσ H R=>ta σ H λvs H1=>Jp vs H1 R
inductive Jo(vs:List V)(H:Hp)(R:It->Hp->Prop):Prop
 |mk(i j:Int)(_:vs=[.int i,.int j])(_:-(2^62)<=i/\i<2^62 /\ -(2^62)<=j/\j<2^62)(_:R (nW i (j-i).toNat) H)
def Jx(ta:TA):TI:=λσ H R=>ta σ H λvs H1=>Jo vs H1 R
def jo{p pos:Pos}(S:Gl X "range") (hm:X.mg "range" = none) (U:PA X [a] ta) (hs:starEach [a] X.env=[(false,eval a X.env)]:=by rfl):PI X tg (.Call (.Name "range" p) [a] [] pos) (Jy ta):=by
 intro pins s σ H R I h;refine Call_ (qd I S hm boot_range (PyProof.Rows.callWith_type1 (aV (U pins s σ H _ I h) λus Y ⟨vs,H1,W,N,B⟩=>?_) hs J));obtain⟨j,e,B,O,q⟩:=B;subst e;cases N with
 | cons r M=>cases M;obtain⟨t,rfl⟩:=r;exact call_range_1 (Fj W {} {} B O (by simpa using q))
def zV{p pos:Pos}(Z:Gl X "range") (hm:X.mg "range" = none) (ha:PA X [a,b] ta) (hs:starEach [a,b] X.env=[(false,eval a X.env),(false,eval b X.env)]:=by rfl) (B:starEach [b] X.env=[(false,eval b X.env)]:=by rfl) :
  PI X tg (.Call (.Name "range" p) [a,b] [] pos) (Jx ta):=by
 intro pins s σ H R I h;refine Call_ (qd I Z hm boot_range (PyProof.Rows.callWith_type1 (aV (ha pins s σ H _ I h) λus s1 ⟨vs,H1,I1,O,N⟩=>?_) (by rw[hs,B]) (by rw[B];rfl)));obtain⟨i,j,e,⟨N,Y,W,U⟩,q⟩:=N;subst e;cases O with
 | cons r M=>
  cases M with
  | cons S M=>cases M;obtain⟨t,rfl⟩:=r;obtain⟨t',rfl⟩:=S;exact call_range_2 (Fj I1 N Y W U q)
def L0(M:TI)(g:TG)(tb:TS):TS:=λD σ H=>M σ H λB H1=>∃ W:Nat->Nat->St->Hp->Prop,(∃ m,W 0 m σ H1) /\ ∀ i m σ H,W i m σ H ->
 (B.stop i H/\D.nx σ H)\/(B.go i H /\ ∃ N:St->Hp->Prop,(∀ σ' H',N σ' H' -> ∃ I,I<m/\W (i+1) I σ' H') /\ ∀ x H',B.fF i H x H'->g x σ H' λσ2 H2=>tb { D with nx:=N,ct:=N,bk:=D.nx } σ2 H2)
def u6(B:List Addr)(h:Heap):List (Addr×Obj):=B.filterMap λb=>(h.get? b).map λo=>(b,o)
def m_{h:Heap}(B:b∈fp)(e:h.get? b=some o):(b,o)∈u6 fp h:=List.mem_filterMap.mpr ⟨b,B,by rw[e];rfl⟩
def Ew{h:Heap}{p:Addr×Obj}(hp:p∈u6 fp h):p.1∈fp/\h.get? p.1=some p.2:=by
 obtain⟨b,B,e⟩:=List.mem_filterMap.mp hp;cases q:h.get? b with
 | none=>rw[q]at e;cases e
 | some o=>rw[q]at e;have I:(b,o)=p:=am e;subst I;exact⟨B,q⟩
def Inv.pinned{s:Shared}(I:Inv X pins σ H s)(O:∀ b∈fp,dP X pins H b)(N:∀ b∈fp,∃ o,s.heap.get? b=some o /\ ∀ v,o.data ≠ .cell v):Inv X (pins++u6 fp s.heap) σ H s:=
 I.lY λp hp=>(eC hp).elim (λz=>I.pin p (WI _ z)) λz=>by
  obtain⟨B,e⟩:=Ew z;obtain⟨U,S,f2,_⟩:=O p.1 B;obtain⟨o,M,d⟩:=N p.1 B;rw[e]at M;cases M;exact⟨e,U,S,f2,d⟩
def Inv.dg(I:Inv X (pins++pl) σ H s):Inv X pins σ H s:=I.lY λp hp=>I.pin p (WI _ (mem_append_left _ hp))
def pO{pos:Pos}(hp:PassesOwn (model X.prog X.w) X.A X.env X.xe)(hc:X.calm=true)(hi:PI X tg ff wi)(hg:PG X tg g)(M:jf X body tb)
  (hs:∀ x,foldedSetIterable ff X.env x=pure x:=by intro _;rfl):PS X (.For tg ff body [] pos) (L0 wi g tb):=by
 intro pins s σ H D I h;refine wpAny_For (aV (hi s σ H _ I h) λv s1 h1=>aV h1 λitv s2 h2=>?_) hs;obtain⟨it,fp,tn,JJ,H2,e,I2,T,oX,f2,W,⟨m0,w0⟩,turn⟩:=h2;subst e;have B:∀{H':Hp},(∀ b∈fp,H' b=none) -> ∀ b∈fp,dP X pins H' b:=λhn b M=>⟨hn b M,(f2 b M).2⟩
 refine codeAny_forLoop_any (λn s'=>bR λi σ' H'=>cP (Inv X pins σ' H' s') (tn i s'.heap) ((∀ b∈fp,H' b=none)) (W i n σ' H')) ?_ m0 ⟨0,σ,H2,I2,oX,λb M=>(f2 b M).1,w0⟩;rintro n s3 ⟨i,σ3,H3,I3,Z,Ls,w3⟩;rcases turn i n σ3 H3 w3 with ⟨stop,qn⟩ | ⟨go,N,hN,step⟩
 ·refine wpAny_passesOwn hp (aV (T.done X J J J hc i pins s3 σ3 H3 X.xe I3 (B Ls) Z stop) ?_);rintro r s4 ⟨rfl,I4⟩;exact wpAny_execs_nil ⟨σ3,H3,I4,qn⟩
 ·refine wpAny_passesOwn hp (aV (T.item X J J J hc i pins s3 σ3 H3 X.xe I3 (B Ls) Z go) ?_);rintro r s4 ⟨u,rfl,h4⟩;refine wpAny_passesOwn hp (aV h4 ?_);rintro _ s5 ⟨x,H5,I5,r5,y5,Y,fr5⟩;have I5':=I5.pinned (B fr5) (T.obj _ _ Y);refine wpAny_passesOwn hp (aV (hg _ s5 σ3 H5 x u _ I5' r5 (step x H5 y5)) ?_);rintro _ s6 ⟨σ6,H6,I6,q6⟩;refine wpAny_passesOwn hp (aV (M s6 σ6 H6 _ I6 q6) λf s7 U=>?_);have again:∀{σ7:St}{S:Hp},Inv X (pins++u6 fp s5.heap) σ7 S s7->N σ7 S -> ∃ m,m<n/\bR λi σ' H'=>cP (Inv X pins σ' H' s7) (tn i s7.heap) ((∀ b∈fp,H' b=none)) (W i m σ' H'):= fun {σ7 S} O n7=>by
   obtain⟨m',hm,w7⟩:=hN σ7 S n7;refine⟨m',hm,i+1,σ7,S,O.dg,T.keep _ _ _ Y λb M o e=>(O.pin (b,o) (WI _ (WI _ (m_ M e)))).1,λb M=>?_,w7⟩;obtain⟨o,e,d⟩:=T.obj _ _ Y b M;exact(O.pin (b,o) (WI _ (WI _ (m_ M e)))).2.1
  cases f with
  | next=>obtain⟨σ7,S,O,n7⟩:=U;exact again O n7
  | cont=>obtain⟨σ7,S,O,n7⟩:=U;exact again O n7
  | brk=>obtain⟨σ7,S,O,U⟩:=U;exact⟨σ7,S,O.dg,U⟩
  | ret v=>obtain⟨x7,σ7,S,O,r7,U⟩:=U;exact⟨x7,σ7,S,O.dg,r7,U⟩
end
def iT{K:Fg}{a:Addr}{xs:List V}{g:TG}{tb:TS}{D:Ends}{σ:St}{H:Hp}(Pv:Nat->St->Hp->Prop)(S:Pv 0 σ H)(O:∀ i σ H,i<=xs.length->Pv i σ H->ao K H a xs)
  (hs:∀ i x σ H,xs[i]? = some x->Pv i σ H->g x σ H λσ2 H2=>tb { D with nx:=Pv (i+1),ct:=Pv (i+1),bk:=D.nx } σ2 H2) (hd:∀ σ H,Pv xs.length σ H->D.nx σ H) :
  ∃ W:Nat->Nat->St->Hp->Prop,(∃ m,W 0 m σ H) /\ ∀ i m σ H,W i m σ H ->
   ((fj K a).stop i H/\D.nx σ H)\/((fj K a).go i H /\ ∃ N:St->Hp->Prop,(∀ σ' H',N σ' H' -> ∃ I,I<m/\W (i+1) I σ' H') /\ ∀ x H',(fj K a).fF i H x H'->g x σ H' λσ2 H2=>tb { D with nx:=N,ct:=N,bk:=D.nx } σ2 H2):=by
 exists λi m σ H=>m=xs.length-i/\i<=xs.length/\Pv i σ H,⟨xs.length,by simp,ZX _,S⟩
 rintro i m σ H ⟨rfl,hi,p⟩;have q:=O i σ H hi p;by_cases B:i<xs.length
 ·refine .inr ⟨⟨xs,xs[i],q,by simp[B]⟩,Pv (i+1),λσ' H' M=>⟨xs.length-(i+1),{},J,B,M⟩,λx H' y=>?_⟩;obtain⟨e,y⟩:=y;subst e;exact hs i x σ _ (y xs q) p
 ·have e:i=xs.length:={}
  subst e;exact .inl ⟨⟨xs,q,ZF _⟩,hd σ H p⟩
def kI{K:Fg}{a:Addr}{xs:List V}{g:TG}{tb:TS}{D:Ends}{σ:St}{H:Hp}(Pv:Nat->St->Hp->Prop)(S:Pv 0 σ H)(O:∀ i σ H,i<=xs.length->Pv i σ H->au K H a xs)
  (hs:∀ i x σ H,xs[i]? = some x->Pv i σ H->g x σ H λσ2 H2=>tb { D with nx:=Pv (i+1),ct:=Pv (i+1),bk:=D.nx } σ2 H2) (hd:∀ σ H,Pv xs.length σ H->D.nx σ H) :
  ∃ W:Nat->Nat->St->Hp->Prop,(∃ m,W 0 m σ H) /\ ∀ i m σ H,W i m σ H ->
   ((yC K a).stop i H/\D.nx σ H)\/((yC K a).go i H /\ ∃ N:St->Hp->Prop,(∀ σ' H',N σ' H' -> ∃ I,I<m/\W (i+1) I σ' H') /\ ∀ x H',(yC K a).fF i H x H'->g x σ H' λσ2 H2=>tb { D with nx:=N,ct:=N,bk:=D.nx } σ2 H2):=by
 exists λi m σ H=>m=xs.length-i/\i<=xs.length/\Pv i σ H,⟨xs.length,by simp,ZX _,S⟩
 rintro i m σ H ⟨rfl,hi,p⟩;have q:=O i σ H hi p;by_cases B:i<xs.length
 ·refine .inr ⟨⟨xs,xs[i],q,by simp[B]⟩,Pv (i+1),λσ' H' M=>⟨xs.length-(i+1),{},J,B,M⟩,λx H' y=>?_⟩;obtain⟨e,y⟩:=y;subst e;exact hs i x σ _ (y xs q) p
 ·have e:i=xs.length:={}
  subst e;exact .inl ⟨⟨xs,q,ZF _⟩,hd σ H p⟩
def Ed{lo:Int}{n:Nat}{g:TG}{tb:TS}{D:Ends}{σ:St}{H:Hp}(Pv:Nat->St->Hp->Prop)(O:Pv 0 σ H)
  (hs:∀ i σ H,i<n->Pv i σ H->g (.int (lo+i)) σ H λσ2 H2=>tb { D with nx:=Pv (i+1),ct:=Pv (i+1),bk:=D.nx } σ2 H2) (hd:∀ σ H,Pv n σ H->D.nx σ H) :
  ∃ W:Nat->Nat->St->Hp->Prop,(∃ m,W 0 m σ H) /\ ∀ i m σ H,W i m σ H ->
   ((nW lo n).stop i H/\D.nx σ H)\/((nW lo n).go i H /\ ∃ N:St->Hp->Prop,(∀ σ' H',N σ' H' -> ∃ I,I<m/\W (i+1) I σ' H') /\ ∀ x H',(nW lo n).fF i H x H'->g x σ H' λσ2 H2=>tb { D with nx:=N,ct:=N,bk:=D.nx } σ2 H2):=by
 exists λi m σ H=>m=n-i/\i<=n/\Pv i σ H,⟨n,by simp,ZX _,O⟩
 rintro i m σ H ⟨rfl,hi,p⟩;by_cases B:i<n
 ·refine .inr ⟨B,Pv (i+1),λσ' H' M=>⟨n-(i+1),{},J,B,M⟩,λx H' y=>?_⟩;obtain⟨e,y⟩:=y;subst e y;exact hs i σ _ B p
 ·have e:i=n:={}
  subst e;exact .inl ⟨ZF _,hd σ H p⟩
theorem u5(Pv:St->Hp->Prop)(μ:St->Hp->Nat)(M:Pv σ H)
  (hs:∀ σ H,Pv σ H->c σ H λb H1=>if b=true then tb { D with nx:=λσ' H'=>Pv σ' H'/\μ σ' H'<μ σ H,ct:=λσ' H'=>Pv σ' H'/\μ σ' H'<μ σ H,bk:=D.nx } σ H1 else D.nx σ H1)
  (mono:∀ σ H Q B,(∀ b H1,Q b H1->B b H1)->c σ H Q->c σ H B):u7 c tb D σ H:=by
 exists λm σ H=>m=μ σ H/\Pv σ H,⟨_,J,M⟩
 rintro m σ H ⟨rfl,p⟩;refine mono σ H _ _ (λb H1 q=>?_) (hs σ H p);cases b with
 | true=>exact⟨_,λσ' H' ⟨I,l⟩=>⟨_,l,J,I⟩,q⟩
 | false=>exact q
abbrev R2:=V->V->Hp->VK->Prop
def cy(X:Cx)(f:Value->Value->Sem Value)(r:R2):Prop:=
 ∀(pins:List (Addr×Obj)) (s:Shared) (σ:St) (H:Hp) (x y:V) (v u:Value) (Q:VK),Inv X pins σ H s->RelV x v->RelV y u->r x y H Q ->
  wpAny (model X.prog X.w) X.A (f v u) (EP X pins σ Q) X.xe s
def VU(X:Cx)(f:Value->Sem Value)(r:V->Hp->VK->Prop):Prop:=
 ∀(pins:List (Addr×Obj)) (s:Shared) (σ:St) (H:Hp) (x:V) (v:Value) (Q:VK),Inv X pins σ H s->RelV x v->r x H Q ->
  wpAny (model X.prog X.w) X.A (f v) (EP X pins σ Q) X.xe s
def b8(X:Cx)(f:Value)(r:List V->Hp->VK->Prop):Prop:=
 ∀(pins:List (Addr×Obj)) (s:Shared) (σ:St) (H:Hp) (xs:List V) (us:List Value) (Q:VK),Inv X pins σ H s->Vals xs us->r xs H Q ->
  wpAny (model X.prog X.w) X.A (call f us) (EP X pins σ Q) X.xe s
def tO(r:R2)(ta tb:TE):TE:=λσ H Q=>ta σ H λx H1=>tb σ H1 λy H2=>r x y H2 Q
def Wi(r:V->Hp->VK->Prop)(ta:TE):TE:=λσ H Q=>ta σ H λx H1=>r x H1 Q
inductive rI(C:Int->Int->Prop)(g:Int->Int->V)(x y:V)(H:Hp)(Q:VK):Prop
 |mk(i j:Int)(_:x = .int i)(_:y = .int j)(_:C i j)(_:Q (g i j) H)
inductive tR(g:Int->Int->V)(x y:V)(H:Hp)(Q:VK):Prop
 |mk(i j:Int)(_:x = .int i)(_:y = .int j)(_:Q (g i j) H)
inductive rU(g:Int->V)(x:V)(H:Hp)(Q:VK):Prop
 |mk(i)(_:x = .int i)(_:Q (g i) H)
section
variable{a b c:Expr}{ta tb tc:TE}{pos:Pos}
def Cm(Z:PE X a ta)(Y:PE X b tb){pins:List (Addr×Obj)}{s:Shared}{σ:St}{H:Hp}{R:V->V->Hp->Prop}(I:Inv X pins σ H s)
  (h:ta σ H λx H1=>tb σ H1 λy H2=>R x y H2) {Q:VS} {f:Value->Value->Sem Value}
  (W:∀ v u B x y H2,Inv X pins σ H2 B->RelV x v->RelV y u->R x y H2->wpAny (model X.prog X.w) X.A (f v u) Q X.xe B) :
  wpAny (model X.prog X.w) X.A (eval a X.env) (λv s₁=>wpAny (model X.prog X.w) X.A (eval b X.env) (λu s₂=>wpAny (model X.prog X.w) X.A (f v u) Q X.xe s₂) X.xe s₁) X.xe s:=by
 refine aV (Z s σ H _ I h) λv M ⟨x,H1,I1,O,U⟩=>?_;refine aV (Y M σ H1 _ I1 U) λu B ⟨y,H2,I2,N,S⟩=>?_;exact W v u B x y H2 I2 O N S
def ae{B:Operator}{r:R2}(S:cy X (binaryOp B) r)(W:PE X a ta)(U:PE X b tb):PE X (.BinOp a B b pos) (tO r ta tb):=by intro pins s σ H Q I h;exact wpAny_BinOp (Cm W U I h λv u M x y H2 I2 O N q=>S pins M σ H2 x y v u Q I2 O N q)
def lZ(O:VU X (unaryOp op) r)(S:PE X a ta):PE X (.UnaryOp op a pos) (Wi r ta):=by intro pins s σ H Q I h;exact UnaryOp_ (aV (S s σ H _ I h) λv B ⟨x,H1,U,M,N⟩=>O pins B σ H1 x v Q U M N)
def IW{f:Value->Value->Sem Value}{C:Int->Int->Prop}{g:Int->Int->Int}
  (rule:∀(i j:Int)(t u:Tok)(s:Shared)(Q:VS)(E:VS),C i j->Q (.int (g i j) s.toks) { s with toks:=s.toks+1 }->wpAny (model X.prog X.w) X.A (f (.int i t) (.int j u)) Q E s) :
  cy X f (rI C λi j=>.int (g i j)):=by
 intro pins s σ H x y v u Q I M B h;obtain⟨i,j,rfl,rfl,N,q⟩:=h;obtain⟨t,rfl⟩:=M;obtain⟨t',rfl⟩:=B;exact rule i j t t' s _ _ N ⟨.int (g i j),H,I.tok _,⟨_,J⟩,q⟩
def IV{f:Value->Value->Sem Value}{g:Int->Int->Int}
  (rule:∀(i j:Int)(t u:Tok)(s:Shared)(Q:VS)(E:VS),Q (.int (g i j) s.toks) { s with toks:=s.toks+1 }->wpAny (model X.prog X.w) X.A (f (.int i t) (.int j u)) Q E s) :
  cy X f (tR λi j=>.int (g i j)):=by
 intro pins s σ H x y v u Q I M B h;obtain⟨i,j,rfl,rfl,q⟩:=h;obtain⟨t,rfl⟩:=M;obtain⟨t',rfl⟩:=B;exact rule i j t t' s _ _ ⟨.int (g i j),H,I.tok _,⟨_,J⟩,q⟩
def wH{f:Value->Value->Sem Value}{g:Int->Int->Bool}
  (rule:∀(i j:Int)(t u:Tok)(s:Shared)(Q:VS)(E:VS),Q (.bool (g i j)) s->wpAny (model X.prog X.w) X.A (f (.int i t) (.int j u)) Q E s) :
  cy X f (tR λi j=>.bl (g i j)):=by
 intro pins s σ H x y v u Q I M B h;obtain⟨i,j,rfl,rfl,q⟩:=h;obtain⟨t,rfl⟩:=M;obtain⟨t',rfl⟩:=B;exact rule i j t t' s _ _ ⟨.bl (g i j),H,I,J,q⟩
def Kx(i j:Int):Prop:=0<=j/\j<=1000000/\i.natAbs<2^64
def Cp(i j:Int):Prop:=(-(2^64)<i/\i<2^64)\/(-(2^64)<j/\j<2^64)
def Cp.ok{i j:Int}(h:Cp i j):IntMulOk i j:=by
 rcases h with ⟨h1,h2⟩ | ⟨h1,h2⟩
 ·exact .of_left (intBits_le_64 h1 h2)
 ·exact .of_right (intBits_le_64 h1 h2)
def IA:cy X (binaryOp .Add) (tR λi j=>.int (i+j)):=IV λ_ _ _ _ _ _ _ q=>add_int q
def Eu:cy X (binaryOp .Sub) (tR λi j=>.int (i-j)):=IV λ_ _ _ _ _ _ _ q=>sub_int q
def m5:cy X (binaryOp .Mult) (rI Cp λi j=>.int (i*j)):=IW λ_ _ _ _ _ _ _ B q=>mul_int q B.ok
def js:cy X (binaryOp .Mod) (rI (λ_ j=>0<j) λi j=>.int (i%j)):=IW λi j _ _ _ _ _ B q=>by
 have h1:(0:Int)<j:=B;exact mod_int' {} (by rw[Int.fmod_eq_emod_of_nonneg i {}];exact q)
def Hu:cy X (binaryOp .Pow) (rI Kx λi j=>.int (i^j.toNat)):=IW λ_ _ _ _ _ _ _ B q=>pow_int_small B.1 B.2.1 B.2.2 q
def u4:cy X (binaryOp .LShift) (rI Kx λi j=>.int (i*2^j.toNat)):=IW λ_ _ _ _ _ _ _ B q=>lshift_int_small B.1 B.2.1 B.2.2 q
def X6{f:Value->Sem Value}{g:Int->Int}
  (rule:∀(i:Int)(t:Tok)(s:Shared)(Q:VS)(E:VS),Q (.int (g i) s.toks) { s with toks:=s.toks+1 }->wpAny (model X.prog X.w) X.A (f (.int i t)) Q E s) :
  VU X f (rU λi=>.int (g i)):=by
 intro pins s σ H x v Q I B h;obtain⟨i,rfl,q⟩:=h;obtain⟨t,rfl⟩:=B;exact rule i t s _ _ ⟨.int (g i),H,I.tok _,⟨_,J⟩,q⟩
def Fi:VU X (unaryOp .USub) (rU λi=>.int (-i)):=X6 λ_ _ _ _ _ q=>neg_int q
end
def Du:V->V->Bool
 | .bf,.bf=>true | .bf,.int _=>true | .int _,.bf=>true | .bf,.bl _=>true | .bl _,.bf=>true | .bf,.str _=>true | .str _,.bf=>true
 | .int _,.int _=>true | .bl _,.bl _=>true | .str _,.str _=>true | .om _,.om _=>true
 | .int _,.str _=>true | .str _,.int _=>true | .bl _,.str _=>true | .str _,.bl _=>true
 | _,_=>false
def YI:R2:=λx y H Q=>Du x y=true/\Q (.bl (decide (x=y))) H
def Yy:R2:=λx y H Q=>Du x y=true/\Q (.bl (!decide (x=y))) H
def cm{i j:Int}:decide (V.int i=V.int j)=(i==j):=by rw[Bool.eq_iff_iff];simp
def sd{i j:Bool}:decide (V.bl i=V.bl j)=(i==j):=by rw[Bool.eq_iff_iff];simp
def NB:decide (V.str i=V.str j)=(i==j):=by rw[Bool.eq_iff_iff];simp
def NA{i j:Array UInt8}:decide (V.om i=V.om j)=(i.toList==j.toList):=by rw[Bool.eq_iff_iff];cases i;cases j;simp
section
variable{a b c:Expr}{ta tb tc:TE}{pos:Pos}
def fq{k B:Bool}(I:Inv X pins σ H s)(q:Q (.bl k) H)(e:k=B):EP X pins σ Q (.bool B) s:=by subst e;exact⟨.bl k,H,I,J,q⟩
def av:cy X (compareOp .Eq) YI:=by
 intro pins s σ H x y v u Q I M B h;obtain⟨hs,q⟩:=h;cases x with
 | bf=>
  cases M;cases y with
  | bf=>cases B;exact PySem.EqNone.eq_none_none (fq I q (by simp))
  | bl j=>cases B;exact PySem.EqNone.eq_none_bool (fq I q (by simp))
  | int j=>obtain⟨t',rfl⟩:=B;exact PySem.EqNone.eq_none_int (fq I q (by simp))
  | str j=>obtain⟨t',rfl⟩:=B;exact PySem.EqNone.eq_none_str (fq I q (by simp))
  | _=>exact absurd (show false=true from hs) fnt
 | bl i=>
  cases M;cases y with
  | bf=>cases B;exact PySem.EqNone.eq_bool_none (fq I q (by simp))
  | bl j=>cases B;exact eq_bool (fq I q sd)
  | str j=>obtain⟨t',rfl⟩:=B;exact PySem.EqMixed.eq_bool_str (fq I q (by simp))
  | _=>exact absurd (show false=true from hs) fnt
 | int i=>
  obtain⟨t,rfl⟩:=M;cases y with
  | bf=>cases B;exact PySem.EqNone.eq_int_none (fq I q (by simp))
  | int j=>obtain⟨t',rfl⟩:=B;exact eq_int (fq I q cm)
  | str j=>obtain⟨t',rfl⟩:=B;exact PySem.EqMixed.eq_int_str (fq I q (by simp))
  | _=>exact absurd (show false=true from hs) fnt
 | str i=>
  obtain⟨t,rfl⟩:=M;cases y with
  | bf=>cases B;exact PySem.EqNone.eq_str_none (fq I q (by simp))
  | bl j=>cases B;exact PySem.EqMixed.eq_str_bool (fq I q (by simp))
  | int j=>obtain⟨t',rfl⟩:=B;exact PySem.EqMixed.eq_str_int (fq I q (by simp))
  | str j=>obtain⟨t',rfl⟩:=B;exact eq_str (fq I q NB)
  | _=>exact absurd (show false=true from hs) fnt
 | om i=>
  obtain⟨t,rfl⟩:=M;cases y with
  | om j=>obtain⟨t',rfl⟩:=B;exact PySem.W.eq_bytes (fq I q NA)
  | _=>exact absurd (show false=true from hs) fnt
 | _=>cases y <;> exact absurd (show false=true from hs) fnt
def bX:cy X (compareOp .NotEq) Yy:=by
 intro pins s σ H x y v u Q I M B h;obtain⟨hs,q⟩:=h;cases x with
 | bf=>
  cases M;cases y with
  | bf=>cases B;exact PySem.EqNone.ne_none_none (fq I q (by simp))
  | bl j=>cases B;exact PySem.EqNone.ne_none_bool (fq I q (by simp))
  | int j=>obtain⟨t',rfl⟩:=B;exact PySem.EqNone.ne_none_int (fq I q (by simp))
  | str j=>obtain⟨t',rfl⟩:=B;exact PySem.EqNone.ne_none_str (fq I q (by simp))
  | _=>exact absurd (show false=true from hs) fnt
 | bl i=>
  cases M;cases y with
  | bf=>cases B;exact PySem.EqNone.ne_bool_none (fq I q (by simp))
  | bl j=>cases B;exact ne_bool (fq I q (congrArg not sd))
  | str j=>obtain⟨t',rfl⟩:=B;exact PySem.EqMixed.ne_bool_str (fq I q (by simp))
  | _=>exact absurd (show false=true from hs) fnt
 | int i=>
  obtain⟨t,rfl⟩:=M;cases y with
  | bf=>cases B;exact PySem.EqNone.ne_int_none (fq I q (by simp))
  | int j=>obtain⟨t',rfl⟩:=B;exact ne_int (fq I q (congrArg not cm))
  | str j=>obtain⟨t',rfl⟩:=B;exact PySem.EqMixed.ne_int_str (fq I q (by simp))
  | _=>exact absurd (show false=true from hs) fnt
 | str i=>
  obtain⟨t,rfl⟩:=M;cases y with
  | bf=>cases B;exact PySem.EqNone.ne_str_none (fq I q (by simp))
  | bl j=>cases B;exact PySem.EqMixed.ne_str_bool (fq I q (by simp))
  | int j=>obtain⟨t',rfl⟩:=B;exact PySem.EqMixed.ne_str_int (fq I q (by simp))
  | str j=>obtain⟨t',rfl⟩:=B;exact ne_str (fq I q (congrArg not NB))
  | _=>exact absurd (show false=true from hs) fnt
 | om i=>
  obtain⟨t,rfl⟩:=M;cases y with
  | om j=>obtain⟨t',rfl⟩:=B;exact PySem.W.ne_bytes (fq I q (congrArg not NA))
  | _=>exact absurd (show false=true from hs) fnt
 | _=>cases y <;> exact absurd (show false=true from hs) fnt
def jF:cy X (compareOp .Lt) (tR λi j=>.bl (decide (i<j))):=wH λ_ _ _ _ _ _ _ q=>lt_int q
def ix:cy X (compareOp .LtE) (tR λi j=>.bl (decide (i<=j))):=wH λ_ _ _ _ _ _ _ q=>le_int q
def jG:cy X (compareOp .Gt) (tR λi j=>.bl (decide (j<i))):=wH λ_ _ _ _ _ _ _ q=>gt_int q
def gA:cy X (compareOp .GtE) (tR λi j=>.bl (decide (j<=i))):=wH λ_ _ _ _ _ _ _ q=>ge_int q
inductive OU  (x:V) (y:V) (H:Hp) (Q:VK):Prop
 |mk(i j)(_:x = .str i)(_:y = .str j)(_:Q (.bl (!(Builtin.Str.occurrences j i 0 j.length 1).isEmpty)) H)
def Ih:cy X (compareOp .In) OU:=by intro pins s σ H x y v u Q I M B h;obtain⟨i,j,rfl,rfl,q⟩:=h;obtain⟨t,rfl⟩:=M;obtain⟨t',rfl⟩:=B;exact in_str (fq I q J)
def AX:cy X (compareOp .Is) (λx y H Q=>y = .bf/\Q (.bl (decide (x = .bf))) H):=by
 intro pins s σ H x y v u Q I B M h;obtain⟨rfl,q⟩:=h;cases M;refine is_none_gen (fq I q ?_);cases x <;> first
  | (cases B;rfl)
  | (obtain⟨t,rfl⟩:=B;rfl)
def wF:cy X (compareOp .IsNot) (λx y H Q=>y = .bf/\Q (.bl (!decide (x = .bf))) H):=by
 intro pins s σ H x y v u Q I B M h;obtain⟨rfl,q⟩:=h;cases M;refine isnot_none_gen (fq I q ?_);cases x <;> first
  | (cases B;rfl)
  | (obtain⟨t,rfl⟩:=B;rfl)
inductive QW  (x:V) (y:V) (H:Hp) (Q:VK):Prop
 |mk(i j)(_:x = .str i)(_:y = .str j)(_:Q (.bl (!(!(Builtin.Str.occurrences j i 0 j.length 1).isEmpty))) H)
def jr:cy X (compareOp .NotIn) QW:=by intro pins s σ H x y v u Q I M B h;obtain⟨i,j,rfl,rfl,q⟩:=h;obtain⟨t,rfl⟩:=M;obtain⟨t',rfl⟩:=B;exact notIn_str (fq I q J)
def uZ(b:Expr)(h:op ≠ .In:=by decide)(h2:op ≠ .NotIn:=by decide):behindInMarks op b=false:=by
 have I:(op==CmpOp.In)=false:=by cases op <;> first | rfl | exact absurd J h
 have B:(op==CmpOp.NotIn)=false:=by cases op <;> first | rfl | exact absurd J h2
 cases b
 case Set=>show(_==(0:Nat)&&(op==.In||op==.NotIn)&&_)=false;rw[I,B];simp
 all_goals rfl
def Ai{B:CmpOp}{r:R2}(S:cy X (compareOp B) r)(W:PE X a ta)(U:PE X b tb)(hm:behindInMarks B b=false):PE X (.Compare a [B] [b] pos) (tO r ta tb):=by intro pins s σ H Q I h;exact wpAny_Compare1 (Cm W U I h λv u M x y H2 I2 O N q=>S pins M σ H2 x y v u Q I2 O N q) hm
def jl(t:TE):TT:=λσ H Q=>t σ H λx H'=>Ju x H' Q
def A6(Z:cy X (compareOp op) r)(ha:PE X a ta)(hb:PE X b tb)(hm:behindInMarks op b=false):PT X (.Compare a [op] [b] pos) (jl (tO r ta tb)):=by
 intro pins s σ H Q I h
 refine wpAny_isTrue_Compare1 (aV (ha s σ H _ I h) λv M ⟨x,H1,I1,S,Y⟩=>aV (hb M σ H1 _ I1 Y) λu B ⟨y,H2,I2,O,W⟩=>
  aV (Z pins B σ H2 x y v u _ I2 S O W) λc s3 ⟨z,H3,I3,N,k,e,U⟩=>?_) hm
 subst e;cases N;exact YR ⟨H3,I3,U⟩
def oS(r M:R2)(ta tb tc:TE):TE:=λσ H Q=>ta σ H λx H1=>tb σ H1 λy H2=>r x y H2 λz B=>∃ k,z = .bl k /\
 (if k=true then tc σ B λI N=>M y I N Q else Q (.bl false) B)
theorem vh(ho:cy X (compareOp op) r)(B:cy X (compareOp yk) r')(ha:PE X a ta)(hb:PE X b tb)(hc:PE X c tc)
  (hm:lastMarks [op,yk] [b,c]=false:=by with_unfolding_all rfl):PE X (.Compare a [op,yk] [b,c] pos) (oS r r' ta tb tc):=by
 intro pins s σ H Q I h
 refine Compare_chain (aV (ha s σ H _ I h) ?_) hm;rintro v s1 ⟨x,H1,I1,r1,q1⟩;refine chain_link (aV (hb s1 σ H1 _ I1 q1) ?_);rintro u Z ⟨y,H2,I2,M,q2⟩;refine aV (ho pins Z σ H2 x y v u _ I2 r1 M q2) ?_;rintro d Y ⟨z,O,I3,r3,k,rfl,N⟩;cases r3;refine YR ?_;cases k with
 | false=>exact ite_ff ⟨.bl false,O,I3,J,N⟩
 | true=>refine ite_tt (chain_last (aV (hc Y σ O _ I3 N) ?_));rintro U W ⟨S,H4,I4,r4,q4⟩;exact B pins W σ H4 y S u U Q I4 M r4 q4
theorem Fh(ho:cy X (compareOp op) r)(B:cy X (compareOp yk) r')(ha:PE X a ta)(hb:PE X b tb)(hc:PE X c tc)
  (hm:lastMarks [op,yk] [b,c]=false:=by with_unfolding_all rfl):PT X (.Compare a [op,yk] [b,c] pos) (jl (oS r r' ta tb tc)):=by
 intro pins s σ H Q I h
 refine isTrue_chain (aV (ha s σ H _ I h) ?_) hm;rintro v s1 ⟨x,H1,I1,r1,q1⟩;refine test_link (aV (hb s1 σ H1 _ I1 q1) ?_);rintro u Z ⟨y,H2,I2,M,q2⟩;refine aV (ho pins Z σ H2 x y v u _ I2 r1 M q2) ?_;rintro d Y ⟨z,O,I3,r3,k,rfl,N⟩;cases r3;refine YR ?_;cases k with
 | false=>obtain⟨k',e',q'⟩:=N;cases e';exact ite_ff ⟨O,I3,q'⟩
 | true=>refine ite_tt (test_last (aV (hc Y σ O _ I3 N) ?_));rintro U W ⟨S,H4,I4,r4,q4⟩;refine aV (B pins W σ H4 y S u U _ I4 M r4 q4) ?_;rintro d' s5 ⟨z2,H5,I5,r5,k2,rfl,q5⟩;cases r5;exact YR ⟨H5,I5,q5⟩
def GX:(sizeLine:Nat)<2^63:=by rw[sizeLine_eq];decide
inductive Ah  (x:V) (y:V) (H:Hp) (Q:VK):Prop
 |mk(i j)(_:x = .str i)(_:y = .str j)(_:i.length+j.length<=sizeLine)(_:Q (.str (i++j)) H)
def dR:cy X (binaryOp .Add) Ah:=by intro pins s σ H x y v u Q I M B h;obtain⟨i,j,rfl,rfl,N,q⟩:=h;obtain⟨t,rfl⟩:=M;obtain⟨t',rfl⟩:=B;exact add_str (λt' tk=>⟨.str (i++j),H,I.tok _,⟨_,J⟩,q⟩) N
def vals1(r:Vals [x] us):∃ u,us=[u]/\RelV x u:=by
 cases r with
 | cons I B=>cases B;exact⟨_,J,I⟩
def vals2(r:Vals [x,y] us):aO λu B=>aP (us=[u,B]) (RelV x u) (RelV y B):= by
 cases r with
 | cons O N=>
  cases N with
  | cons M I=>cases I;exact⟨_,_,J,O,M⟩
inductive OT  (xs:List V) (H:Hp) (Q:VK):Prop
 |mk(i j)(_:xs=[.int i,.int j])(_:Q (.int (if j > i then j else i)) H)
def Nz(M:X.calm=true):b8 X (.builtin "max") OT:=by
 intro pins s σ H xs us Q I r h;obtain⟨i,j,rfl,q⟩:=h;obtain⟨u,N,rfl,⟨t,rfl⟩,⟨t',rfl⟩⟩:=vals2 r;refine max_two_ints (I.ok.hd M) λh' tk k=>⟨_,H,I.kept k,?_,q⟩
 by_cases B:j > i
 ·rw[ZL B,ZL B];exact⟨_,J⟩
 ·rw[ZJ B,ZJ B];exact⟨_,J⟩
inductive OS  (xs:List V) (H:Hp) (Q:VK):Prop
 |mk(i j)(_:xs=[.int i,.int j])(_:Q (.int (if j<i then j else i)) H)
def Ny(M:X.calm=true):b8 X (.builtin "min") OS:=by
 intro pins s σ H xs us Q I r h;obtain⟨i,j,rfl,q⟩:=h;obtain⟨u,N,rfl,⟨t,rfl⟩,⟨t',rfl⟩⟩:=vals2 r;refine min_two_ints (I.ok.hd M) λh' tk k=>⟨_,H,I.kept k,?_,q⟩
 by_cases B:j<i
 ·rw[ZL B,ZL B];exact⟨_,J⟩
 ·rw[ZJ B,ZJ B];exact⟨_,J⟩
inductive QV  (xs:List V) (H:Hp) (Q:VK):Prop
 |mk(i)(_:xs=[.int i])(_:i.natAbs.log2<1920)(_:Q (.str (toString i)) H)
def gD:b8 X (.type "str") QV:=by intro pins s σ H xs us Q I r h;obtain⟨i,rfl,B,q⟩:=h;obtain⟨u,rfl,t,rfl⟩:=vals1 r;exact PySem.P.str_of_int B ⟨.str _,H,I.tok _,⟨_,J⟩,q⟩
end
structure lQ(h:Heap)(x dx C:Addr)(mA:Mg):Prop where
 obj:h.get? x=some (PySem.W.instObj C dx)
 ns:h.Ns1 dx mA
 ne:dx≠x
def Nx{h:Heap}(n:h.Ns1 dx mA):∃ I,h.get? dx=some I /\ ∀ name,PySem.W.lookIn name I=some (mA name):=by
 obtain⟨o,es,ep,N,hd,O,_,hm⟩:=n;refine⟨o,N,λname=>?_⟩;have e:=hm name;unfold nsFind findBy at e;rw[<- Array.find?_toList]at e;unfold PySem.W.lookIn;rw[hd];dsimp only;split
 ·rename_i y q;rw[q]at e;exact congrArg some e
 ·rename_i q;rw[q]at e;have a:es.toList.any (·.refKey)=false:=by rw[any_eq_false];intro y M;obtain⟨z,t,B⟩:=O y (Array.mem_toList_iff.mp M);simp[DictEntry.refKey,B]
  have S:¬ es.toList.any (·.refKey)=true:=by rw[a];exact fnt
  rw[ZJ S];exact congrArg some e
def lQ.look(I:lQ h x dx C mA):∃ B,PySem.W.InstAt h x (PySem.W.instObj C dx) C (some B) /\ ∀ name,PySem.W.lookIn name B=some (mA name):=
 let ⟨B,ho,hl⟩:=Nx I.ns
 ⟨B,⟨I.obj,J,J,ho⟩,hl⟩
section
variable {prog:Program}{w:World}{A:Around}{E:VS}{s:Shared}{K:Fg}{x dx C f:Addr}{mA:Mg}{name:Str}{v:Value}
def get_map{expr:Bool}(X:K.In s.heap)(I:lQ s.heap x dx C mA)(S:PySem.W.plainGet K C name=true)(O:PySem.W.hasDictIn K C=true)
  (U:PySem.W.findIn K (.ref C) name=some none) (M:mA name=some v) (B:PySem.W.handedIn v=true) (h:Q v { s with toks:=s.toks+1 }) :
  wpAny (model prog w) A (getAttr (.ref x) name expr) Q E s:=by
 obtain⟨Z,Y,N⟩:=I.look;exact PySem.W.get_value X Y (PySem.W.plainGet_of S).1 (PySem.W.findObj_own O U J (by rw[N,M])) B h
def rL(X:K.In s.heap)(I:lQ s.heap x dx C mA)(B:PySem.W.plainGet K C name=true)
  (U:PySem.W.findIn K (.ref C) name=some (some (.ref f))) (O:PySem.W.isFn K (.ref f)=true) (N:mA name=none) (h:Q (.ref f,[.ref x]) s) :
  wpAny (model prog w) A (getMethod (.ref x) name pl) Q E s:=by
 obtain⟨M,Y,S⟩:=I.look;exact PySem.W.method_fn X Y (PySem.W.plainGet_of B).1 (PySem.W.plainGet_of B).2 U (beq_iff_eq.mp O) (by show(PySem.W.lookIn name M).map (·.isSome)=some false;rw[S,N];rfl) h
def uI{ns:List Str}(X:K.In s.heap)(I:lQ s.heap x dx C mA)
  (hs:PySem.W.findIn K (.ref C) "__setattr__" = some (some (.builtin "object.__setattr__"))) (hp:PySem.W.plainOver K C=true) (ht:PySem.W.takerIn K C name=some none) (hh:PySem.W.hasDictIn K C=true)
  (hw:PySem.Within mA ns) (hsz:ns.length<=sizeLine)
  (h:∀ h',lQ h' x dx C (λy=>if y=name then some v else mA y)->Heap.SameBut dx s.heap h'->Q () { s with heap:=h',toks:=s.toks+2 }) :
  wpAny (model prog w) A (setAttr (.ref x) name v) Q E s:=by
 obtain⟨od,Y,hl⟩:=I.look;refine PySem.W.set_plain X Y hs (PySem.W.osa_open (s:={ s with toks:=s.toks+1 }) (r:=none) X Y hp ht λb=>?_);obtain⟨cd,hc,S⟩:=PySem.W.any_some hh;have Z:s.heap.get? x=some ⟨.ref C,some dx,.plain,#[]⟩:=I.obj;refine ZA (ZO (ZA (ZA (wpAny_loadPart Z (ZA (PySem.W.Looks.here (s:={ s with toks:=s.toks+1 }) (PySem.W.looks_clsIn X hc) ?_))))));rw[S];refine ZO (a:=some dx) (ZA (ZO (ZA ?_)));refine wpAny_nsSet1 (s:={ s with toks:=s.toks+1 }) I.ns λh' M B=>?_;obtain⟨oD,esD,epD,N,O,U⟩:=M.count (PySem.Within.cons name v hw);refine ZA (wpAny_lookBehind N (by rw[O];exact pastItsLine_dict (ZT U (by rw[WB];lia))) ?_);exact ZO (h _ ⟨(B.2 _ (Ne.symm I.ne)).trans I.obj,M,I.ne⟩ B)
def qW(X:K.In s.heap)(hm:PySem.W.makesIn K C=true)
  (hi:PySem.W.findIn K (.ref C) "__init__" = some (some (.ref f))) (B:PySem.W.typeIn K (.ref f)=some (.type "function"))
  (h:codeAny (model prog w) (A.under (.builtin "type.__call__" ⟨.ref C::vs,kw⟩)) (.call (.ref f) ⟨.ref (s.heap.objs.size+1)::vs,kw⟩) (PySem.W.InitBack (s.heap.objs.size+1) R)
   { s with heap:=(s.heap.push PySem.W.emptyDict).push (PySem.W.instObj C s.heap.objs.size) }) :
  codeAny (model prog w) A (.call (.ref C) ⟨vs,kw⟩) R s:=by
 obtain⟨I,g,d,t,os⟩:=s;exact PySem.W.make_core (PySem.W.makes_of X hm) (PySem.W.looks_findIn X hi) (λself=>PySem.W.bind_fn X self B) (.inl J) h
end
noncomputable def cb(f:Str)(v:V):List (Str×V)->List (Str×V)
 | []=>[(f,v)]
 | (g,x)::r=>if g=f then(g,v)::r else(g,x)::cb f v r
theorem Ht(f g:Str)(v:V)(fs:List (Str×V)):(cb f v fs).lookup g=if g=f then some v else fs.lookup g:=by
 induction fs with
 | nil=>
  show List.lookup g [(f,v)]=_;by_cases h:g=f
  ·have B:(g==f)=true:=beq_iff_eq.mpr h;simp only[List.lookup,B,ZL h]
  ·have B:(g==f)=false:=beq_eq_false_iff_ne.mpr h;simp only[List.lookup,B,ZJ h]
 | cons p r M=>
  obtain⟨k,x⟩:=p;rw[show cb f v ((k,x)::r)=(if k=f then(k,v)::r else(k,x)::cb f v r)from J];by_cases I:k=f
  ·rw[ZL I];by_cases h:g=k
   ·have B:(g==k)=true:=beq_iff_eq.mpr h;simp only[List.lookup,B,ZL (h.trans I)]
   ·have B:(g==k)=false:=beq_eq_false_iff_ne.mpr h;simp only[List.lookup,B,ZJ (λe:g=f=>h (e.trans I.symm))]
  ·rw[ZJ I];by_cases h:g=k
   ·have B:(g==k)=true:=beq_iff_eq.mpr h;simp only[List.lookup,B,ZJ (λe:g=f=>I (h.symm.trans e))]
   ·have B:(g==k)=false:=beq_eq_false_iff_ne.mpr h;simp only[List.lookup,B];exact M
theorem Hs(f:Str)(v:V)(fs:List (Str×V)):f∈(cb f v fs).map (·.1) /\ ∀ g,g∈fs.map (·.1)->g∈(cb f v fs).map (·.1)
:=by
 induction fs with
 | nil=>exact⟨ZQ,λg h=>by cases h⟩
 | cons p r i=>
  obtain⟨k,x⟩:=p;obtain⟨M,I⟩:=i;rw[show cb f v ((k,x)::r)=(if k=f then(k,v)::r else(k,x)::cb f v r)from J];by_cases B:k=f
  ·rw[ZL B];subst B;exact⟨by simp,λg h=>by simpa using h⟩
  ·rw[ZJ B];refine⟨?_,λg h=>?_⟩
   ·rw[YA];exact ZU _ M
   ·rw[YA]at h ⊢;rcases ad h with e | e
    ·exact List.mem_cons.mpr (.inl e)
    ·exact ZU _ (I g e)
theorem qc(f:Str)(v:V):∀ fs:List (Str×V),(cb f v fs).length<=fs.length+1
 | []=>ZF _
 | (k,x)::r=>by
  have I:=qc f v r;rw[show cb f v ((k,x)::r)=(if k=f then(k,v)::r else(k,x)::cb f v r)from J];by_cases B:k=f
  ·rw[ZL B,WB,WB];lia
  ·rw[ZJ B,WB,WB];lia
def c8.some_of(r:c8 (some v) o):∃ u,o=some u/\RelV v u:=by
 cases o with
 | none=>exact(show False from r).elim
 | some u=>exact⟨u,J,r⟩
def c8.none_of(r:c8 none o):o=none:=by
 cases o with
 | none=>rfl
 | some u=>exact(show False from r).elim
def Nw(r:RelV v u):PySem.W.handedIn u=true:=by
 cases v with
 | bf=>cases(show u=Value.none from r);rfl
 | bl b=>cases(show u=Value.bool b from r);rfl
 | int i=>obtain⟨t,e⟩:=(show ∃ t,u=Value.int i t from r);cases e;rfl
 | str x=>obtain⟨t,e⟩:=(show ∃ t,u=Value.str x t from r);cases e;rfl
 | om b=>obtain⟨t,e⟩:=(show ∃ t,u=Value.bytes b t from r);cases e;rfl
 | Cd b=>obtain⟨t,e⟩:=(show ∃ t,u=Value.float b t from r);cases e;rfl
 | ref a=>cases(show u=Value.ref a from r);rfl
 | ty n=>cases(show u=Value.type n from r);rfl
section
variable {P:Program}{w:World}{H H':Hp}{h h':Heap}{a C dx:Addr}{fs fs':List (Str×V)}
def QU(B:c9 P w H h)(e:H a=some (.ins C dx fs)):∃ mA,dw (lQ h a dx C mA) ((∀ f,c8 (fs.lookup f) (mA f))) (PySem.Within mA (fs.map (·.1))) (fs.length<=1000) (H dx=some (.own a)):= by
 obtain⟨d,z,ne,I,mA,n,r,q⟩:=(show bg P w H h a (.ins C dx fs)from B a _ e)
 exact⟨mA,⟨I,n,ne⟩,r,q,z,d⟩
end
structure nX(K:Fg)(C:Addr):Prop where
 pg:PySem.W.plainGet K C Str.empty=true
 hd:PySem.W.hasDictIn K C=true
 po:PySem.W.plainOver K C=true
 sa:PySem.W.findIn K (.ref C) "__setattr__" = some (some (.builtin "object.__setattr__"))
def nX.get{K:Fg}{C:Addr}(c:nX K C)(f:Str):PySem.W.plainGet K C f=true:=c.pg
def Iz(K:Fg)(C:Addr)(f:Str):Prop:=PySem.W.findIn K (.ref C) f=some none
def Iz.De{K:Fg}{C:Addr}{f:Str}(n:Iz K C f):PySem.W.takerIn K C f=some none:=by unfold PySem.W.takerIn;rw[show PySem.W.findIn K (.ref C) f=some none from n];rfl
structure Con(K:Fg)(C:Addr)(f:Str)(v:V)(u:Value):Prop where
 at_:PySem.W.findIn K (.ref C) f=some (some u)
 rel:RelV v u
 get:PySem.W.specialIn K u "__get__" = some none
 cp:PySem.W.copiedNames.contains f=false
structure Meth(K:Fg)(C:Addr)(m:Str)(f:Addr):Prop where
 at_:PySem.W.findIn K (.ref C) m=some (some (.ref f))
 fn:PySem.W.isFn K (.ref f)=true
 kp:PySem.W.keepIn K (.ref f)=true
section
variable {pins:List (Addr×Obj)}{σ:St}{H:Hp}{s:Shared}{a C dx:Addr}{fs:List (Str×V)}{f:Str}{v:V}{A:Around}{E:VS}
def OR{b:Bool}(I:Inv X pins σ H s)(e:H a=some (.ins C dx fs))(c:nX X.K C)(n:Iz X.K C f)(l:fs.lookup f=some v)
  (h:∀ u s',Inv X pins σ H s'->RelV v u->Q u s'):wpAny (model X.prog X.w) A (getAttr (.ref a) f b) Q E s:=by
 obtain⟨mA,O,r,_,_,_⟩:=QU I.aD e;obtain⟨u,M,B⟩:=c8.some_of (v:=v) (o:=mA f) (by rw[<- l];exact r f);exact get_map I.d8 O (c.get f) c.hd n M (Nw B) (h u _ (I.tok _) B)
def OQ(I:Inv X pins σ H s)(e:H a=some (.ins C dx fs))(c:nX X.K C)(k:Meth X.K C m g)(l:fs.lookup m=none)
  (h:Q (.ref g,[.ref a]) s):wpAny (model X.prog X.w) A (getMethod (.ref a) m pl) Q E s:=by
 obtain⟨mA,O,r,_,_,_⟩:=QU I.aD e;have B:mA m=none:=c8.none_of (by rw[<- l];exact r m);exact rL I.d8 O (c.get m) k.at_ k.fn B h
def OP(I:Inv X pins σ H s)(e:H a=some (.ins C dx fs))(c:nX X.K C)(n:Iz X.K C f)(hl:fs.length<1000)(U:RelV y u)
  (h:∀ s',Inv X pins σ (upd H a (.ins C dx (cb f y fs))) s'->Q () s'):wpAny (model X.prog X.w) A (setAttr (.ref a) f u) Q E s:=by
 obtain⟨mA,O,r,M,_,N⟩:=QU I.aD e;have W:(fs.map (·.1)).length<=sizeLine:=by rw[ZK,sizeLine_eq];lia
 refine uI I.d8 O c.sa c.po n.De c.hd M W λh' B S=>h _ ?_;have hd:∃ o,h'.get? dx=some o:=by obtain⟨o,_,_,e',_⟩:=B.ns;exact⟨o,e'⟩
 refine I.write (x:=a) (e:=dx) (by rw[e];exact True.intro) (.inr N) (λb q Z z=>(S.2 b Z).trans z) hd ?_;refine⟨by rw[bC O.ne];exact N,?_,O.ne,B.obj,_,B.ns,λg=>?_,λg Y=>?_⟩
 ·have:=qc f y fs;lia
 ·show c8 ((cb f y fs).lookup g) (if g=f then some u else mA g);rw[Ht];by_cases q:g=f
  ·rw[ZL q,ZL q];exact U
  ·rw[ZJ q,ZJ q];exact r g
 ·by_cases q:g=f
  ·rw[q];exact(Hs f y fs).1
  ·refine(Hs f y fs).2 g (M g λz=>Y ?_);show(if g=f then some u else mA g)=none;rw[ZJ q];exact z
def Inv.made(I:Inv X pins σ H s):Inv X pins σ (upd (upd H s.heap.objs.size (.own (s.heap.objs.size+1))) (s.heap.objs.size+1) (.ins C s.heap.objs.size []))
  { s with heap:=(s.heap.push PySem.W.emptyDict).push (PySem.W.instObj C s.heap.objs.size) }:=by
 have B:(s.heap.push PySem.W.emptyDict).get? s.heap.objs.size=some PySem.W.emptyDict:=ZY s.heap J;have S:((s.heap.push PySem.W.emptyDict).push (PySem.W.instObj C s.heap.objs.size)).get? (s.heap.objs.size+1)=some (PySem.W.instObj C s.heap.objs.size):=by have:=ZY (s.heap.push PySem.W.emptyDict) (o:=PySem.W.instObj C s.heap.objs.size) J;rwa [Heap.size_push]at this
 have O:(s.heap.push PySem.W.emptyDict).Ns s.heap.objs.size (λ_=>none):=⟨PySem.W.emptyDict,#[],_,B,J,(λe N=>absurd N (by simp)),λ_=>J⟩
 have U:=I.laid (a:=s.heap.objs.size) (o:=.own (s.heap.objs.size+1)) (h':=s.heap.push PySem.W.emptyDict) (t':=s.toks) (λb u q=>ZE _ q) (ZF _) ⟨_,B⟩;refine U.laid (a:=s.heap.objs.size+1) (o:=.ins C s.heap.objs.size []) (t':=s.toks) (λb u q=>ZE _ q) (Nat.le_of_eq (Heap.size_push _ _)) ?_;have ne:s.heap.objs.size≠s.heap.objs.size+1:=WN (Nat.lt_succ_self _);refine⟨by rw[bC ne,ax],ZX _,ne,S,λ_=>none,(Heap.Ns1.of_empty O).at λo q=>ZE _ q,λ_=>True.intro,λy M=>absurd J M⟩
def xH(B:attributeBase e f env (eval e env)=eval e env)
  (h:wpAny (model prog w) A (eval e env) (λo s₁=>wpAny (model prog w) A (getAttr o f true) Q E s₁) E s):wpAny (model prog w) A (eval (.Attribute e f pos) env) Q E s:=
 Attribute_any_ h (by rw[arm_eval_Attribute,B])
end
def L1(K:Fg)(ta:TE)(f:Str):TE:=λσ H Q=>ta σ H λx H1=>lT λa C dx fs v=>gB (x = .ref a) (H1 a=some (.ins C dx fs)) (nX K C) (Iz K C f) (fs.lookup f=some v) (Q v H1)
noncomputable def L7(K:Fg)(ta tv:TE)(f:Str):TS:=λD σ H=>tv σ H λy H1=>ta σ H1 λx H2=>ik λa C dx fs=>gB (x = .ref a) (H2 a=some (.ins C dx fs)) (nX K C) (Iz K C f) (fs.length<1000) (D.nx σ (upd H2 a (.ins C dx (cb f y fs))))
section
variable{o e value:Expr}{f:Str}{pos pos' oH:Pos}{ta tv:TE}
def HH(N:PE X e ta)(O:attributeBase e f X.env (eval e X.env)=eval e X.env):PE X (.Attribute e f pos) (L1 X.K ta f):=by intro pins s σ H Q I h;refine xH O (aV (N s σ H _ I h) ?_);rintro u Z ⟨x,H1,U,B,a,C,dx,fs,v,rfl,S,c,n,l,q⟩;obtain rfl:u=Value.ref a:=B;exact OR U S c n l λW Y I2 M=>⟨v,H1,I2,M,q⟩
def Ff(W:PE X o ta)(U:PE X value tv)(hs:swapsWith value (some (.Attribute o f pos')) pos.line X.env=pure false):PS X (.Assign [.Attribute o f pos'] value pos) (L7 X.K ta tv f):=by intro pins s σ H D I h;refine plainObj_wpAny_Assign_Attribute (aV (U s σ H _ I h) ?_) hs;rintro u B ⟨y,H1,Z,M,q⟩;refine aV (W B σ H1 _ Z q) ?_;rintro S s2 ⟨x,H2,I2,N,a,C,dx,fs,rfl,Y,c,n,l,O⟩;obtain rfl:S=Value.ref a:=N;exact OP I2 Y c n l M λs3 I3=>⟨σ,_,I3,O⟩
end
section
variable {pins:List (Addr×Obj)}{σ:St}{H:Hp}{s:Shared}{A:Around}{E:VS}{Q:VS}{c:Value}{b:Bool}
inductive fb(K:Fg)(H:Hp):V->Value->Prop where
 | bf:fb K H .bf (.type "NoneType")
 | bl (x:Bool):fb K H (.bl x) (.type "bool")
 | int (i:Int):fb K H (.int i) (.type "int")
 | str (x:Str):fb K H (.str x) (.type "str")
 | Cd (x:UInt64):fb K H (.Cd x) (.type "float")
 | lst {a:Addr} {xs:List V} (e:H a=some (.lst xs)):fb K H (.ref a) (.type "list")
 | cx {a:Addr} {o:Obj} {xs:List V} (e:H a=some (.cx o (.lst xs))):fb K H (.ref a) (.type "list")
 | tup {a:Addr} {xs:List V} (e:H a=some (.tup xs)):fb K H (.ref a) (.type "tuple")
 | dK {a:Addr} {kvs:List (Key×V)} (e:H a=some (.dK kvs)):fb K H (.ref a) (.type "dict")
 | dT {a:Addr} {kvs:List (List Key×V)} (e:H a=some (.dT kvs)):fb K H (.ref a) (.type "dict")
 | ins {a C dx:Addr} {fs:List (Str×V)} (e:H a=some (.ins C dx fs)) (cl:nX K C) (ha:PySem.W.findIn K (.ref C) "__class__" = some (some (.builtin "object.__class__")))
   (hn:PySem.W.specialIn K (.builtin "object.__class__") "__get__" = some (some (.builtin "getset_descriptor.__get__"))) (htk:PySem.W.takesIn K (.builtin "object.__class__")=some true)
   (hm:PySem.W.mroIn K C (.type "object")=some true):fb K H (.ref a) (.ref C)
def Et(I:Inv X pins σ H s)(B:RelV x u)(ty:fb X.K H x t)(e:PySem.W.kitOne X.K t c=some b)(h:∀ tk,Q (.bool b) { s with toks:=tk }) :
  wpAny (model X.prog X.w) A (call (.builtin "isinstance") [u,c]) Q E s:=by
 cases ty with
 | bf=>cases(show u=Value.none from B);exact YV PySem.W.kitx_none I.d8 True.intro e (λz=>nomatch z) h
 | bl y=>cases(show u=Value.bool y from B);exact YV PySem.W.kitx_bool I.d8 True.intro e (λz=>nomatch z) h
 | int i=>obtain⟨t,q⟩:=(show ∃ t,u=Value.int i t from B);cases q;exact YV PySem.W.kitx_int I.d8 True.intro e (λz=>nomatch z) h
 | str y=>obtain⟨t,q⟩:=(show ∃ t,u=Value.str y t from B);cases q;exact YV PySem.W.kitx_str I.d8 True.intro e (λz=>nomatch z) h
 | Cd y=>obtain⟨t,q⟩:=(show ∃ t,u=Value.float y t from B);cases q;exact YV PySem.W.kitx_float I.d8 True.intro e (λz=>nomatch z) h
 | @lst a xs M=>
  cases(show u=Value.ref a from B);obtain⟨_,_,n,_,h1⟩:=(show bg X.prog X.w H s.heap a (.lst xs)from I.aD a _ M)
  exact YV PySem.W.kitx_list I.d8 ⟨_,h1,J⟩ e (λz=>nomatch z) h
 | @cx a S xs M=>
  cases(show u=Value.ref a from B);obtain⟨_,_,_,n,_,h1⟩:=(show bg X.prog X.w H s.heap a (.cx S (.lst xs))from I.aD a _ M)
  exact YV PySem.W.kitx_list I.d8 ⟨_,h1,J⟩ e (λz=>nomatch z) h
 | @tup a xs M=>
  cases(show u=Value.ref a from B);obtain⟨_,_,_,p⟩:=(show bg X.prog X.w H s.heap a (.tup xs)from I.aD a _ M)
  obtain⟨o,h1,h2,_⟩:=p;exact YV PySem.W.kitx_tuple I.d8 ⟨o,h1,h2⟩ e (λz=>nomatch z) h
 | @dK a kvs M=>
  cases(show u=Value.ref a from B);obtain⟨_,_,vs,_,p⟩:=(show bg X.prog X.w H s.heap a (.dK kvs)from I.aD a _ M)
  obtain⟨o,es,ep,h1,h2,_⟩:=p;exact YV PySem.W.kitx_dict I.d8 ⟨o,h1,h2.1⟩ e (λz=>nomatch z) h
 | @dT a kvs M=>
  cases(show u=Value.ref a from B);obtain⟨_,_,xs,_,o,es,ep,h1,h2,_⟩:=(show bg X.prog X.w H s.heap a (.dT kvs)from I.aD a _ M)
  exact YV PySem.W.kitx_dict I.d8 ⟨o,h1,h2.1⟩ e (λz=>nomatch z) h
 | @ins a C dx fs M cl Y U N hm=>cases(show u=Value.ref a from B);obtain⟨mA,O,_⟩:=QU I.aD M;obtain⟨od,Z,_⟩:=O.look;exact YV (PySem.W.kitx_own (cl.get _) cl.hd Y U N hm) I.d8 Z e (λz=>nomatch z) h
end
structure bK(k:Nat)(A:Around):Prop where
 hd:A.handled=none
 dp:A.depth+3*k+5<recursionLimit
 un:A.units+16*k+200<cLine
def bK.mono{j k:Nat}(r:bK k A)(h:j<=k):bK j A:=⟨r.hd,by have:=r.dp;lia,by have:=r.un;lia⟩
def bK.deeper{k:Nat}{A:Around}(r:bK (k+1) A)(B:Env):bK k (A.deeper B):=
 ⟨r.hd,by have:=r.dp;show A.depth+1+3*k+5<_;lia,by have:=r.un;show A.units+3+16*k+200<_;lia⟩
def OO{A:Around}:(A.under (.builtin "type.__call__" ⟨.ref C::us,kw⟩)).depth=A.depth+1:=by
 first | rfl | simp[Around.under,Code.weight,Code.isCreation,Code.isGuard,Code.isCaller,Code.frames,Code.isFrame,guardIds]
def ON{A:Around}:(A.under (.builtin "type.__call__" ⟨.ref C::us,kw⟩)).units=A.units+1:=by
 first | rfl | simp[Around.under,Code.cUnits,Code.frames,Code.isFrame]
def bK.make{k:Nat}{A:Around}(r:bK (k+1) A)(C:Addr)(us:List Value)(kw:List (Str×Value)):bK k (A.under (.builtin "type.__call__" ⟨.ref C::us,kw⟩)):=
 ⟨r.hd,by have:=r.dp;rw[OO];lia,by have:=r.un;rw[ON];lia⟩
def bK.depth{k:Nat}{A:Around}(r:bK k A):A.depth<recursionLimit:=by have:=r.dp;lia
def bK.units{k:Nat}{A:Around}(r:bK k A):A.units+64<cLine:=by have:=r.un;lia
def oP:TA:=λ_ H Q=>Q [] H
def dh(ta:TE)(B:TA):TA:=λσ H Q=>ta σ H λx H1=>B σ H1 λxs H2=>Q (x::xs) H2
section
variable {e:Expr}{es:List Expr}{te:TE}{t:TA}{pos:Pos}
def fU:PA X [] oP:=λ_ _ _ _ H Q I h=>Calls.spliced_nil ⟨[],H,I,.nil,h⟩
def dA(U:PE X e te)(hr:PA X es t)(hs:starEach (e::es) X.env=(false,eval e X.env)::starEach es X.env:=by rfl):PA X (e::es) (dh te t):=by intro pos pins s σ H Q I h;rw[hs];show wpAny _ _ (spliced ((false,eval e X.env)::backTo pos (starEach es X.env))) _ _ s;refine Calls.spliced_cons (aV (U s σ H _ I h) λu B ⟨x,H1,W,N,S⟩=>?_);exact aV (hr pins B σ H1 _ W S) λus Y ⟨xs,H2,I2,M,O⟩=>⟨x::xs,H2,I2,.cons N M,O⟩
def LS(t:TA):TE:=λσ H Q=>t σ H λxs H1=>xs.length<=sizeLine /\ ∀ p,H1 p=none->Q (.ref p) (upd H1 p (.tup xs))
def LY(t:TA):TE:=λσ H Q=>t σ H λxs H1=>xs.length<=sizeLine /\ ∀ p,H1 p=none->Q (.ref p) (upd H1 p (.lst xs))
def vj{x1}(h:PA X es t):PE X (.Tuple es x1 pos) (LS t):=by intro pins s σ H Q I hq;refine wpAny_Tuple_spliced (aV (h pins s σ H _ I hq) λus B ⟨xs,H1,M,r,z,q⟩=>⟨by rw[<- r.length];exact z,?_⟩);have N:H1 B.heap.objs.size=none:=M.aD.fresh (ZF _);refine⟨.ref B.heap.objs.size,upd H1 B.heap.objs.size (.tup xs),M.laid (t':=B.toks) (λb u e=>ZE _ e) (ZF _) ?_,J,q _ N⟩;exact⟨z,us,r,⟨_,ZY _ J,J,_,J⟩⟩
def zX(h:PA X es t):PE X (.List es pos) (LY t):=by intro pins s σ H Q I hq;refine wpAny_List_spliced (aV (h pins s σ H _ I hq) λus B ⟨xs,H1,M,r,z,q⟩=>⟨by rw[<- r.length];exact z,?_⟩);have N:H1 B.heap.objs.size=none:=M.aD.fresh (ZF _);refine⟨.ref B.heap.objs.size,upd H1 B.heap.objs.size (.lst xs),M.laid (t':=B.toks) (λb u e=>ZE _ e) (ZF _) ?_,J,q _ N⟩;exact⟨z,us,0,r,ZY _ J⟩
end
abbrev Sp:=List V->Hp->VK->XK->Prop
abbrev tK:=List Env->Hp->Shared->XK->VS
structure fc(P:Program)(w:World)(K:Fg)(mg:Mg)(base:Heap)(A:Around)(outer:List Env)(s:Shared)(H:Hp):Prop where
 frames:A.frames=some outer
 mod:Mod K mg base
 bs:∀ b o,base.get? b=some o->s.heap.get? b=some o/\H b=none
 oo:base.objs.size<=s.heap.objs.size
 dN:s.heap.FunFrames base outer
 rM:∀ b∈gF outer,H b=none
 aD:c9 P w H s.heap
 bare:AllBare s.gens
inductive CE(outer:List Env)(P:Program)(w:World)(H:Hp)(s:Shared)(Q:VK)(u:Value)(s':Shared):Prop
 |mk(v:V)(H':Hp)(_:s'.os=s.os)(_:AllBare s'.gens)(_:Un (gF outer) [] H H' s.heap s'.heap)(_:c9 P w H' s'.heap)(_:RelV v u)(_:Q v H')
noncomputable def CR(CX:tK)(outer:List Env)(P:Program)(w:World)(H:Hp)(s:Shared)(Q:VK)(E:XK)(r:Result)(s':Shared):Prop:=
 match r with
 | .ok (.ret u)=>CE outer P w H s Q u s'
 | .ok _=>False
 | .error e=>CX outer H s E e s'
structure cC(P:Program)(w:World)(K:Fg)(mg:Mg)(base:Heap)(CX:tK)(k:Nat)(f:Addr)(fd:FuncData)(ps:List Str)(sp:Sp):Prop where
 len:∀ vs H Q E,sp vs H Q E->vs.length=ps.length
 run:∀(A:Around)(outer:List Env)(s:Shared)(H:Hp)(args:Args)(us:List Value)(vs:List V)(Q:VK)(E:XK),bK k A->fc P w K mg base A outer s H->BindsTo s fd args (ps.zip us)->Vals vs us->sp vs H Q E ->
  codeAny (model P w) A (.call (.ref f) args) (CR CX outer P w H s Q E) s
def cC.mono{P:Program}{w:World}{K:Fg}{mg:Mg}{base:Heap}{CX:tK}{j k:Nat}{f:Addr}{fd:FuncData}{ps:List Str}{sp:Sp}(F:cC P w K mg base CX j f fd ps sp)(h:j<=k) :
  cC P w K mg base CX k f fd ps sp:=⟨F.len,λA outer s H args us vs Q E hr=>F.run A outer s H args us vs Q E (hr.mono h)⟩
def fc.make{P:Program}{w:World}{K:Fg}{mg:Mg}{base:Heap}{A:Around}{outer:List Env}{s:Shared}{H:Hp}(e:fc P w K mg base A outer s H)(C:Addr)(us:List Value)(kw:List (Str×Value)) :
  fc P w K mg base (A.under (.builtin "type.__call__" ⟨.ref C::us,kw⟩)) outer s H:=⟨by first | exact e.frames | (simpa [Around.under,Code.envs,Code.isFrame,pushEnvs] using e.frames),e.mod,e.bs,e.oo,e.dN,e.rM,e.aD,e.bare⟩
section
variable {pins:List (Addr×Obj)}{σ:St}{H:Hp}{s s':Shared}
def Inv.xq(I:Inv X pins σ H s):fc X.prog X.w X.K X.mg X.base X.A X.stack s H:=
 ⟨I.ok.frames,I.ok.mod,I.bs,ZT I.ok.oo I.sz,I.stack,I.lU,I.aD,I.bare⟩
def Inv.after(I:Inv X pins σ H s)(h:CE X.stack X.prog X.w H s Q u s'):EP X pins σ Q u s':=by obtain⟨v,H',os,bare,un,M,r,q⟩:=h;obtain⟨N,g,d,t,B⟩:=s';obtain rfl:B=s.os:=os;exact⟨v,H',I.call (h':=N) (g':=g) (d':=d) (t':=t) (ch:=[]) un M bare (λb z=>absurd z (by simp)),r,q⟩
end
def oT(sp:Sp)(iW:List V)(E:XK)(t:TA):TE:=λσ H Q=>t σ H λvs H1=>sp (vs++iW) H1 Q E
inductive Jr(C:Addr)(m:Str)(x:V)(H:Hp)(R:Prop):Prop
 |mk(a:Addr)(dx:Addr)(fs:List (Str×V))(_:x = .ref a)(_:H a=some (.ins C dx fs))(_:fs.lookup m=none)(_:R)
def xX(C:Addr)(m:Str)(sp:Sp)(iW:List V)(E:XK)(ta:TE)(t:TA):TE:=λσ H Q=>ta σ H λx H1=>Jr C m x H1 (t σ H1 λvs H2=>sp (x::(vs++iW)) H2 Q E)
def xY(C:Addr)(sp:Sp)(iW:List V)(E:XK)(t:TA):TE:=λσ H Q=>t σ H λvs H1=>∀ x dx,H1 x=none->H1 dx=none->dx≠x ->
 sp (.ref x::(vs++iW)) (upd (upd H1 dx (.own x)) x (.ins C dx [])) (λv H2=>v = .bf/\Q (.ref x) H2) E
def Binds(K:Fg)(fd:FuncData)(ps:List Str)(ds:List Value):Prop:=
 ∀(s:Shared)(us:List Value),K.In s.heap->(us++ds).length=ps.length->BindsTo s fd ⟨us,[]⟩ (ps.zip (us++ds))
def Binds.all{K:Fg}{fd:FuncData}{ps:List Str}(h:∀ us:List Value,us.length=ps.length->bindArgs fd ⟨us,[]⟩=pure (ps.zip us)):Binds K fd ps []:=λs us _ B=>by
 rw[append_nil]at B ⊢;exact .of_eq (h us B)
def GW(CX:tK)(X:Cx)(E:XK):Prop:=∀(pins:List (Addr×Obj)) (σ:St) (H:Hp) (s:Shared) (e:Value) (s':Shared),Inv X pins σ H s->CX X.stack H s E e s'->X.xe e s'
section
variable {CX:tK}{k:Nat}{f C:Addr}{fd:FuncData}{ps:List Str}{sp:Sp}{iW:List V}{ds:List Value}{E:XK}{x m:Str}{p pos apos:Pos}{e o:Expr}{es:List Expr}{ta:TE}{t:TA}
theorem pE(F:cC X.prog X.w X.K X.mg X.base CX k f fd ps sp)(hr:bK k X.A)(O:Binds X.K fd ps ds)(hd:Vals iW ds)(M:GW CX X E)
  (I:Inv X pins σ H s) (r:Vals vs us) (h:sp (vs++iW) H Q E):wpAny (model X.prog X.w) X.A (call (.ref f) us) (EP X pins σ Q) X.xe s:=by
 have B:Vals (vs++iW) (us++ds):=r.append hd;have N:(us++ds).length=ps.length:=by rw[<- B.length];exact F.len _ _ _ _ h
 refine wpAny_call (codeAny_mono (F.run X.A X.stack s H ⟨us,[]⟩ (us++ds) (vs++iW) Q E hr I.xq (O s us I.d8 N) B h) λr s' hq=>?_);cases r with
 | error e=>exact M pins σ H s e s' I hq
 | ok fl=>
  cases fl with
  | ret u=>exact I.after hq
  | next=>exact False.elim hq
  | brk=>exact False.elim hq
  | cont=>exact False.elim hq
def wC(F:cC X.prog X.w X.K X.mg X.base CX k f fd ps sp)(hr:bK k X.A)(U:Gl X x)(hm:X.mg x=some (.ref f))(S:PySem.W.keepIn X.K (.ref f)=true)(Z:Binds X.K fd ps ds)(hd:Vals iW ds)(O:GW CX X E)
  (ha:PA X (e::es) t) (M:(x==("__debug__" : Str))=false:=by decide) (Y:starEach (e::es) X.env=(false,eval e X.env)::starEach es X.env:=by rfl) (B:(backTo pos (starEach es X.env)).any (·.1)=false:=by rfl) :
  PE X (.Call (.Name x p) (e::es) [] pos) (oT sp iW E t):=by
 intro pins s σ H Q I h;refine wpAny_Call_Name_kw (AK I U hm ?_ M);refine PySem.W.callWith_K (h₀:=X.base) I.ok.mod.CI S (aV (ha pins s σ H _ I h) λus s1 ⟨vs,H1,N,r,q⟩=>⟨N.d8,?_⟩) Y B;exact pE F hr Z hd O N r q
def wx{pl:Sem Bool}(he:PE X o ta)(c:nX X.K C)(hm:Meth X.K C m f)(F:cC X.prog X.w X.K X.mg X.base CX k f fd ps sp)(hr:bK k X.A)(hb:Binds X.K fd ps ds)(hd:Vals iW ds)(Y:GW CX X E)(ha:PA X (e::es) t)
  (B:starEach (e::es) X.env=(false,eval e X.env)::starEach es X.env:=by rfl) (M:(backTo pos (starEach es X.env)).any (·.1)=false:=by rfl)
  (Z:eval (.Call (.Attribute o m apos) (e::es) [] pos) X.env=(do
   let ov <- eval o X.env
   standAt apos.atName
   let (f,first) <- holding [ov] (getMethod ov m pl)
   callWith pos f first (backTo pos (starEach (e::es) X.env)) (backToKw pos (keywordEach [] X.env))):=by rfl) :
  PE X (.Call (.Attribute o m apos) (e::es) [] pos) (xX C m sp iW E ta t):=by
 intro pins s σ H Q I h;refine PySem.W.methodCall_KW (pl:=pl) (aV (he s σ H _ I h) ?_) Z;rintro u O ⟨x,H1,N,S,a,dx,fs,rfl,ea,l,q⟩;obtain rfl:u=Value.ref a:=S;refine OQ N ea c hm l ?_;refine PySem.W.callWith_K (first:=[.ref a]) (h₀:=X.base) I.ok.mod.CI hm.kp (aV (ha pins O σ H1 _ N q) ?_) B M;rintro us s2 ⟨vs,H2,I2,r,U⟩;exists I2.d8;exact pE (us:=.ref a::us) (vs:=.ref a::vs) F hr hb hd Y I2 (.cons J r) U
structure Mk(K:Fg)(C f:Addr):Prop where
 makes:PySem.W.makesIn K C=true
 init:PySem.W.findIn K (.ref C) "__init__" = some (some (.ref f))
 fn:PySem.W.isFn K (.ref f)=true
 kp:PySem.W.keepIn K (.ref C)=true
theorem pD(M:Mk X.K C f)(F:cC X.prog X.w X.K X.mg X.base CX k f fd ps sp)(hr:bK (k+1) X.A)(Y:Binds X.K fd ps ds)(hd:Vals iW ds)
  (U:GW CX X E) (I:Inv X pins σ H s) (r:Vals vs us)
  (h:∀ x dx,H x=none->H dx=none->dx≠x->sp (.ref x::(vs++iW)) (upd (upd H dx (.own x)) x (.ins C dx [])) (λv H2=>v = .bf/\Q (.ref x) H2) E) :
  wpAny (model X.prog X.w) X.A (call (.ref C) us) (EP X pins σ Q) X.xe s:=by
 have hq:=h (s.heap.objs.size+1) s.heap.objs.size (I.aD.fresh (Nat.le_succ _)) (I.aD.fresh (ZF _)) (WN (Nat.lt_succ_self _));have I2:=Inv.made (C:=C) I;have N:Vals (V.ref (s.heap.objs.size+1)::(vs++iW)) (Value.ref (s.heap.objs.size+1)::(us++ds)):=.cons J (r.append hd);have W:(Value.ref (s.heap.objs.size+1)::us++ds).length=ps.length:=by have e:=N.length;rw[F.len _ _ _ _ hq]at e;exact e.symm
 refine wpAny_call (qW (f:=f) I.d8 M.makes M.init (beq_iff_eq.mp M.fn) (codeAny_mono (F.run _ X.stack _ _ ⟨Value.ref (s.heap.objs.size+1)::us,[]⟩ (Value.ref (s.heap.objs.size+1)::(us++ds)) _ _ E (hr.make C us [])
  (I2.xq.make C us []) (Y _ (Value.ref (s.heap.objs.size+1)::us) I2.d8 W) N hq) λr s' B=>?_))
 cases r with
 | error e=>exact U pins σ _ _ e s' I2 B
 | ok fl=>
  cases fl with
  | ret u=>obtain⟨v,H',I3,O,Z,S⟩:=I2.after B;subst Z;exact⟨O,⟨V.ref (s.heap.objs.size+1),H',I3,J,S⟩⟩
  | next=>exact False.elim B
  | brk=>exact False.elim B
  | cont=>exact False.elim B
def wz(M:Mk X.K C f)(F:cC X.prog X.w X.K X.mg X.base CX k f fd ps sp)(hr:bK (k+1) X.A)(U:Gl X x)(hm:X.mg x=some (.ref C))(Z:Binds X.K fd ps ds)(hd:Vals iW ds)(S:GW CX X E)
  (ha:PA X (e::es) t) (N:(x==("__debug__" : Str))=false:=by decide) (Y:starEach (e::es) X.env=(false,eval e X.env)::starEach es X.env:=by rfl) (B:(backTo pos (starEach es X.env)).any (·.1)=false:=by rfl) :
  PE X (.Call (.Name x p) (e::es) [] pos) (xY C sp iW E t):=by
 intro pins s σ H Q I h;refine wpAny_Call_Name_kw (AK I U hm ?_ N);refine PySem.W.callWith_K (h₀:=X.base) I.ok.mod.CI M.kp (aV (ha pins s σ H _ I h) λus s1 ⟨vs,H1,O,r,q⟩=>⟨O.d8,?_⟩) Y B;exact pD M F hr Z hd S O r q
end
section
variable {CX:tK}{k:Nat}{f C:Addr}{fd:FuncData}{ps ks:List Str}{sp:Sp}{E:XK}{x m:Str}{p pos apos Zf:Pos}{e o:Expr}{es:List Expr}{kws:List Keyword}{te ta:TE}{t tk:TA}{nm:Option Str}
structure VY(K:Fg)(fd:FuncData)(ps ks:List Str)(g:List Value->List Value->List Value)(gV:List V->List V->List V):Prop where
 to:∀(s:Shared)(us ws:List Value),K.In s.heap->(g us ws).length=ps.length->BindsTo s fd ⟨us,ks.zip ws⟩ (ps.zip (g us ws))
 rel:∀{vs:List V}{us:List Value}{zs:List V}{ws:List Value},Vals vs us->Vals zs ws->Vals (gV vs zs) (g us ws)
variable {g:List Value->List Value->List Value}{gV:List V->List V->List V}
end
structure aa(N P:List Str)(sc:Scope):Prop where
 kind:sc.kind = .function
 co:sc.isCoroutine=false
 gen:sc.isGenerator=false
 nd:N.Nodup
 pre:N.take P.length=P
 par:∀ x∈P,sc.names.lookup x=some .local\/sc.names.lookup x=some .cell
 BK:∀ y∈sc.names,y.2 ≠ .free
theorem F_{kindOf:Str->Option NameKind}{x:Str}:∀{binds:List (Str×Value)} {m:Mg},(∀ v,(x,v) ∉ binds)->bindL kindOf binds m x=m x
 | [],_,_=>rfl
 | (n,v)::r,m,h=>by
  unfold bindL;rw[F_ λw hw=>h w (ZU _ hw)];split
  ·have:x≠n:=by rintro rfl;exact h v ZQ
   simp[this]
  ·rfl
theorem F9{kindOf:Str->Option NameKind}{x:Str}:∀{binds:List (Str×Value)} {m:Mg},(∀ v,(x,v) ∉ binds)->bindC kindOf binds m x=m x
 | [],_,_=>rfl
 | (n,v)::r,m,h=>by
  unfold bindC;rw[F9 λw hw=>h w (ZU _ hw)];split
  ·rfl
  ·have:x≠n:=by rintro rfl;exact h v ZQ
   simp[this]
theorem pT{kindOf:Str->Option NameKind}{x:Str}{v:Value}{P:List Str}{vs:List Value}{i:Nat}{m:Mg}(nd:P.Nodup)(h1:P[i]? = some x)(h2:vs[i]? = some v)(hk:kindOf x=some .local):
  bindL kindOf (P.zip vs) m x=some v:=by
 induction P generalizing vs i m with
 | nil=>simp at h1
 | cons p P q=>
  obtain _ | ⟨w,vs⟩:=vs
  ·simp at h2
  obtain _ | i:=i
  ·cases h1;cases h2;show bindL kindOf ((x,v)::P.zip vs) m x=_;unfold bindL;rw[F_ λv B=>(List.nodup_cons.mp nd).1 (of_mem_zip B).1,ZL hk];simp

  ·show bindL kindOf ((p,w)::P.zip vs) m x=_;unfold bindL;exact q (i:=i) (List.nodup_cons.mp nd).2 (by simpa using h1) (by simpa using h2)
theorem Qv{kindOf:Str->Option NameKind}{x:Str}{v:Value}{P:List Str}{vs:List Value}{i:Nat}{m:Mg}(nd:P.Nodup)(h1:P[i]? = some x)(h2:vs[i]? = some v)(hk:kindOf x≠some .local):
  bindC kindOf (P.zip vs) m x=some v:=by
 induction P generalizing vs i m with
 | nil=>simp at h1
 | cons p P q=>
  obtain _ | ⟨w,vs⟩:=vs
  ·simp at h2
  obtain _ | i:=i
  ·cases h1;cases h2;show bindC kindOf ((x,v)::P.zip vs) m x=_;unfold bindC;rw[F9 λv B=>(List.nodup_cons.mp nd).1 (of_mem_zip B).1,ZJ hk];simp

  ·show bindC kindOf ((p,w)::P.zip vs) m x=_;unfold bindC;exact q (i:=i) (List.nodup_cons.mp nd).2 (by simpa using h1) (by simpa using h2)
def start(N:List Str)(vs:List V):St:=vs.map some++List.replicate (N.length-vs.length) none
noncomputable def jb(CX:tK)(P:Program)(w:World)(K:Fg)(mg:Mg)(base:Heap)(N:List Str)(qual:Str)(scope:Scope)(f:Addr)(I:Value)(A:Around)(outer:List Env)(s:Shared)(H:Hp)(E:XK):Cx where
 prog:=P
 w:=w
 K:=K
 mg:=mg
 base:=base
 A:=A.deeper (envOfC qual scope s.heap.objs.size f I)
 N:=N
 s₀:=s
 H₀:=H
 env:=envOfC qual scope s.heap.objs.size f I
 outer:=outer
 stack:=envOfC qual scope s.heap.objs.size f I::outer
 ex:=[]
 calm:=true
 fn:=λ_=>true
 pn:=[]
 xe:=λe s'=>wpAny (model P w) (A.deeper (envOfC qual scope s.heap.objs.size f I)) (leaving (envOfC qual scope s.heap.objs.size f I) e) (λ_ B=>CX outer H s E e B) (λM B=>CX outer H s E M B) s'
def Fe{sc:Scope}{n:Nat}(h:sc.names.lookup x=some .cell):∃ c,(cellsFrom n sc.names []).lookup x=some c:=by have q:=PySem.W.cellsFrom_some sc.names n [] (.inl h);exact Option.isSome_iff_exists.mp q
def Es{CX:tK}{P:Program}{w:World}{K:Fg}{mg:Mg}{base:Heap}{N ps:List Str}{qual:Str}{scope:Scope}{f:Addr}{U:Value}{A:Around}{outer:List Env}{s W:Shared}{H:Hp}{E:XK}{us:List Value}{vs:List V}
  (S:aa N ps scope) (hd:A.handled=none) (B:fc P w K mg base A outer s H) (hl:vs.length=ps.length) (r:Vals vs us)
  (x:InCallC s s.heap.objs.size (bindL (envOfC qual scope s.heap.objs.size f U).kindOf (ps.zip us) λ_=>none) (cellsFrom (s.heap.objs.size+1) scope.names []) (bindC (envOfC qual scope s.heap.objs.size f U).kindOf (ps.zip us) λ_=>none) W) :
  Inv (jb CX P w K mg base N qual scope f U A outer s H E) [] (start N vs) H W:=by
 have Li:ps.length<=N.length:=by have:=congrArg List.length S.pre;rw[WL]at this;lia
 obtain⟨h1,tk,rfl,Z⟩:=x.done;have I:∀ b:Addr,b ∉ (jb CX P w K mg base N qual scope f U A outer s H E).ex:=λb z=>absurd (show b∈([]:List Addr)from z) (by simp);refine⟨⟨B.mod,S.kind,J,J,ZF _,λy z c h1 h2=>?_,λy M=>?_,λy c _ h=>?_,λ_=>hd,Around.frames_deeper B.frames,.inr ⟨J,J⟩,λb z=>absurd z (I b),B.bs,B.oo,λb _ _=>I b,λb z=>absurd z (I b),B.dN,B.rM⟩,
  rfl,B.bare,Un.kept Z,⟨_,x.toInCall.ns,λi y v h1 h2 h3=>?_⟩,λy c h=>⟨_,x.cell y c h⟩,B.aD.fresh (ZF _),λy c h=>?_,λp hp=>absurd (show p∈([]:List (Addr×Obj))from hp) (by simp),B.aD.kept Z,?_⟩
 ·exact name_of_addr x.apart (PySem.mem_of_lookup h1) (PySem.mem_of_lookup h2)
 ·have M:scope.names.lookup y=some .cell\/scope.names.lookup y=some .free:=M;rcases M with M | M
  ·exact Fe M
  ·exact absurd J (S.BK _ (PySem.mem_of_lookup M))
 ·exact Nat.le_of_lt (x.above y c (PySem.mem_of_lookup h))
 ·have hi:i<vs.length:=by
   unfold start at h2;by_cases hi:i<vs.length
   ·exact hi
   ·rw[WM (by simpa using hi)]at h2;rw[getElem?_replicate]at h2;split at h2 <;> cases h2
  have ha:vs[i]? = some v:=by
   unfold start at h2;rw[WO (by simpa using hi),WE]at h2;cases e:vs[i]? with
   | none=>rw[e]at h2;cases h2
   | some a=>rw[e]at h2;cases h2;rfl
  obtain⟨u,Y,rv⟩:=r.get ha;have hp:ps[i]? = some y:=by rw[<- S.pre,getElem?_take_of_lt {}];exact h1
  have O:ps.Nodup:=by rw[<- S.pre];exact S.nd.sublist (take_sublist _ _)
  exists u,rv;rcases S.par y (ZV hp)with k | k
  ·exact .inl ⟨k,pT O hp Y k⟩
  ·obtain⟨c,e⟩:=Fe (n:=s.heap.objs.size+1) k;refine .inr ⟨.inl k,c,e,?_⟩;have q:=x.cell y c e;rw[Qv O hp Y (by show scope.names.lookup y≠_;rw[k];decide)]at q;exact q
 ·exact B.aD.fresh (Nat.le_of_lt (x.above y c (PySem.mem_of_lookup h)))
 ·unfold start;show _=N.length;rw[ZM,ZK,length_replicate];lia
theorem yv{CX:tK}{P:Program}{w:World}{K:Fg}{mg:Mg}{base:Heap}{k:Nat}{f:Addr}{name qual:Str}{params:Arguments}{body:List Stmt}{scope:Scope}{dV kV doc pm B ct oc:Value}{an od:Option Addr}
  {IU:Array (Option Value)} {N ps:List Str} {sp:Sp} (lk:K.lookup f=some ⟨oc,od,.func (PySem.W.fnOf name qual params body scope dV kV doc pm an B ct),IU⟩) (CW:PySem.W.codeIn K B qual=true) (S:aa N ps scope)
  (len:∀ vs H Q E,sp vs H Q E->vs.length=ps.length)
  (U:∀(A:Around)(outer:List Env)(s:Shared)(H:Hp)(vs:List V)(Q:VK)(E:XK),bK k (A.deeper (envOfC qual scope s.heap.objs.size f B))->sp vs H Q E ->
   ∃ t,jf (jb CX P w K mg base N qual scope f B A outer s H E) body t/\t { nx:=λ_ H'=>Q .bf H',rt:=Q } (start N vs) H) :
  cC P w K mg base CX (k+1) f (PySem.W.fnOf name qual params body scope dV kV doc pm an B ct) ps sp:=by
 refine⟨len,λA outer s H args us vs Q E hr e0 hb r Y=>?_⟩;have hl:=len _ _ _ _ Y;have KX:K.In s.heap:=e0.mod.CI.keeps λb o e=>(e0.bs b o e).1;have lim:s.heap.NoLimit:=e0.mod.nolimit.keeps λb o e=>(e0.bs b o e).1;have O:∀ y∈ps.zip us,scope.names.lookup y.1=some .local\/(scope.names.lookup y.1=some .cell/\((cellsFrom (s.heap.objs.size+1) scope.names []).lookup y.1).isSome=true):=λ⟨n,v⟩ hy=>by
  rcases S.par n (of_mem_zip hy).1 with q | q
  ·exact .inl q
  ·exact .inr ⟨q,PySem.W.cellsFrom_some _ _ _ (.inl q)⟩
 refine codeAny_call_function hr.depth (KX _ _ lk) J S.co S.gen J (PySem.W.codeRec_of KX CW) (hb _ _ _ _ ?_);refine wpAny_newFunctionEnv_cells S.kind O λenv he s1 x=>?_;subst he;refine⟨lim.keeps x.toInCall.keep,codeAny_func ?_⟩;obtain⟨t,ht,hq⟩:=U A outer s H vs Q E (hr.deeper _) Y;have I:Inv (jb CX P w K mg base N qual scope f B A outer s H E) [] (start N vs) H s1:=Es S hr.hd e0 hl r x;refine WX (ht s1 (start N vs) H _ I hq) (λfl s' hs=>?_) λe s' hs=>hs;have Z:∀{σ':St}{H':Hp}{v:V}{u:Value},Inv (jb CX P w K mg base N qual scope f B A outer s H E) [] σ' H' s'->RelV v u->Q v H'->CE outer P w H s Q u s':=
  fun {σ' H' v u} M rv q=>⟨v,H',M.os,M.bare,M.base,M.aD,rv,q⟩
 cases fl with
 | ret u=>obtain⟨v,σ',H',M,rv,q⟩:=hs;exact Z M rv q
 | next=>obtain⟨σ',H',M,q⟩:=hs;exact Z (v:=V.bf) (u:=Value.none) M J q
 | brk=>obtain⟨_,_,_,q⟩:=hs;exact False.elim q
 | cont=>obtain⟨_,_,_,q⟩:=hs;exact False.elim q
section
variable {x:Str}{p pos:Pos}{e:Expr}{es:List Expr}{t:TA}{id T:String}{r:List V->Hp->VK->Prop}
def L3(r:List V->Hp->VK->Prop)(t:TA):TE:=λσ H Q=>t σ H λvs H1=>r vs H1 Q
def cK(hc:b8 X (.builtin id) r)(Y:Gl X x)(hm:X.mg x=none)(U:bootBuiltins x=some (.builtin id))(ha:PA X (e::es) t)(W:x ≠ "__name__" := by decide) (M:(x==("__debug__" : Str))=false:=by decide)
  (Z:starEach (e::es) X.env=(false,eval e X.env)::starEach es X.env:=by rfl) (B:(backTo pos (starEach es X.env)).any (·.1)=false:=by rfl):PE X (.Call (.Name x p) (e::es) [] pos) (L3 r t):=by
 intro pins s σ H Q I h;refine wpAny_Call_Name_kw (qd I Y hm U ?_ W M);exact PyProof.Rows.callWith_builtin1 (aV (ha pins s σ H _ I h) λus N ⟨vs,H1,I1,O,S⟩=>hc pins N σ H1 vs us Q I1 O S) Z B
def ei(hc:b8 X (.type T) r)(Y:Gl X x)(hm:X.mg x=none)(U:bootBuiltins x=some (.type T))(ha:PA X (e::es) t)(W:x ≠ "__name__" := by decide) (M:(x==("__debug__" : Str))=false:=by decide)
  (Z:starEach (e::es) X.env=(false,eval e X.env)::starEach es X.env:=by rfl) (B:(backTo pos (starEach es X.env)).any (·.1)=false:=by rfl):PE X (.Call (.Name x p) (e::es) [] pos) (L3 r t):=by
 intro pins s σ H Q I h;refine wpAny_Call_Name_kw (qd I Y hm U ?_ W M);exact PyProof.Rows.callWith_type1 (aV (ha pins s σ H _ I h) λus N ⟨vs,H1,I1,O,S⟩=>hc pins N σ H1 vs us Q I1 O S) Z B
end
end L2
namespace HT
set_option autoImplicit false
open PySem PyProof.Rows
section
open PySem.SeqAt
open PySem.AutoSeq1 (wpAny_loadPart')
open PySem.MeetsSeq PySem.MeetsSeq2 PySem.MeetsSeq3
end
section
variable {prog:Program}{w:World}{A:Around}{E:VS}{s:Shared}
def bP(n d:Nat):Option Int->Nat
 | none=>d
 | some v=>if v<0 then(v+(n:Int)).toNat else min v.toNat n
def Kq(n d:Nat):bP n d none=d:=rfl
def Q13(n d k:Nat):bP n d (some (k:Int))=min k n:=by show(if(k:Int)<0 then((k:Int)+(n:Int)).toNat else min (k:Int).toNat n)=min k n;rw[ZJ {},Int.toNat_natCast]
def zg(n d:Nat)(hd:d<=n)(o:Option Int):bP n d o<=n:=by
 cases o with
 | none=>exact hd
 | some v=>
  show(if v<0 then(v+(n:Int)).toNat else min v.toNat n)<=n;by_cases B:v<0
  ·rw[ZL B];lia
  ·rw[ZJ B];exact Nat.min_le_right _ _
def Er(v:Int)(n d:Nat):(if v<0 then max (v+(n:Int)) 0 else min v (n:Int))=((bP n d (some v):Nat):Int):=by
 show(if v<0 then max (v+(n:Int)) 0 else min v (n:Int))=(((if v<0 then(v+(n:Int)).toNat else min v.toNat n):Nat):Int);by_cases B:v<0
 ·simp only[ZL B];lia
 ·simp only[ZJ B];lia
def OM(lo hi:Option Int)(n:Nat):Builtin.Slice.sliceAdjust lo hi 1 (n:Int)=(((bP n 0 lo:Nat):Int),((bP n n hi:Nat):Int)):=by
 have h1:¬((1:Int)<0):={}
 unfold Builtin.Slice.sliceAdjust;simp only[h1,if_false];refine Prod.ext ?_ ?_
 ·cases lo with
  | none=>rfl
  | some v=>exact Er v n 0
 ·cases hi with
  | none=>rfl
  | some v=>exact Er v n n
def OL(i j:Nat):Builtin.Slice.slicePlaces (i:Int) (j:Int) 1=j-i:=by
 unfold Builtin.Slice.slicePlaces;have h1:(1:Int) > 0:=(by lia)
 simp only[h1,if_true,Int.ediv_one];split <;> lia
def GV{v:Value}{o:Option Int}{Q:Option Int->Shared->Prop}(p:IsPart v o)(h:Q o s):wpAny (model prog w) A (Builtin.Slice.slicePartIndex v) Q E s:=by
 cases p with
 | none=>exact slicePart_none h
 | int i t=>exact slicePart_int h
def To{O:Addr}{N M:Value}{lo hi:Option Int}{n:Nat}{Q:Int×Int×Nat->Shared->Prop}(hs:s.heap.IsSliceOf O N M .none)(pl:IsPart N lo)(S:IsPart M hi)
  (h:Q (((bP n 0 lo:Nat):Int),1,bP n n hi-bP n 0 lo) s):wpAny (model prog w) A (Builtin.Slice.sliceApplied (.ref O) (pure (n:Int))) Q E s:=by
 obtain⟨os,B,U,I⟩:=id hs;unfold Builtin.Slice.sliceApplied Builtin.Slice.sliceFields;refine ZA (ZA (YD B I (x:=N) J (ZA (YD B I (x:=M) J (ZA (YD B I (x:=.none) J (ZO ?_)))))));refine ZA (slicePart_none ?_);show wpAny _ _ (if((1:Int)==0)=true then _ else _) _ _ s;rw[ZJ ∅];refine ZA (GV pl (ZA (GV S (ZA (ZO ?_)))));show wpAny _ _ (match Builtin.Slice.sliceAdjust lo hi 1 (n:Int)with | (lo,hi)=>pure (lo,(1:Int),Builtin.Slice.slicePlaces lo hi 1)) _ _ s;rw[OM lo hi n];show wpAny _ _ (pure (((bP n 0 lo:Nat):Int),(1:Int),Builtin.Slice.slicePlaces ((bP n 0 lo:Nat):Int) ((bP n n hi:Nat):Int) 1)) _ _ s;rw[OL];exact ZO h
def qA(xs:Array Value)(i k:Nat):((List.range k).filterMap λ(m:Nat)=>xs[((i:Int)+(m:Int)*1).toNat]?).toArray=((xs.toList.drop i).take k).toArray:=by
 have e:(λ(m:Nat)=>xs[((i:Int)+(m:Int)*1).toNat]?)=λm=>xs[i+m]?:=by
  funext m;have:((i:Int)+(m:Int)*1).toNat=i+m:={}
  rw[this]
 rw[e];have:=pick_run xs i k;rw[List.filterMap_map]at this;have B:((λx=>xs[x]?)∘λx=>i+x)=λm=>xs[i+m]?:=J;rw[B]at this;rw[this]
def OK{t M:Addr}{items:Array Value}{Y W:Value}{lo hi:Option Int}{Q:VS}(I:IsTup s.heap t items)(hs:s.heap.IsSliceOf M Y W .none)(pl:IsPart Y lo)(Z:IsPart W hi)
  (hw:¬(bP items.size 0 lo=0/\bP items.size items.size hi=items.size))
  (h:Q (.ref s.heap.objs.size) { s with heap:=s.heap.push { cls:=.type "tuple", data:=.seq ((items.toList.drop (bP items.size 0 lo)).take (bP items.size items.size hi-bP items.size 0 lo)).toArray } })
  (hsz:items.size<=sizeLine):wpAny (model prog w) A (getItem (.ref t) (.ref M)) Q E s:=by
 have B:sizeOk (.seq ((items.toList.drop (bP items.size 0 lo)).take (bP items.size items.size hi-bP items.size 0 lo)).toArray):=by show((items.toList.drop (bP items.size 0 lo)).take (bP items.size items.size hi-bP items.size 0 lo)).toArray.size<=sizeLine;rw[List.size_toArray,List.length_take,List.length_drop,WY];omega
 have hj:bP items.size items.size hi<=items.size:=zg _ _ (ZF _) hi;obtain⟨os,N,S,hds⟩:=id hs;have U:s.TypeIs (.ref M) "slice" := ⟨os,N,S⟩
 unfold getItem
 try with_reducible refine YU ?_
 first | refine ZA (ZO ?_) | skip
 refine ZA (wpAny_sequenceKey I.typeIs ∅ ?_);refine ZA (YE (name:=Str.ofString "__getitem__") I.typeIs PyProof.Rows.slot_tuple_getitem
  (YJ PyProof.Rows.slot_tuple_getitem I.typeIs entry_tuple_getitem ?_ (args_tuple_getitem _ _)))
 show wpAny _ _ (Builtin.Tuple.tupleItemsOf (.ref t) >>= _) _ _ s;refine ZA (tupleItemsOf_ I ?_);refine ZA (wpAny_typeOf U ?_);rw[ZL ∅];refine ZA (To hs pl Z ?_);have O:¬((((bP items.size 0 lo:Nat):Int)==0&&(1:Int)==1&&(bP items.size items.size hi-bP items.size 0 lo)==items.size)=true):=by intro q;rw[WZ,WZ]at q;have q1:((bP items.size 0 lo:Nat):Int)=0:=eq_of_beq q.1.1;have q2:bP items.size items.size hi-bP items.size 0 lo=items.size:=eq_of_beq q.2;exact hw ⟨(by omega),(by omega)⟩
 show wpAny _ _ (if(((bP items.size 0 lo:Nat):Int)==0&&(1:Int)==1&&(bP items.size items.size hi-bP items.size 0 lo)==items.size)=true then _ else _) _ _ s;rw[ZJ O,qA]
 first
  | exact ZA (m:=Builtin.Tuple.tupleExact _) (YZ (ZO ⟨_,J,ZO h⟩) B)
  | exact ZA (m:=Builtin.Tuple.tupleExact _) (YZ (ZA (ZO (ZO ⟨_,J,ZO h⟩))) B)
  | exact ZA (ZA (m:=Builtin.Tuple.tupleExact _) (YZ (ZO (ZO ⟨_,J,ZO h⟩)) B))
  | exact ZA (ZA (m:=Builtin.Tuple.tupleExact _) (YZ (ZO ⟨_,J,ZO h⟩) B))
end
end HT
namespace L2
open PySem PySem.Spec PyProof.Rows List
variable {X:Cx}
abbrev TO:=St->Hp->(Option Int->Hp->Prop)->Prop
def PO(X:Cx)(e:Option Expr)(t:TO):Prop:=
 ∀⦃pins:List (Addr×Obj)⦄ (s:Shared) (σ:St) (H:Hp) (Q:Option Int->Hp->Prop),Inv X pins σ H s->t σ H Q ->
  wpAny (model X.prog X.w) X.A (evalPart e X.env) (λu s'=>aO λo H'=>aP (Inv X pins σ H' s') (IsPart u o) (Q o H')) X.xe s
def uu:TO:=λ_ H Q=>Q none H
inductive Jq(x:V)(H:Hp)(Q:Option Int->Hp->Prop):Prop
 |mk(i:Int)(_:x = .int i)(_:Q (some i) H)
def xV(t:TE):TO:=λσ H Q=>t σ H λx H1=>Jq x H1 Q
def GU{ns:List Int}:∀{us:List Value},Vals (ns.map V.int) us->IntsAre us ns:=by
 induction ns with
 | nil=>intro us r;rw[map_nil]at r;cases r;exact .nil
 | cons n ns M=>
  intro us r;rw[YA]at r;cases r with
  | cons I B=>obtain⟨t,e⟩:=I;subst e;exact .cons n t (M B)
section
variable {e:Expr}{te:TE}{lo hi:Option Expr}{tl th:TO}{pos p2:Pos}
def Mt:PO X none uu:=by intro pins s σ H Q I h;rw[evalPart_none];exact ZO ⟨none,H,I,.none,h⟩
def yf(h:PE X e te):PO X (some e) (xV te):=by intro pins s σ H Q I hw;rw[evalPart_some];refine aV (h s σ H _ I hw) λu O ⟨x,H1,N,B,M⟩=>?_;obtain⟨i,rfl,q⟩:=M;obtain⟨t,rfl⟩:=B;exact⟨some i,H1,N,.int i t,q⟩
def LA(X:Cx)(r:V->Option Int->Option Int->Hp->VK->Prop):Prop:=
 ∀(pins:List (Addr×Obj)) (s:Shared) (σ:St) (H:Hp) (x:V) (v I B:Value) (lo hi:Option Int) (M:Addr) (Q:VK),Inv X pins σ H s->RelV x v->s.heap.IsSliceOf M I B .none->IsPart I lo->IsPart B hi->r x lo hi H Q ->
  aO λT id=>aP (typeLookup (.type T) "__getitem__" = pure (some (.builtin id))) (s.TypeIs v T) (wpAny (model X.prog X.w) X.A (getItem v (.ref M)) (EP X pins σ Q) X.xe s)
def Yd(r:V->Option Int->Option Int->Hp->VK->Prop)(te:TE)(tl th:TO):TE:=λσ H Q=>te σ H λx H1=>tl σ H1 λl H2=>th σ H2 λu B=>r x l u B Q
def Am(hr:LA X r)(he:PE X e te)(hl:PO X lo tl)(hu:PO X hi th):PE X (.Subscript e (.Slice lo hi none p2) pos) (Yd r te tl th):=by
 intro pins s σ H Q I h;refine Subscript_ (aV (he s σ H _ I h) ?_);rintro v U ⟨x,H1,I1,W,q1⟩;refine wpAny_Slice (aV (hl U σ H1 _ I1 q1) ?_);rintro N S ⟨l,H2,I2,pl,Z⟩;refine aV (hu S σ H2 _ I2 Z) ?_;rintro M B ⟨u,O,I3,pu,Y⟩;rw[evalPart_none];refine ZO ?_;have I4:Inv X pins σ O { B with heap:=B.heap.push { cls:=.type "slice", data:=.fields #[N,M,.none] } }:=I3.kept (t':=B.toks) λb ob q=>ZE _ q;obtain⟨T,id,hT,ht,hg⟩:=hr pins { B with heap:=B.heap.push { cls:=.type "slice", data:=.fields #[N,M,.none] } } σ O x v N M l u B.heap.objs.size Q I4 W (Heap.IsSliceOf.new ..) pl pu Y;show wpAny (model X.prog X.w) X.A (subscriptTail e (.Slice lo hi none p2) v (.ref B.heap.objs.size)) (EP X pins σ Q) X.xe { B with heap:=B.heap.push { cls:=.type "slice", data:=.fields #[N,M,.none] } };exact tail_any (ops:=[.ref B.heap.objs.size,v]) ht hT hg (by with_unfolding_all rfl)
def dO(xs:List V)(lo hi:Option Int):List V:=(xs.drop (HT.bP xs.length 0 lo)).take (HT.bP xs.length xs.length hi-HT.bP xs.length 0 lo)
def Sg(xs:List V)(lo hi:Option Int):(dO xs lo hi).length<=xs.length:=by unfold dO;rw[WL,length_drop];lia
def Vals.l7(r:Vals xs us):us=[]↔xs=[]:=by
 cases r with
 | nil=>simp
 | cons _ _=>simp
end
def xb(n:Nat)(i:Int):Option Nat:=if 0<=i then(if i<n then some i.toNat else none)else if -(n:Int)<=i then some (i+n).toNat else none
def fC{α:Type}(xs:List α)(i:Int):Option α:=(xb xs.length i).bind λj=>xs[j]?
def zT{n:Nat}{i:Int}{j:Nat}(h:xb n i=some j):seqIndex? i n=some j/\j<n /\ -(n:Int)<=i/\i<n:=by
 unfold xb at h;by_cases B:0<=i
 ·rw[ZL B]at h;by_cases h1:i<n
  ·rw[ZL h1]at h;have e:i.toNat=j:=am h;exact⟨by rw[seqIndex_of B h1,e],{},{},h1⟩
  ·rw[ZJ h1]at h;cases h
 ·rw[ZJ B]at h;by_cases h1:-(n:Int)<=i
  ·rw[ZL h1]at h;have e:(i+n).toNat=j:=am h;exact⟨by rw[seqIndex_neg {} h1,e],{},h1,{}⟩
  ·rw[ZJ h1]at h;cases h
def Pz{α:Type}{xs:List α}{i:Int}{v:α}(h:fC xs i=some v):∃ j,dw (seqIndex? i xs.length=some j) (xs[j]? = some v) (j<xs.length) (-(xs.length:Int)<=i) (i<xs.length):= by
 unfold fC at h;cases e:xb xs.length i with
 | none=>rw[e]at h;cases h
 | some j=>rw[e]at h;obtain⟨h1,h2,I,B⟩:=zT e;exact⟨j,h1,h,h2,I,B⟩
def dm{α:Type}{xs:List α}{j:Nat}{v:α}(h:xs[j]? = some v):fC xs (j:Int)=some v:=by
 have B:j<xs.length:=(ac h).1;have e:xb xs.length (j:Int)=some j:=by unfold xb;rw[ZL {},ZL {}];simp
 unfold fC;rw[e];exact h
def sR{α:Type}(xs:List α)(v:α):fC (xs++[v]) (-1)=some v:=by
 have B:(xs++[v]).length=xs.length+1:=by simp
 have e:xb (xs++[v]).length (-1)=some xs.length:=by unfold xb;rw[B,ZJ ∅,ZL {}];congr 1;lia
 unfold fC;rw[e];show(xs++[v])[xs.length]? = some v;simp
def zS(b:Expr):Prop:=∀ o i,subscripted b false o i=operate [o,i] (getItem o i)
def ow(X:Cx)(r:R2):Prop:=
 ∀(value slice:Expr) (pins:List (Addr×Obj)) (s:Shared) (σ:St) (H:Hp) (x y:V) (v u:Value) (Q:VK),Inv X pins σ H s->RelV x v->RelV y u->r x y H Q ->
  subscripted slice false v u=operate [v,u] (getItem v u)->wpAny (model X.prog X.w) X.A (subscriptTail value slice v u) (EP X pins σ Q) X.xe s
def xM(X:Cx)(id:String)(r:V->List V->Hp->VK->Prop):Prop:=
 ∀(pins:List (Addr×Obj)) (s:Shared) (σ:St) (H:Hp) (x:V) (xs:List V) (v:Value) (us:List Value) (Q:VK),Inv X pins σ H s->RelV x v->Vals xs us->r x xs H Q ->
  wpAny (model X.prog X.w) X.A (call (.builtin id) (v::us)) (EP X pins σ Q) X.xe s
section
variable{a b:Expr}{ta tb:TE}{pos:Pos}
def yj(hr:ow X r)(S:PE X a ta)(O:PE X b tb)(hs:zS b):PE X (.Subscript a b pos) (tO r ta tb):=by intro pins s σ H Q I h;exact Subscript_ (Cm S O I h λv u B x y H2 I2 N M q=>hr a b pins B σ H2 x y v u Q I2 N M q (hs _ _))
inductive DA(K:Fg)(x y:V)(H:Hp)(Q:VK):Prop
 |mk(p:Addr)(xs:List V)(i:Int)(v:V)(_:x = .ref p)(_:y = .int i)(_:ao K H p xs)(_:fC xs i=some v)(_:Q v H)
inductive zp(K:Fg)(x y:V)(H:Hp)(Q:VK):Prop
 |mk(p:Addr)(xs:List V)(i:Int)(v:V)(_:x = .ref p)(_:y = .int i)(_:au K H p xs)(_:fC xs i=some v)(_:Q v H)
inductive Mb  (x:V) (y:V) (H:Hp) (Q:VK):Prop
 |mk(z i c)(_:x = .str z)(_:y = .int i)(_:z.length<=sizeLine)(_:fC z.cps.toList i=some c)(_:Q (.str ⟨#[c]⟩) H)
def vB:ow X (DA X.K):=by
 intro value slice pins s σ H x y v u Q I Y W h hs;obtain⟨p,xs,i,z,rfl,rfl,hq,he,q⟩:=h;cases Y;obtain⟨t,rfl⟩:=W;obtain⟨N,r,pl,hz⟩:=I.list hq;obtain⟨j,h1,h2,h3,h4,h5⟩:=Pz he;obtain⟨w,U,M⟩:=r.get h2;have Z:=r.length;have hn:=GX;have B:EP X pins σ Q w s:=⟨z,H,I,M,q⟩
 by_cases S:0<=i
 ·have O:i.toNat=j:=by rw[seqIndex_of S h5]at h1;exact am h1
  exact item_listR pl.isList S {} (by rw[O];simpa using U) B hs
 ·have O:(i+(N.toArray.size:Int)).toNat=j:=by rw[seqIndex_neg {} h4]at h1;rw[WC,<- Z];exact am h1
  exact subscriptTail_builtinR (x:=w) pl.isList.typeIs slot_list_getitem.lookup
   (wpAny_getItem_list_neg (Q:=λr s'=>r=w/\EP X pins σ Q r s') pl.isList {} (by rw[WC] <;> lia) {} (by rw[O];simpa using U) ⟨J,B⟩) hs
def HG:ow X (zp X.K):=by
 intro value slice pins s σ H x y v u Q I O N h hs;obtain⟨p,xs,i,z,rfl,rfl,hq,W,q⟩:=h;cases O;obtain⟨t,rfl⟩:=N;obtain⟨S,r,pl,Z⟩:=I.tuple hq;obtain⟨j,h1,h2,h3,h4,h5⟩:=Pz W;obtain⟨w,Y,B⟩:=r.get h2;have U:=r.length;have hn:=GX;have M:EP X pins σ Q w s:=⟨z,H,I,B,q⟩
 exact subscriptTail_builtinR (x:=w) pl.typeIs slot_tuple_getitem.lookup
  (getItem_tuple (j:=j) (Q:=λr s'=>r=w/\EP X pins σ Q r s') pl {} {} (by rw[WC,<- U];exact h1) (by simpa using Y) ⟨J,M⟩) hs
def F8:ow X Mb:=by
 intro value slice pins s σ H x y v u Q I M B h hs;obtain⟨z,i,c,rfl,rfl,Z,O,q⟩:=h;obtain⟨t,rfl⟩:=M;obtain⟨t',rfl⟩:=B;obtain⟨j,h1,h2,h3,U,S⟩:=Pz O;have N:z.cps.toList.length=z.length:=by simp[Str.length]
 rw[N]at h1 U S;have hn:=GX;exact tail_any (typeIs_str s z t) slot_str_getitem.lookup (getItem_str (c:=c) (by
  have Y:decide (i < -(2^63:Int))=false:=ZS {};have W:decide (i>=2^63)=false:=ZS {};rw[Y,W,Bool.or_false]) (by rw[h1];simpa using h2) ⟨.str ⟨#[c]⟩,H,I.tok _,⟨_,J⟩,q⟩) hs
def OJ(B:List Value)(n j:Nat)(u:Value):Obj.mapSeq (·.setIfInBounds j u) { cls:=.type "list", data:=.seq B.toArray n } = { cls:=.type "list", data:=.seq (B.set j u).toArray n }:=by simp[Obj.mapSeq]
def Inv.lst{s:Shared}(I:Inv X pins σ H s)(h:H p=some (.lst xs)) :
  aO λ(B:List Value) (n:Nat)=>aP (Vals xs B) (s.heap.get? p=some { cls:=.type "list", data:=.seq B.toArray n }) (xs.length<=sizeLine):= by
 obtain⟨z,B,n,r,e⟩:=I.aD p _ h;exact⟨B,n,r,e,z⟩
def Inv.BN{s:Shared}{ys:List V}{B eF:List Value}{n M:Nat}{f:Obj->Obj}(I:Inv X pins σ H s)(h:H p=some (.lst xs))
  (S:s.heap.get? p=some { cls:=.type "list", data:=.seq B.toArray n }) (N:f { cls:=.type "list", data:=.seq B.toArray n } = { cls:=.type "list", data:=.seq eF.toArray M }) (r:Vals ys eF) (O:ys.length<=sizeLine) (t:Nat) :
  Inv X pins σ (upd H p (.lst ys)) { s with heap:=s.heap.update p f,toks:=t }:=by
 have e:(s.heap.update p f).get? p=some { cls:=.type "list", data:=.seq eF.toArray M }:=by rw[Heap.get?_update_self f S (by rw[N] <;> rfl),N]
 refine I.write (x:=p) (e:=p) (by rw[h];trivial) (.inl J) (λb u U q=>(Heap.get?_update_other _ _ (Ne.symm U)).trans q) ⟨_,e⟩ ?_;exact⟨O,eF,M,r,e⟩
inductive Dz  (o:V) (i:V) (v:V) (H:Hp) (Q:Hp->Prop):Prop
 |mk(p xs k j)(_:o = .ref p)(_:i = .int k)(_:H p=some (.lst xs))(_:xb xs.length k=some j)(_:Q (upd H p (.lst (xs.set j v))))
def uY:Ks X Dz:=by
 intro pins s σ H o i v ov iv u Q I ro ri rv h;obtain⟨p,xs,k,j,rfl,rfl,hp,hj,q⟩:=h;cases ro;obtain⟨t,rfl⟩:=ri;obtain⟨B,n,r,M,hz⟩:=I.lst hp;obtain⟨h1,h2,U,S⟩:=zT hj;have N:=r.length;have hn:=GX;have Z:Inv X pins σ (upd H p (.lst (xs.set j v))) { s with heap:=s.heap.update p (Obj.mapSeq (·.setIfInBounds j u)) }:=
  I.BN hp M (OJ B n j u) (r.set rv j) (by rw[length_set];exact hz) s.toks
 by_cases Y:0<=k
 ·have O:k.toNat=j:=by rw[seqIndex_of Y S]at h1;exact am h1
  exact PySem.W.ki_setAt M Y {} (by rw[WC,<- N];exact S) (by rw[O];exact⟨_,Z,q⟩)
 ·have O:(k+(B.toArray.size:Int)).toNat=j:=by rw[seqIndex_neg {} U]at h1;rw[WC,<- N];exact am h1
  exact PySem.W.ki_setBack M {} (by rw[WC,<- N];exact U) {} (by rw[O];exact⟨_,Z,q⟩)
def F5(lo hi:Option Int)(n:Nat):(sliceBounds lo hi none n).1=((HT.bP n 0 lo:Nat):Int)/\(sliceBounds lo hi none n).2.1=((HT.bP n n hi:Nat):Int)/\(sliceBounds lo hi none n).2.2=1:=by
 refine⟨?_,?_,J⟩
 ·cases lo with
  | none=>simp[sliceBounds,HT.bP]
  | some i=>
   simp only[sliceBounds,HT.bP,Option.getD_none,show(1:Int) > 0 by decide,if_true];by_cases h:i<0
   ·simp only[h,if_true] <;> lia
   ·simp only[h,if_false] <;> lia
 ·cases hi with
  | none=>simp[sliceBounds,HT.bP]
  | some i=>
   simp only[sliceBounds,HT.bP,Option.getD_none,show(1:Int) > 0 by decide,if_true];by_cases h:i<0
   ·simp only[h,if_true] <;> lia
   ·simp only[h,if_false] <;> lia
def Gf(B:List Value)(lo hi:Option Int):slicePick B.toArray lo hi none=((B.drop (HT.bP B.length 0 lo)).take (HT.bP B.length B.length hi-HT.bP B.length 0 lo)).toArray:=by obtain⟨h1,h2,I⟩:=F5 lo hi B.toArray.size;unfold slicePick;rw[h1,h2,I];simp only[sliceRange_one,pick_run,WC] <;> rfl
inductive Ma(K:Fg)(x:V)(lo:Option Int)(hi:Option Int)(H:Hp)(Q:VK):Prop
 |mk(a xs)(_:x = .ref a)(_:ao K H a xs)(_:∀ p,H p=none->Q (.ref p) (upd H p (.lst (dO xs lo hi))))
def AW:LA X (Ma X.K):=by intro pins s σ H x v Y W lo hi Z Q I M hs pl N h;obtain⟨a,xs,rfl,U,q⟩:=h;cases M;obtain⟨O,r,B,S⟩:=I.list U;have hlen:=r.length;exists "list", _,slot_list_getitem.lookup,B.isList.typeIs;refine wpAny_getItem_list_slice B.isList hs pl N .none (by simp) ?_ (by rw[WC] <;> lia);rw[Gf,<- hlen];refine⟨.ref s.heap.objs.size,_,I.laid (t':=s.toks) (o:=.lst (dO xs lo hi)) (λb ob q=>ZE _ q) (ZF _) ?_,J,q _ (I.aD.fresh (ZF _))⟩;exact⟨ZT (Sg xs lo hi) S,_,0,(r.drop (HT.bP xs.length 0 lo)).take (HT.bP xs.length xs.length hi-HT.bP xs.length 0 lo),ZY _ J⟩
noncomputable def c5:V->Bool
 | .bf=>true
 | .bl _=>true
 | .int _=>true
 | .str _=>true
 | _=>false
noncomputable def mf:V->V->Bool
 | .bf,.bf=>true
 | .bl a,.bl b=>a==b
 | .bl a,.int b=>(if a then 1 else 0)==b
 | .int a,.bl b=>a==(if b then 1 else 0)
 | .int a,.int b=>a==b
 | .str a,.str b=>a==b
 | _,_=>false
def Nv(I:RelV y u)(B:RelV x v)(N:c5 y=true)(M:c5 x=true):SeqAt.EqAt A s u v (mf y x):=by
 cases y with
 | bf=>
  cases I;cases x with
  | bf=>cases B;exact SeqAt.EqAt.same _
  | bl b=>cases B;exact SeqAt.EqAt.none_bool b
  | int b=>obtain⟨t,rfl⟩:=B;exact SeqAt.EqAt.none_int b t
  | str b=>obtain⟨t,rfl⟩:=B;exact SeqAt.EqAt.none_str b t
  | _=>exact absurd (show false=true from M) fnt
 | bl a=>
  cases I;cases x with
  | bf=>cases B;exact SeqAt.EqAt.bool_none a
  | bl b=>cases B;exact SeqAt.EqAt.bool_bool a b
  | int b=>obtain⟨t,rfl⟩:=B;exact SeqAt.EqAt.bool_int a b t
  | str b=>obtain⟨t,rfl⟩:=B;exact SeqAt.EqAt.bool_str a b t
  | _=>exact absurd (show false=true from M) fnt
 | int a=>
  obtain⟨t',rfl⟩:=I;cases x with
  | bf=>cases B;exact SeqAt.EqAt.int_none a t'
  | bl b=>cases B;exact SeqAt.EqAt.int_bool a t' b
  | int b=>obtain⟨t,rfl⟩:=B;exact SeqAt.EqAt.int_int a t' b t
  | str b=>obtain⟨t,rfl⟩:=B;exact SeqAt.EqAt.int_str a t' b t
  | _=>exact absurd (show false=true from M) fnt
 | str a=>
  obtain⟨t',rfl⟩:=I;cases x with
  | bf=>cases B;exact SeqAt.EqAt.str_none a t'
  | bl b=>cases B;exact SeqAt.EqAt.str_bool a t' b
  | int b=>obtain⟨t,rfl⟩:=B;exact SeqAt.EqAt.str_int a t' b t
  | str b=>obtain⟨t,rfl⟩:=B;exact SeqAt.EqAt.str_str a t' b t
  | _=>exact absurd (show false=true from M) fnt
 | _=>exact absurd (show false=true from N) fnt
noncomputable def rV(x:V)(u:Value):Bool:=match u with
 | .none=>mf .bf x
 | .bool b=>mf (.bl b) x
 | .int i _=>mf (.int i) x
 | .str z _=>mf (.str z) x
 | _=>false
def Nu(r:RelV y u)(f:c5 y=true):rV x u=mf y x:=by
 cases y with
 | bf=>cases r;rfl
 | bl b=>cases r;rfl
 | int i=>obtain⟨t,rfl⟩:=r;rfl
 | str z=>obtain⟨t,rfl⟩:=r;rfl
 | _=>exact absurd (show false=true from f) fnt
theorem Py{x:V}{xs:List V}{us:List Value}(h:Vals xs us)(f:xs.all c5=true):us.any (rV x)=xs.any λy=>mf y x:=by
 induction h with
 | nil=>rfl
 | cons r t i=>rw[all_cons,WZ]at f;rw[any_cons,any_cons,Nu r f.1,i f.2]
theorem vx{A:Around}{s:Shared}{x:V}{v:Value}(I:RelV x v)(M:c5 x=true){xs:List V}{us:List Value}(h:Vals xs us)(f:xs.all c5=true):∀ u∈us,SeqAt.EqAt A s u v (rV x u):=by
 induction h with
 | nil=>exact λu B=>by cases B
 | cons r t i=>
  intro u B;rw[all_cons,WZ]at f;rcases ad B with rfl | B
  ·rw[Nu r f.1];exact Nv r I f.1 M
  ·exact i f.2 u B
noncomputable def BX(x:V)(xs:List V):Bool:=xs.any λy=>mf y x
inductive Yz(K:Fg)(neg:Bool)(x:V)(y:V)(H:Hp)(Q:VK):Prop
 |mk(p xs)(_:y = .ref p)(_:(ao K H p xs\/au K H p xs))(_:c5 x=true)(_:xs.all c5=true)(_:Q (.bl (if neg then !BX x xs else BX x xs)) H)
def pS:cy X (compareOp .In) (Yz X.K false):=by
 intro pins s σ H x y v u Q I M O h;obtain⟨p,xs,rfl,hq,N,fs,q⟩:=h;cases O;rcases hq with hq | hq
 ·obtain⟨B,r,pl,S⟩:=I.list hq;refine SeqAt.in_listAt (rV x) pl.isList (λw hw=>vx M N r fs w (by simpa using hw)) ⟨.bl _,H,I,J,?_⟩;rw[show B.toArray.any (rV x)=B.any (rV x) by simp,Py r fs];exact q
 ·obtain⟨B,r,pl,S⟩:=I.tuple hq;refine SeqAt.in_tupleAt (rV x) pl (λw hw=>vx M N r fs w (by simpa using hw)) ⟨.bl _,H,I,J,?_⟩;rw[show B.toArray.any (rV x)=B.any (rV x) by simp,Py r fs];exact q
inductive vQ(K:Fg)(xs:List V)(H:Hp)(Q:VK):Prop
 |mk(p ys)(_:xs=[.ref p])(_:(ao K H p ys\/au K H p ys))(_:Q (.int ys.length) H)
def HF:b8 X (.builtin "len") (vQ X.K):=by
 intro pins s σ H xs us Q I r h;obtain⟨p,ys,rfl,hq,q⟩:=h;obtain⟨u,rfl,N⟩:=vals1 r;cases N;have S:=GX;rcases hq with hq | hq
 ·obtain⟨M,B,pl,O⟩:=I.list hq;have hlen:=B.length;exact Calls.call_len_list pl.isList (by simp only[WC] <;> lia) ⟨.int ys.length,H,I.tok _,⟨s.toks+1,by rw[WC,hlen]⟩,q⟩
 ·obtain⟨M,B,pl,O⟩:=I.tuple hq;have hlen:=B.length;exact len_tuple pl (by simp only[WC] <;> lia) ⟨.int ys.length,H,I.tok _,⟨s.toks+1,by rw[WC,hlen]⟩,q⟩
inductive QT  (xs:List V) (H:Hp) (Q:VK):Prop
 |mk(z)(_:xs=[.str z])(_:z.length<=sizeLine)(_:Q (.int z.length) H)
def DX:b8 X (.builtin "len") QT:=by intro pins s σ H xs us Q I r h;obtain⟨z,rfl,B,q⟩:=h;obtain⟨u,rfl,t,rfl⟩:=vals1 r;have M:=GX;exact len_str {} ⟨.int z.length,H,I.tok _,⟨_,J⟩,q⟩
inductive AJ(K:Fg)(xs:List V)(H:Hp)(Q:VK):Prop
 |mk(p ys)(_:xs=[.ref p])(_:(ao K H p ys\/au K H p ys))(_:∀ l,H l=none->Q (.ref l) (upd H l (.lst ys)))
def Mf:b8 X (.type "list") (AJ X.K):=by
 intro pins s σ H xs us Q I r h;obtain⟨p,ys,rfl,hq,q⟩:=h;obtain⟨u,rfl,Y⟩:=vals1 r;cases Y;have S:∀(B:List Value),Vals ys B->ys.length<=sizeLine -> ∀(h':Heap)(N:Nat),(∀ b o',s.heap.get? b=some o'->h'.get? b=some o') ->
   h'.get? s.heap.objs.size=some { cls:=.type "list", dict:=none,data:=.seq B.toArray N,slots:=#[] }->EP X pins σ Q (.ref s.heap.objs.size) { s with heap:=h' }:=λB M O h' N kp e=>
  ⟨.ref s.heap.objs.size,_,I.laid (t':=s.toks) kp (ZF _) (show bg X.prog X.w _ h' _ (.lst ys) from⟨O,B,N,M,e⟩),J,q _ (I.aD.fresh (ZF _))⟩
 rcases hq with hq | hq
 ·obtain⟨B,M,pl,O⟩:=I.list hq;have hlen:=M.length;obtain⟨o,U,W,n,hd⟩:=pl.isList;exact call_list_seq p (.inl J) U W hd (λh' N kp e=>S B M O h' N kp e) (by simp only[WC] <;> lia)
 ·obtain⟨B,M,pl,O⟩:=I.tuple hq;have hlen:=M.length;obtain⟨o,U,W,n,hd⟩:=pl;exact call_list_seq p (.inr J) U W hd (λh' N kp e=>S B M O h' N kp e) (by simp only[WC] <;> lia)
inductive RQ(K:Fg)(xs:List V)(H:Hp)(Q:VK):Prop
 |mk(p ys)(_:xs=[.ref p])(_:((ao K H p ys /\ ∀ l,H l=none->Q (.ref l) (upd H l (.tup ys)))\/(au K H p ys/\Q (.ref p) H)))
def AI:b8 X (.type "tuple") (RQ X.K):=by
 intro pins s σ H xs us Q I r h;obtain⟨p,ys,rfl,h⟩:=h;obtain⟨u,rfl,S⟩:=vals1 r;cases S;rcases h with ⟨hq,q⟩ | ⟨hq,q⟩
 ·obtain⟨B,M,pl,N⟩:=I.list hq;have hlen:=M.length;refine call_tuple_list pl.isList (λh' kp=>?_) (by simp only[WC] <;> lia);have O:Inv X pins σ H { s with heap:=h' }:=I.kept (t':=s.toks) kp;have I2:Inv X pins σ (upd H h'.objs.size (.tup ys)) { s with heap:=h'.push { cls:=.type "tuple", data:=.seq B.toArray } }:=
   O.laid (t':=s.toks) (λb o e=>ZE _ e) (ZF _) (show bg X.prog X.w _ _ _ (.tup ys) from⟨N,B,M,IsTup.new _ _⟩)
  exact⟨.ref h'.objs.size,_,I2,J,q _ (O.aD.fresh (ZF _))⟩
 ·obtain⟨B,M,pl,N⟩:=I.tuple hq;exact call_tuple_same pl ⟨.ref p,H,I,J,q⟩
def Wd(K:Fg)(T:String)(x:V)(H:Hp):Prop:=match x with
 | .str _=>T = "str"
 | .int _=>T = "int"
 | .ref p=>(T = "list" /\ ∃ xs,ao K H p xs)\/(T = "tuple" /\ ∃ o,aP (K.lookup p=some o) (o.cls = .type "tuple") (o.dict=none)) \/
   (T = "dict" /\ ((∃ kvs,H p=some (.dK kvs)) \/ ∃ kvs,H p=some (.dT kvs)))\/(T = "set" /\ aO λS n=>H p=some (.set S n))
 | _=>False
theorem yH{s:Shared}(I:Inv X pins σ H s)(r:RelV x v)(ty:Wd X.K T x H) :
  s.TypeIs v T /\ ∀ a,v = .ref a -> ∃ N,s.heap.get? a=some N/\N.dict=none:=by
 cases x with
 | str z=>obtain⟨t,rfl⟩:=r;cases(show T = "str" from ty);exact⟨typeIs_str s z t,λ_ e=>nomatch e⟩
 | int i=>obtain⟨t,rfl⟩:=r;cases(show T = "int" from ty);exact⟨typeIs_int s i t,λ_ e=>nomatch e⟩
 | ref p=>
  cases r;rcases ty with ⟨rfl,xs,hq⟩ | ⟨rfl,o,B,U,hd⟩ | ⟨rfl,B⟩ | ⟨rfl,S,n,B⟩
  ·obtain⟨O,_,pl,_⟩:=I.list hq;refine⟨pl.isList.typeIs,λa e=>?_⟩;cases e;obtain⟨o,n,e,c,hd,_⟩:=pl;exact⟨o,e,hd⟩
  ·refine⟨⟨o,I.d8 p o B,U⟩,λa e=>?_⟩;cases e;exact⟨o,I.d8 _ o B,hd⟩
  ·have z:∃ o,s.heap.get? p=some o/\o.ExactDict:=by
    rcases B with ⟨kvs,B⟩ | ⟨kvs,B⟩
    ·obtain⟨_,_,_,_,o,_,_,e,ex,_⟩:=I.aD p _ B;exact⟨o,e,ex⟩
    ·obtain⟨_,_,_,_,o,_,_,e,ex,_⟩:=I.aD p _ B;exact⟨o,e,ex⟩
   obtain⟨o,e,ex⟩:=z;refine⟨⟨o,e,ex.1⟩,λa M=>?_⟩;cases M;exact⟨o,e,ex.2.1⟩
  ·obtain⟨o,_,_,_,e,ex,_⟩:=I.aD p _ B;refine⟨⟨o,e,ex.1⟩,λa M=>?_⟩;cases M;exact⟨o,e,ex.2.1⟩
 | _=>exact False.elim ty
def Wj(K:Fg)(T:String)(r:V->List V->Hp->VK->Prop)(to:TE)(t:TA):TE:=λσ H Q=>to σ H λx H1=>Wd K T x H1/\t σ H1 λxs H2=>r x xs H2 Q
variable{o e:Expr}{es:List Expr}{to:TE}{t:TA}{name:Str}{apos bN:Pos}{T id:String}{r:V->List V->Hp->VK->Prop}
def bG(pa:PlainAttrs T)(slot:Slot T name id)(S:typeOf (.builtin id)=pure (.type "method_descriptor")) (hm:xM X id r) (ho:PE X o to) (ha:PA X (e::es) t)
  (N:attributeBase o name X.env (eval o X.env)=eval o X.env:=by rfl)
  (O:((backTo bN (starEach (e::es) X.env)).all (λx=>!x.1)&&(backToKw bN (keywordEach [] X.env)).all (λx=>x.1.isSome)
   && decide ((e::es).length+([]:List Keyword).length+(if([]:List Keyword).isEmpty then 0 else 1)<30))=true:=by rfl)
  (M:(apos.endLine==bN.line)=true:=by rfl) (hs:starEach (e::es) X.env=(false,eval e X.env)::starEach es X.env:=by rfl) (B:(backTo bN (starEach es X.env)).any (·.1)=false:=by rfl) :
  PE X (.Call (.Attribute o name apos) (e::es) [] bN) (Wj X.K T r to t):=by
 intro pins s σ H Q I h;refine wpAny_Call_method_late N O M J (aV (ho s σ H _ I h) ?_);rintro v s1 ⟨x,H1,Y,U,ty,q1⟩;obtain⟨h1,h2⟩:=yH Y U ty;exists T,id,pa,slot,S,h1,h2;have W:=@ha bN pins s1 σ H1 _ Y q1;rw[hs]at W ⊢;refine Calls.callWith_builtin (by show(false||(backTo bN (starEach es X.env)).any (·.1))=false;rw[B] <;> rfl) (Calls.evalArgs_plain ?_);refine aV W ?_;rintro us Z ⟨vs,H2,I2,r2,q2⟩;exact hm pins Z σ H2 x vs v us Q I2 U r2 q2
/- xs.append(e),list.index on a Jb tuple .. are xM facts of 06m -/
end
def XU(X:Cx)(id:String)(r:V->List V->Hp->VK->Prop):Prop:=
 ∀(pins:List (Addr×Obj)) (s:Shared) (σ:St) (H:Hp) (x:V) (xs:List V) (v:Value) (us:List Value) (Q:VK),Inv X pins σ H s->RelV x v->Vals xs us->r x xs H Q ->
  wpAny (model X.prog X.w) X.A (call (.builtin id) (v::us)) (EP X pins σ Q) X.xe s
theorem Vals.one{x:V}{us:List Value}(h:Vals [x] us):∃ u,us=[u]/\RelV x u:=by
 obtain _|⟨r,_|_⟩:=h;exact⟨_,J,r⟩
def Vals.reverse{xs:List V}{us:List Value}(h:Vals xs us):Vals xs.reverse us.reverse:=by
 induction h with
 | nil=>exact .nil
 | cons r t B=>rw[List.reverse_cons,List.reverse_cons];exact Vals.append B (.cons r .nil)
theorem Vals.rep{xs:List V}{us:List Value}(h:Vals xs us):∀ k:Nat,Vals (List.replicate k xs).flatten (List.replicate k us).flatten
 | 0=>.nil
 | k+1=>by
  rw[replicate_succ,replicate_succ,flatten_cons,flatten_cons];exact Vals.append h (Vals.rep h k)
theorem F4(B:List Value):∀(k:Nat)(I:List Value),
  List.foldl (λx1 M=>x1++M) I.toArray (List.replicate k B.toArray)=(I++(List.replicate k B).flatten).toArray
 | 0,I=>by simp
 | k+1,I=>by
  have e:I.toArray++B.toArray=(I++B).toArray:=by simp
  have N:(I++B)++(List.replicate k B).flatten=I++(List.replicate (k+1) B).flatten:=by rw[replicate_succ,flatten_cons,YS]
  rw[<- N,<- F4 B k (I++B),<- e,replicate_succ,foldl_cons]
section
variable {pins:List (Addr×Obj)}{σ:St}{H:Hp}{s:Shared}{l b:Addr}{xs ys zs:List V}
def Inv.Jg{B eF:List Value}{n:Nat}{f:Array Value->Array Value}{t':Nat}(I:Inv X pins σ H s)(W:H l=some (.lst xs))
  (e:s.heap.get? l=some { cls:=.type "list", data:=.seq B.toArray n }) (S:f B.toArray=eF.toArray) (N:Vals ys eF) (M:ys.length<=sizeLine) :
  Inv X pins σ (upd H l (.lst ys)) { s with heap:=s.heap.update l (Obj.mapSeq f),toks:=t' }:=by
 have q:=PySem.IsL.update e f;rw[S]at q;refine I.write (x:=l) (e:=l) (by rw[W];exact trivial) (.inl J) (λY u U O=>(Heap.get?_update_other s.heap (Obj.mapSeq f) (Ne.symm U)).trans O) ⟨_,q⟩ ?_;exact⟨M,eF,_,N,q⟩
def Inv.TM{t':Nat}(I:Inv X pins σ H s)(M:Vals ys rj)(B:ys.length<=sizeLine) :
  Inv X pins σ (upd H s.heap.objs.size (.lst ys)) { s with heap:=s.heap.push { cls:=.type "list", data:=.seq rj.toArray },toks:=t' }:=
 I.laid (λ_ _ q=>ZE _ q) (ZF _) ⟨B,rj,0,M,ZY _ J⟩
def Inv.fresh(I:Inv X pins σ H s):H s.heap.objs.size=none:=I.aD.fresh (ZF _)
def Inv.qZ(I:Inv X pins σ H s)(M:H l=some (.lst xs)):xs.length<=sizeLine/\aO λ(B:List Value) (n:Nat)=>aP (Vals xs B) (xs.length=B.length) (s.heap.get? l=some { cls:=.type "list", data:=.seq B.toArray n }):= by
 obtain⟨z,B,n,r,e⟩:=I.aD l _ M;exact⟨z,B,n,r,r.length,e⟩
def qO{n:Nat}(h:n<=sizeLine):Builtin.List.listTooLong n=false:=by unfold Builtin.List.listTooLong;exact ZS {}
end
inductive uP  (x:V) (vs:List V) (H:Hp) (Q:VK):Prop
 |mk(l xs y)(_:x = .ref l)(_:vs=[y])(_:H l=some (.lst xs))(_:xs.length<sizeLine)(_:Q .bf (upd H l (.lst (xs++[y]))))
def ke:XU X "list.append" uP:=by intro pins s σ H x vs v us Q I N O h;obtain⟨l,xs,y,rfl,rfl,M,U,q⟩:=h;cases N;obtain⟨u,rfl,S⟩:=O.one;obtain⟨z,B,n,r,W,e⟩:=I.qZ M;refine call_meets F.slot_list_append ⟨_,e,J⟩ F.entry_list_append (F.args_list_append_2 _ _) (PySem.list_append l B.toArray n u (by rw[WC];lia)) ⟨e,?_⟩;refine⟨.bf,_,I.Jg (eF:=B++[u]) M e (by simp) (r.append (.cons S .nil)) ?_,J,q⟩;rw[ZM,length_singleton];lia
inductive uO  (x:V) (vs:List V) (H:Hp) (Q:VK):Prop
 |mk(l b xs zs)(_:x = .ref l)(_:vs=[.ref b])(_:H l=some (.lst xs))(_:H b=some (.lst zs))(_:xs.length+zs.length<=sizeLine)(_:Q .bf (upd H l (.lst (xs++zs))))
def Nt:XU X "list.extend" uO:=by
 intro pins s σ H x vs v us Q I S U h;obtain⟨l,b,xs,zs,rfl,rfl,O,hB,hz,q⟩:=h;cases S;obtain⟨u,rfl,W⟩:=U.one;cases W;obtain⟨z,M,n,r,hl,e⟩:=I.qZ O;obtain⟨z2,B,Z,Y,Lk,e2⟩:=I.qZ hB;have hsz:M.toArray.size+B.toArray.size<=sizeLine:=by rw[WC,WC];lia
 have N:¬(!M.toArray.isEmpty&&Builtin.List.listTooLong (M.toArray.size+B.toArray.size))=true:=by rw[qO hsz,be];exact fnt
 refine call_meets F.slot_list_extend ⟨_,e,J⟩ F.entry_list_extend (F.args_list_extend_2 _ _)
  (AutoSeq1.list_extend_list_list_0 l M.toArray n b B.toArray Z N (by rw[WC];lia) {}) ⟨e,e2,?_⟩
 refine⟨.bf,_,I.Jg (eF:=M++B) O e (by simp) (r.append Y) ?_,J,q⟩;rw[ZM];lia
inductive Mc  (x:V) (y:V) (H:Hp) (Q:VK):Prop
 |mk(l b xs zs)(_:x = .ref l)(_:y = .ref b)(_:H l=some (.lst xs))(_:H b=some (.lst zs))(_:xs.length+zs.length<=sizeLine)(_:∀ p,H p=none->Q (.ref p) (upd H p (.lst (xs++zs))))
def Qu:cy X (binaryOp .Add) Mc:=by
 intro pins s σ H x y v u Q I O N h;obtain⟨l,b,xs,zs,rfl,rfl,W,Y,hz,q⟩:=h;cases O;cases N;obtain⟨z,M,n,r,hl,e⟩:=I.qZ W;obtain⟨z2,B,n2,S,U,e2⟩:=I.qZ Y;refine PySem.P.add_list e e2 ?_ (by rw[WC,WC];lia);have Z:M.toArray++B.toArray=(M++B).toArray:=by simp
 rw[Z];exact⟨.ref _,_,I.TM (t':=s.toks) (r.append S) (by rw[ZM];lia),J,q _ I.fresh⟩
def len_rep{α:Type}(xs:List α)(k:Nat):(List.replicate k xs).flatten.length=k*xs.length:=by
 induction k with
 | zero=>simp
 | succ k B=>rw[replicate_succ,flatten_cons,ZM,B,Nat.succ_mul,Nat.add_comm]
section
variable {prog:Program}{w:World}{A:Around}{E:VS}{s:Shared}
set_option maxRecDepth 100000 in
end
end L2
namespace Att
set_option autoImplicit false
open PySem PySem.W PySem.Calls PyProof.Rows
def Hr{P:Params}{h:Heap}:∀(ns:List Int)(vs:List Value),WellAll P h vs (ns.map WData.int)->IntsAre vs ns:=by
 intro ns
 induction ns with
 | nil=>intro vs w;rw[List.map_nil]at w;cases w;exact .nil
 | cons n ns B=>
  intro vs w;rw[List.map_cons]at w;cases w with
  | cons a b=>cases a;exact .cons _ _ (B _ b)
theorem Nr{l:OpenLaw}{n:Nat}(hn:l.most=some n){P:Params}{h:Heap}{args:List WData}{vals:List Value}
  (B:l.row.toRowW.claim.pre args=true) (O:WellAll P h vals args) :
  bR λa vs ns=>dw (vals=[Value.ref a]) (args=[WData.list (ns.map WData.int)]) (h.get? a=some { cls:=.type "list", data:=.seq vs.toArray }) (IntsAre vs ns) (ns.length<=n):= by
 have S:WShape.hasAll [] args [.list .int]=true:=(pre_splitW B).1;have U:l.pre.holds [] { args:=args }=true:=(pre_splitW B).2;obtain⟨d,r,rfl,h1,h2⟩:=hasAllW_cons S;obtain rfl:=hasAllW_nil h2;obtain⟨xs,rfl,h3⟩:=hasW_list h1;obtain⟨ns,rfl⟩:=items_int h3;have hlen:ns.length<=n:=by
  unfold OpenLaw.pre at U;have N:(WTm.not (.lt (.lit (.int (n:Int))) (.len (.arg 0)))).holds [] { args:=[.list (ns.map .int)] }=true:=by have N:=(holds_andW U).1;rw[hn]at N;exact N
  have M:=condW_of N (w_not (w_lt w_lit (w_len_list (w_arg J))));rw[List.length_map]at M;refine Nat.le_of_not_lt λq=>?_;have q':(n:Int)<((ns.length:Nat):Int):={}
  first
   | (rw[ZG q']at M;exact absurd M ∅)
   | (simp at M;lia)
 cases O with
 | cons Y W=>
  cases W;cases Y with
  | list Z I=>exact⟨_,_,ns,J,J,Z,Hr ns _ I,hlen⟩
def Ep(l:OpenLaw)(args:List WData):l.row.toRowW.claim.post args (.bool true) args=true:=
 postW_of (r:=l.row.toRowW) (X:=(true==true))
  (show WShape.has [] (.bool true) .bool=true by first | rfl | decide | simp[WShape.has,WShape.arms,WShape.armsAll])
  (show(WTm.eq .res (.lit (.bool true))).value [] { args:=args,res:=some (.bool true),after:=args }=some (.bool (true==true))from w_eq_bool (w_res J) w_lit) J
def fL{l:OpenLaw}{n:Nat}{q:Program}{loose:List Str}{XP:(Mg)->Heap->Prop}{YP:World->Heap->Prop}{d:DefRec}
  (hn:l.most=some n) (hdf:d.params.defaults=[])
  (call:∀(w:World)(s₀ s₁:Shared)(mg U:Mg)(N:Addr)(o:Obj)(S O B:Value)(a:Addr)(vs:List Value)(ns:List Int),
   Ground q loose [] XP w s₀ mg U s₁.heap->YP w s₁.heap ->
   s₁.heap.get? N=some o->o.data = .func (docDef d.name d.params d.body d.scope S O B)->s₁.heap.CodeRec O d.name->mg d.name=some (.ref N) ->
   s₁.heap.get? a=some { cls:=.type "list", data:=.seq vs.toArray }->IntsAre vs ns->ns.length<=n->s₁.gens = #[] ->
   codeAny (model l.prog w) callerA (.call (.ref N) ⟨[.ref a],[]⟩) (λr s'=>r = .ok (.ret (.bool true))/\OldK s₁.heap s'.heap/\s'.os=s₁.os/\AllBare s'.gens) s₁) :
  WalkO q loose XP YP l.row.toRowW d [] (λf vs=>PySem.call f vs):=by
 intro w s₀ s₁ mg U G Y N o S O B dV kV ho hd CW hD Z hg args vals as I ab0 hrd W JU;obtain rfl:dV = .none:=Dflts.none hD hdf;obtain rfl:kV = .none:=Dflts.noKw hD;obtain⟨a,vs,ns,rfl,rfl,M,hints,hlen⟩:=Nr hn I W;refine enter_call (codeAny_mono (call w s₀ s₁ mg U N o S O B a vs ns G Y ho (fd_plain hd) CW Z M hints hlen hg) λr s' hq=>?_);obtain⟨rfl,h2,h3,h4⟩:=hq;exact⟨.inl ⟨.bool true,.bool true,[],J,λ_=>J,.bool true,Ep l _,λ_=>⟨List.Pairwise.nil,λ_ hm=>(nomatch hm)⟩⟩,h2,h3,h4⟩
end Att
namespace L2
open PySem PySem.Spec PyProof.Rows List
variable {X:Cx}
theorem kH{vs:List Value}{ns:List Int}(h:IntsAre vs ns):Vals (ns.map V.int) vs:=by
 induction h with
 | nil=>exact .nil
 | cons n t h i=>exact .cons ⟨t,J⟩ i
abbrev C6{K:Fg}{h:Heap}(_:K.In h):Fg:=K
end L2
/- THE ac0 Lz (shape;LID,My.* are V6):
  My.Adr: a structure of X_ addresses Ya XX Wx names (classes,CZ);My.Txt K t: a structure (Prop) of X_ equations over K;
  My.yI:{K} {implicit addresses ..} (e1:nsIn K mainGlobals "law" = some (some (.ref f))) (e2:K.lookup f=some ⟨oc,od,.func (fnOf "law" "law" params body scope dV kV doc pm an Ly ct),sl⟩) (e3:codeIn K Ly "law" = true) .. : ∃ t,My.Txt K t
set_option maxRecDepth 100000 in
set_option maxHeartbeats 0 in
theorem PySem.Challenge.cw_LID_holds : PySem.Challenge.rw_LID.Holds := by
 X1;Wt;TX;(case hw=>yE)
 k_fill
 refine L2.KG (l:=PySem.Challenge.rw_LID) (n:=63) (k:=40) (x := "script") (CX:=λw=>..) (sp:=λ_=>My.oZ) J ∅ J ⟨J,∅,∅⟩ (λw h Y=>PySem.W.kIn_of Y) ?F ?S ?C
 case F=>
  intro w mg Z h O G N;have T:∃ t,My.Txt (L2.C6 O) t:=by
   dsimp only [L2.C6]                          -- K Zb Wk as «<heap const> w.params» for k_is
   refine' My.yI ?e1 ?e2 ?e3 ..
   (case e1=>PySem.W.k_is)                    -- in B order: a name->rj address->rj object->rj parts
   (case e2=>PySem.W.k_is)
   ..
  obtain⟨t,T⟩:=T;have e0:=N.symm.trans (PySem.W.mg_of O G T.law);cases e0                                       -- Z is B Wy own address;exact⟨_,λs u=>.of_eq J,λbase M I=>My.BP T M I⟩     -- if «.of_eq rfl» comes too early: refine' ⟨_,?b,λbase M I=>My.BP T M I⟩;exact λs u=>.of_eq J
 case S=>exact λw H a ns hl hO hS=>..
 case C=>exact ..
(B tactic k_is U no namespace: write k_is) -/
namespace L2
open PySem PySem.Spec PyProof.Rows List
variable {X:Cx}
def vP(s:Stmt):Arguments:=if h:s.ctorIdx=0 then Stmt.FunctionDef.elim s h λ_ a _ _ _ _ _ _ _ _=>a else{ posonlyargs:=[],args:=[],vararg:=none,kwonlyargs:=[],kw_defaults:=[],kwarg:=none,defaults:=[] }
def kc(s:Stmt):List Stmt:=if h:s.ctorIdx=0 then Stmt.FunctionDef.elim s h λ_ _ b _ _ _ _ _ _ _=>b else[]
def aI(s:Stmt):Scope:=if h:s.ctorIdx=0 then Stmt.FunctionDef.elim s h λ_ _ _ _ _ _ a _ _ _=>a else{ kind:=.function,names:=[],isGenerator:=false,isCoroutine:=false }
abbrev il:tK:=λ_ _ _ _ _ _=>False
abbrev E0:XK:=λ_ _ _=>False
def qG:GW il X E0:=λ_ _ _ _ _ _ _ h=>h.elim
structure lS(K:Fg)(x qual:Str)(st:Stmt)(f:Addr)(fd:FuncData):Prop where
 ex:Cn λ(oc:Value) (od:Option Addr) (kV doc pm:Value) (an:Option Addr) (Ly ct:Value) (IU:Array (Option Value))=>aP (fd=PySem.W.fnOf x qual (vP st) (kc st) (aI st) .none kV doc pm an Ly ct) (K.lookup f=some ⟨oc,od,.func fd,IU⟩) (PySem.W.codeIn K Ly qual=true)
 kp:PySem.W.keepIn K (.ref f)=true
section
variable {P:Program}{w:World}{K:Fg}{mg:Mg}{base:Heap}
def lS.ok{x qual:Str}{st:Stmt}{f:Addr}{fd:FuncData}{N ps:List Str}{k:Nat}{sp:Sp}(F:lS K x qual st f fd)(S:aa N ps (aI st))(len:∀ vs H Q E,sp vs H Q E->vs.length=ps.length)
  (I:∀(B:Value)(A:Around)(outer:List Env)(s:Shared)(H:Hp)(vs:List V)(Q:VK)(E:XK),bK k (A.deeper (envOfC qual (aI st) s.heap.objs.size f B))->sp vs H Q E ->
   ∃ t,jf (jb il P w K mg base N qual (aI st) f B A outer s H E).BJ (kc st) t/\t { nx:=λ_ H'=>Q .bf H',rt:=Q } (start N vs) H):cC P w K mg base il (k+1) f fd ps sp:=by
 obtain⟨oc,od,kV,Y,Z,an,B,ct,U,rfl,W,O⟩:=F.ex;refine yv W O S len λA outer s H vs Q E hr M=>?_;obtain⟨t,h,q⟩:=I B A outer s H vs Q E hr M;exact⟨t,h.BJ,q⟩
def LB{x qual:Str}{st:Stmt}{f:Addr}{U:Value}{S O:Option Addr}{M:Array (Option Value)}{kV I N B ct:Value}(l:K.lookup f=some ⟨U,S,.func (PySem.W.fnOf x qual (vP st) (kc st) (aI st) .none kV I N O B ct),M⟩)
  (c:PySem.W.codeIn K B qual=true) (k:PySem.W.keepIn K (.ref f)=true):lS K x qual st f (PySem.W.fnOf x qual (vP st) (kc st) (aI st) .none kV I N O B ct):=⟨⟨U,S,kV,I,N,O,B,ct,M,J,l,c⟩,k⟩
end
def fM{n:Nat}(h:n<=1000):n<sizeLine:=Nat.lt_of_le_of_lt h ∅
def pv(i:Nat){pos:Pos}(M:X.N[i]? = some x:=by rfl)(I:Kn X.env.scope x:=by walk_at "b") (hd:(x==("__debug__" : Str))=false:=by decide)
  (B:(x==("__classdict__" : Str))=false:=by decide):PE X (.Name x pos) (yQ i):=ND M I hd B
def aU{A B:Prop}(h:B):if false=true then A else B:=by rw[ZJ fnt];exact h
def bM{A B:Prop}(h:A):if true=true then A else B:=by rw[ZL J];exact h
def aT{c A B:Prop}[Decidable c](h1:c->A)(h2:¬ c->B):if c then A else B:=by
 by_cases h:c
 ·rw[ZL h];exact h1 h
 ·rw[ZJ h];exact h2 h
def du{c A B:Prop}[Decidable c](I:c)(h:B):if(!decide c)=true then A else B:=by rw[ZG I];exact aU h
def ag(H H':Hp):Prop:=∀ b o,H b=some o->H' b=some o
def ag.refl(H:Hp):ag H H:=λ_ _ h=>h
def ag.trans(a:ag H H1)(b:ag H1 H2):ag H H2:=λc o h=>b c o (a c o h)
def ag.free(e:ag H H')(h:H' l=Option.none):H l=Option.none:=by
 cases q:H l with
 | none=>rfl
 | some o=>rw[e l o q]at h;cases h
def ag.seq{K:Fg}{H H':Hp}{a:Addr}{xs:List V}(e:ag H H')(h:ao K H a xs):ao K H' a xs:=by
 rcases h with (h | ⟨o,h⟩) | h
 ·exact .inl (.inl (e _ _ h))
 ·exact .inl (.inr ⟨o,e _ _ h⟩)
 ·exact .inr h
section
variable {κ:Type}[DecidableEq κ]
noncomputable def eg(kvs:List (κ×V))(k:κ):Option V:=(kvs.find? λB=>decide (B.1=k)).map (·.2)
noncomputable def putK(kvs:List (κ×V))(k:κ)(v:V):List (κ×V):=
 if(kvs.any λB=>decide (B.1=k))=true then kvs.map (λB=>if B.1=k then(B.1,v)else B)else kvs++[(k,v)]
def vg{p:κ×V}(e:p.1=k):eg (p::r) k=some p.2:=by simp[eg,find?_cons,e]
def QS{p:κ×V}(e:¬ p.1=k):eg (p::r) k=eg r k:=by simp[eg,find?_cons,e]
theorem Fd(k:κ):∀ kvs:List (κ×V),(kvs.any λB=>decide (B.1=k))=(eg kvs k).isSome
 | []=>rfl
 | p::r=>by
  rw[any_cons];by_cases e:p.1=k
  ·simp only[vg e,ZG e,Bool.true_or,Option.isSome_some]
  ·rw[QS e,ZS e,Bool.false_or];exact Fd k r
def AV(kvs:List (κ×V))(k:κ)(v:V):(putK kvs k v).length<=kvs.length+1:=by
 unfold putK;split
 ·rw[ZK];lia
 ·rw[ZM,WB,length_nil];lia
def c8.nv{o:Option V}{u:Option Value}(r:c8 o u):o.isSome=u.isSome:=by
 cases o with
 | none=>cases u with
  | none=>rfl
  | some _=>exact(show False from r).elim
 | some _=>cases u with
  | none=>exact(show False from r).elim
  | some _=>rfl
def c8.getD{o:Option V}{u:Option Value}(r:c8 o u)(B:RelV d d'):RelV (o.getD d) (u.getD d'):=by
 cases o with
 | none=>cases u with
  | none=>exact B
  | some _=>exact(show False from r).elim
 | some _=>cases u with
  | none=>exact(show False from r).elim
  | some _=>exact r
def KV.val(r:KV kvs vs)(k:κ):c8 (eg kvs k) (valueAt vs k):=by
 unfold KV at r
 induction r with
 | nil=>exact True.intro
 | @cons p q ps qs h t I=>
  obtain⟨h1,h2⟩:=h;by_cases e:p.1=k
  ·have B:q.1=k:=h1.symm.trans e;have b:valueAt (q::qs) k=some q.2:=by simp[valueAt,find?_cons,B]
   rw[vg e,b];exact h2
  ·have B:¬ q.1=k:=λz=>e (h1.trans z);have b:valueAt (q::qs) k=valueAt qs k:=by simp[valueAt,find?_cons,B]
   rw[QS e,b];exact I
def KV.any{kvs:List (κ×V)}{vs:List (κ×Value)}(r:KV kvs vs)(k:κ):(kvs.any λB=>decide (B.1=k))=vs.any λB=>decide (B.1=k):=by
 unfold KV at r
 induction r with
 | nil=>rfl
 | cons h t I=>rw[any_cons,any_cons,I,h.1]
theorem KV.zj{kvs:List (κ×V)}{vs:List (κ×Value)}(r:KV kvs vs)(k:κ)(I:RelV y u) :
  KV (kvs.map λB=>if B.1=k then(B.1,y)else B) (vs.map λB=>if B.1=k then(B.1,u)else B):=by
 unfold KV at r ⊢
 induction r with
 | nil=>exact .nil
 | @cons p q ps qs h t M=>
  rw[YA,YA];refine .cons ?_ M;obtain⟨h1,h2⟩:=h;by_cases e:p.1=k
  ·rw[ZL e,ZL (h1.symm.trans e)];exact⟨h1,I⟩
  ·rw[ZJ e,ZJ (λz=>e (h1.trans z))];exact⟨h1,h2⟩
def KV.put(r:KV kvs vs)(k:κ)(B:RelV y u):KV (putK kvs k y) (stored vs k u):=by
 unfold putK stored;rw[r.any k];by_cases e:(vs.any λI=>decide (I.1=k))=true
 ·rw[ZL e,ZL e];exact r.zj k B
 ·rw[ZJ e,ZJ e];exact Paired.snoc r ⟨J,B⟩
def KV.length{kvs:List (κ×V)}{vs:List (κ×Value)}(r:KV kvs vs):kvs.length=vs.length:=Paired.length r
end
def ma(r:RelV (kV k) u):(KQ P w).is k u=true:=by
 cases k with
 | inl i=>obtain⟨t,e⟩:=(show ∃ t,u=Value.int i t from r);subst e;exact Aj P w i t
 | inr x=>obtain⟨t,e⟩:=(show ∃ t,u=Value.str x t from r);subst e;exact PF P w x t
theorem F3{P:Program}{w:World}{ks:List Key}{us:List Value}(r:Vals (ks.map kV) us):ItemsAre (KQ P w) ks us:=by
 induction ks generalizing us with
 | nil=>cases r;exact .nil
 | cons k ks i=>cases r with | cons h t=>exact .cons (ma h) (i t)
abbrev KT(H:Hp):List (List Key×V)->List (List Key×Addr×Value)->Prop:=Paired λp q=>p.1=q.1/\H q.2.1=some (.tup (p.1.map kV))/\RelV p.2 q.2.2
def KT.val(r:KT H kvs xs)(k:List Key):c8 (eg kvs k) ((atKey xs k).map (·.2)):=by
 induction r with
 | nil=>exact True.intro
 | @cons p q ps qs h t I=>
  obtain⟨h1,_,h2⟩:=h;by_cases e:p.1=k
  ·have B:q.1=k:=h1.symm.trans e;have b:atKey (q::qs) k=some q.2:=by simp[atKey,find?_cons,B]
   rw[vg e,b];exact h2
  ·have B:¬ q.1=k:=λz=>e (h1.trans z);have b:atKey (q::qs) k=atKey qs k:=by simp[atKey,find?_cons,B]
   rw[QS e,b];exact I
theorem KT.zj{kvs:List (List Key×V)}{xs:List (List Key×Addr×Value)}(r:KT H kvs xs)(k:List Key)(I:RelV y u) :
  KT H (kvs.map λB=>if B.1=k then(B.1,y)else B) (xs.map (putAt k u)):=by
 induction r with
 | nil=>exact .nil
 | @cons p q ps qs h t M=>
  rw[YA,YA];refine .cons ?_ M;obtain⟨h1,h2,N⟩:=h;unfold putAt;by_cases e:p.1=k
  ·rw[ZL e,ZL (h1.symm.trans e)];exact⟨h1,h2,I⟩
  ·rw[ZJ e,ZJ (λz=>e (h1.trans z))];exact⟨h1,h2,N⟩
def KT.put(r:KT H kvs xs)(k:List Key)(M:H b=some (.tup (k.map kV)))(B:RelV y u) :
  KT H (putK kvs k y) (storedH xs k b u):=by
 have e:(kvs.any λI=>decide (I.1=k))=(atKey xs k).isSome:=by rw[Fd,(r.val k).nv,Option.isSome_map]
 unfold putK storedH;rw[e];by_cases q:(atKey xs k).isSome=true
 ·rw[ZL q,ZL q];exact r.zj k B
 ·rw[ZJ q,ZJ q];exact Paired.snoc r ⟨J,M,B⟩
def KT.keeps(r:KT H kvs xs)(B:∀ b ys,H b=some (.tup ys)->H' b=some (.tup ys)):KT H' kvs xs:=
 Paired.fZ r λ_ _ z=>⟨z.1,B _ _ z.2.1,z.2.2⟩
section
variable {P:Program}{w:World}{H:Hp}{h:Heap}{a:Addr}
def x9(ok:c9 P w H h)(e:Rd H a u):bg P w H h a u:=e.ok ok
def jP{kvs:List (Key×V)}(ok:c9 P w H h)(e:Rd H a (.dK kvs)):kvs.length<=sizeLine/\(a==sysModules)=false /\ ∃ vs,KV kvs vs/\h.DictOf (KQ P w) a vs:=
 show bg P w H h a (.dK kvs)from x9 ok e
def yx{kvs:List (Key×V)}(ok:c9 P w H h)(e:H a=some (.dK kvs)):kvs.length<=sizeLine/\(a==sysModules)=false /\ ∃ vs,KV kvs vs/\h.DictOf (KQ P w) a vs:=jP ok (.inl e)
def Fc{ks:List Key}(ok:c9 P w H h)(e:H a=some (.tup (ks.map kV))):(tupleKind (KQ P w)).is h ks a:=by
 obtain⟨_,B,r,o,h1,h2,n,I⟩:=(show bg P w H h a (.tup (ks.map kV))from ok a _ e)
 exact⟨o,B.toArray,n,h1,h2,I,by simpa using F3 r⟩
def jO{kvs:List (List Key×V)}(ok:c9 P w H h)(e:Rd H a (.dT kvs)):kvs.length<=sizeLine/\(a==sysModules)=false /\
  ∃ xs,KT H kvs xs/\h.DictOfH (tupleKind (KQ P w)) a xs:=by
 obtain⟨z,y,xs,r,o,es,ep,h1,h2,O,N,M⟩:=(show bg P w H h a (.dT kvs)from x9 ok e)
 refine⟨z,y,xs,r,o,es,ep,h1,h2,O,N,λx B=>?_,M⟩;have all:∀{l:List (List Key×V)} {m:List (List Key×Addr×Value)},KT H l m -> ∀ x∈m,(tupleKind (KQ P w)).is h x.1 x.2.1:=by
  intro l m q
  induction q with
  | nil=>intro x B;exact nomatch B
  | @cons p q ps qs hq t I=>
   intro x B;rcases ad B with e | B
   ·subst e;exact Fc ok (by rw[<- hq.1];exact hq.2.1)
   ·exact I x B
 exact all r x B
def Kg{kvs:List (List Key×V)}(ok:c9 P w H h)(e:H a=some (.dT kvs)):kvs.length<=sizeLine/\(a==sysModules)=false /\
  ∃ xs,KT H kvs xs/\h.DictOfH (tupleKind (KQ P w)) a xs:=jO ok (.inl e)
end
noncomputable def jh(H:Hp)(a:Addr)(y:V)(r:Option V):Prop:=
 (aO λkvs k=>aP (Rd H a (.dK kvs)) (y=kV k) (r=eg kvs k))\/bR λkvs k b=>cP (Rd H a (.dT kvs)) (y = .ref b) (H b=some (.tup (k.map kV))) (r=eg kvs k)
noncomputable def tF(H:Hp)(a:Addr)(y v:V)(H':Hp):Prop:=
 (aO λkvs k=>cP (H a=some (.dK kvs)) (y=kV k) (kvs.length<sizeLine) (H'=upd H a (.dK (putK kvs k v)))) \/
 bR λkvs k b=>dw (H a=some (.dT kvs)) (y = .ref b) (H b=some (.tup (k.map kV))) (kvs.length<sizeLine) (H'=upd H a (.dT (putK kvs k v)))
def jh.k{H:Hp}{a:Addr}{kvs:List (Key×V)}{k:Key}(e:H a=some (.dK kvs)):jh H a (kV k) (eg kvs k):=.inl ⟨kvs,k,.inl e,J,J⟩
def tF.k{H:Hp}{a:Addr}{kvs:List (Key×V)}{k:Key}{v:V}(e:H a=some (.dK kvs))(B:kvs.length<sizeLine):tF H a (kV k) v (upd H a (.dK (putK kvs k v))):=.inl ⟨kvs,k,e,J,B,J⟩
section
variable {pins:List (Addr×Obj)}{σ:St}{H:Hp}{s:Shared}{a:Addr}{y v:V}{u r:Value}{o:Option V}{A:Around}{E:VS}
def Inv.big(I:Inv X pins σ H s):sysModules<s.heap.objs.size:=by have h:mainGlobals<s.heap.objs.size:=(I.mod.glob.keeps I.bk).lt;exact Nat.lt_trans ∅ h
def Nq(W:A.units+1<cLine)(I:Inv X pins σ H s)(g:jh H a y (some v))(U:RelV y u)(h:∀ N s',Inv X pins σ H s'->RelV v N->Q N s') :
  wpAny (model X.prog X.w) A (getItem (.ref a) u) Q E s:=by
 rcases g with ⟨kvs,k,e,S,l⟩ | ⟨kvs,k,b,e,S,Y,l⟩
 ·subst S;obtain⟨z,hd,vs,M,dd⟩:=jP I.aD e;obtain⟨N,hw,B⟩:=c8.some_of (v:=v) (o:=valueAt vs k) (by rw[l];exact M.val k);exact wpAny_getItem_of (ma U) dd.mapOf hw (h N _ (I.tok _) B)
 ·subst S;cases(show u=Value.ref b from U);obtain⟨z,hd,xs,M,dd⟩:=jO I.aD e;obtain⟨N,hw,B⟩:=c8.some_of (v:=v) (o:=(atKey xs k).map (·.2)) (by rw[l];exact M.val k);obtain⟨p,hp,O⟩:=Option.map_eq_some_iff.mp hw;refine wpAny_getItem_heap (tupleKind_room_in1 W) (Fc I.aD Y) dd hp ?_;rw[O];exact h N _ (I.tok _) B
def Np{h':Heap}{t':Nat}(I:Inv X pins σ H s)(B:Ku (H a))(hs:Heap.SameBut a s.heap h')(M:∃ q,h'.get? a=some q)(new:bg X.prog X.w (upd H a ob) h' a ob) :
  Inv X pins σ (upd H a ob) { s with heap:=h',toks:=t' }:=
 I.write (x:=a) (e:=a) B (.inl J) (λb q N z=>(hs.2 b N).trans z) M new
def Ce{h':Heap}{kvs:List (Key×V)}(z:kvs.length<=sizeLine)(hd:(a==sysModules)=false)(B:KV kvs vs)(dd:h'.DictOf (KQ P w) a vs) :
  bg P w H' h' a (.dK kvs):=⟨z,hd,vs,B,dd⟩
def Eo(hu:A.units+1<cLine)(I:Inv X pins σ H s)(g:tF H a y v H')(W:RelV y u)(Y:RelV v r)(h:∀ s',Inv X pins σ H' s'->Q () s') :
  wpAny (model X.prog X.w) A (setItem (.ref a) u r) Q E s:=by
 rcases g with ⟨kvs,k,e,S,l,U⟩ | ⟨kvs,k,b,e,S,eb,l,U⟩
 ·subst S U;obtain⟨z,hd,vs,B,dd⟩:=yx I.aD e;have N:vs.length<=sizeLine:=by rw[<- B.length];exact z
  have O:(putK kvs k v).length<=sizeLine:=by have:=AV kvs k v;lia
  refine wpAny_setItem_pairs (hsz:=N) (ma W) dd λh' M hs=>h _ ?_;have he:∃ q,h'.get? a=some q:=by obtain⟨q,_,_,hq,_⟩:=M;exact⟨q,hq⟩
  exact Np I (by rw[e];exact True.intro) hs he (Ce O hd (B.put k Y) M)
 ·subst S U;cases(show u=Value.ref b from W);obtain⟨z,hd,xs,B,dd⟩:=Kg I.aD e;have N:xs.length<=sizeLine:=by rw[<- Paired.length B];exact z
  have O:(putK kvs k v).length<=sizeLine:=by have:=AV kvs k v;lia
  refine wpAny_setItem_heap (hsz:=N) (tupleKind_room_in1 hu) (Fc I.aD eb) dd λh' M hs=>h _ ?_;obtain⟨q,es,ep,hq,h2,h3,h4,_,h5⟩:=M;refine Np I (by rw[e];exact True.intro) hs ⟨q,hq⟩ ⟨O,hd,_,(B.put k eb Y).keeps λc ys Z=>?_,q,es,ep,hq,h2,h3,h4,h5⟩;rw[bC (bc Z e (λz=>nomatch z))];exact Z
end
def Kt(i:Expr):Prop:=∀ B I,subscripted i false B I=operate [B,I] (getItem B I)
def uy{prog:Program}{w:World}{A:Around}{E:VS}{s:Shared}{I:Env}{value slice:Expr}{pos:Pos}{T id:String}{Q:VS}
  (N:typeLookup (.type T) "__getitem__" = pure (some (.builtin id))) (hs:Kt slice)
  (h:wpAny (model prog w) A (eval value I) (λo s₁=>wpAny (model prog w) A (eval slice I) (λi s₂=>s₂.TypeIs o T/\wpAny (model prog w) A (getItem o i) Q E s₂) E s₁) E s) :
  wpAny (model prog w) A (eval (.Subscript value slice pos) I) Q E s:=by
 refine Subscript_ (WX h (λo s₁ h₁=>WX h₁ (λi s₂ h₂=>?_) λ_ _ x=>x) λ_ _ x=>x);obtain⟨M,h₂⟩:=h₂;unfold subscriptTail;refine ZA ?_;rw[getitemInPython_of_ne M.not_modules];refine ZA (wpAny_specialOf M N ?_);have B:wpAny (model prog w) A (subscripted slice false o i) (λr s₃=>wpAny (model prog w) A (letTemporaryGo value o r >>= λ_=>pure r) Q E s₃) E s₂:=by rw[hs o i];exact wpAny_operating (WX h₂ (λr s₃ h₃=>ZA (wpAny_letTemporaryGo (ZO h₃))) λ_ _ x=>x)
 first
  | exact ZO (ZA B)
  | exact ZA (ZO (ZA B))
  | exact ZA B
def Px{s:Shared}(I:Inv X pins σ H s)(g:jh H a y o):s.TypeIs (.ref a) "dict" := by
 rcases g with ⟨kvs,k,e,_,_⟩ | ⟨kvs,k,b,e,_,_,_⟩
 ·obtain⟨_,_,vs,_,dd⟩:=jP I.aD e;exact dd.typeIs
 ·obtain⟨_,_,xs,_,dd⟩:=jO I.aD e;exact dd.typeIs
noncomputable def Dm(td ty:TE):TE:=λσ H Q=>td σ H λx H1=>ty σ H1 λy H2=>aO λa v=>aP (x = .ref a) (jh H2 a y (some v)) (Q v H2)
noncomputable def Dv(td ty tv:TE):TS:=λD σ H=>tv σ H λv H1=>td σ H1 λx H2=>ty σ H2 λy I=>aO λa B=>aP (x = .ref a) (tF I a y v B) (D.nx σ B)
section
variable{o i e value:Expr}{pos pos' oH:Pos}{td ty tv:TE}
def wB(W:X.A.units+1<cLine)(Y:PE X o td)(hi:PE X i ty)(hs:Kt i):PE X (.Subscript o i pos) (Dm td ty):=by intro pins s σ H Q I h;refine uy PySem.F.slot_dict_getitem.lookup hs (aV (Y s σ H _ I h) ?_);rintro u M ⟨x,H1,Z,O,U⟩;refine aV (hi M σ H1 _ Z U) ?_;rintro iv s2 ⟨y,H2,I2,N,a,v,rfl,g,S⟩;obtain rfl:u=Value.ref a:=O;exact⟨Px I2 g,Nq W I2 g N λw' s3 I3 B=>⟨v,H2,I3,B,S⟩⟩
def vV(hu:X.A.units+1<cLine)(ho:PE X o td)(hi:PE X i ty)(Z:PE X value tv)(hs:swapsWith value (some (.Subscript o i pos')) pos.line X.env=pure false) :
  PS X (.Assign [.Subscript o i pos'] value pos) (Dv td ty tv):=by
 intro pins s σ H D I h;refine wpAny_Assign_Subscript (aV (Z s σ H _ I h) ?_) hs;rintro r M ⟨v,H1,I1,S,Y⟩;refine aV (ho M σ H1 _ I1 Y) ?_;rintro u B ⟨x,H2,I2,O,W⟩;refine aV (hi B σ H2 _ I2 W) ?_;rintro iv s3 ⟨y,H3,I3,N,a,H4,rfl,g,U⟩;obtain rfl:u=Value.ref a:=O;exact Eo hu I3 g N S λs4 I4=>⟨σ,H4,I4,U⟩
end
def r9(h:Heap)(B:sysModules<h.objs.size):bg P w H (h.push { cls:=.type "dict", data:=.dict #[] }) h.objs.size (.dK []):=
 ⟨ZX _,beq_eq_false_iff_ne.mpr (Ne.symm (WN B)),[],.nil,Heap.DictOf.new h⟩
def yT:TE:=λ_ H Q=>∀ p,H p=none->Q (.ref p) (upd H p (.dK []))
section
variable {pos:Pos}
def qC:PE X (.Dict [] [] pos) yT:=λpins s σ H Q I h=>
 wpAny_Dict_empty ⟨.ref s.heap.objs.size,_,I.laid (a:=s.heap.objs.size) (o:=.dK []) (t':=s.toks) (λ_ _ q=>ZE _ q) (ZF _) (r9 s.heap I.big),J,h _ (I.aD.fresh (ZF _))⟩
end
def aM(h:H p=none)(o:HO):ag H (upd H p o):=λb u q=>by rw[bC (cO q h)];exact q
structure Def(K:Fg)(mg:Mg)(x:Str)(st:Stmt)(ps:List Str):Prop where
 ex:aO λ(f:Addr) (fd:FuncData)=>aP (lS K x x st f fd) ((∀ us:List Value,us.length=ps.length->bindArgs fd ⟨us,[]⟩=pure (ps.zip us))) (mg x=some (.ref f))
def r_{K:Fg}{h:Heap}{mg:Mg}{x:Str}{st:Stmt}{ps:List Str}{f:Addr}{U:Value}{S N:Option Addr}{O:Array (Option Value)}{kV I M B ct:Value}
  (Y:K.In h) (G:h.Ns mainGlobals mg) (a:PySem.W.nsIn K mainGlobals x=some (some (.ref f)))
  (l:K.lookup f=some ⟨U,S,.func (PySem.W.fnOf x x (vP st) (kc st) (aI st) .none kV I M N B ct),O⟩)
  (c:PySem.W.codeIn K B x=true) (k:PySem.W.keepIn K (.ref f)=true)
  (b:∀(kV I M:Value)(N:Option Addr)(B ct:Value)(us:List Value),us.length=ps.length->bindArgs (PySem.W.fnOf x x (vP st) (kc st) (aI st) .none kV I M N B ct) ⟨us,[]⟩=pure (ps.zip us)) :
  Def K mg x st ps:=⟨f,_,LB l c k,b kV I M N B ct,PySem.W.mg_of Y G a⟩
structure yD(P:Program)(w:World)(K:Fg)(mg:Mg)(base:Heap)(k:Nat)(x:Str)(ps:List Str)(sp:Sp):Prop where
 ex:aO λ(f:Addr) (fd:FuncData)=>cP (cC P w K mg base il k f fd ps sp) (Binds K fd ps []) (PySem.W.keepIn K (.ref f)=true) (mg x=some (.ref f))
def Def.jd{P:Program}{w:World}{K:Fg}{mg:Mg}{base:Heap}{k:Nat}{x:Str}{st:Stmt}{ps:List Str}{sp:Sp}(d:Def K mg x st ps)
  (F:∀(f:Addr)(fd:FuncData),lS K x x st f fd->cC P w K mg base il k f fd ps sp):yD P w K mg base k x ps sp:=by
 obtain⟨f,fd,h1,h2,B⟩:=d.ex;exact⟨f,fd,F f fd h1,.all h2,h1.kp,B⟩
section
variable {k:Nat}{x:Str}{ps:List Str}{sp:Sp}{p pos:Pos}{e:Expr}{es:List Expr}{t:TA}
def aQ(c:yD X.prog X.w X.K X.mg X.base k x ps sp)(hr:bK k X.A)(N:Gl X x)(S:PA X (e::es) t)(M:(x==("__debug__" : Str))=false:=by decide)
  (O:starEach (e::es) X.env=(false,eval e X.env)::starEach es X.env:=by rfl) (I:(backTo pos (starEach es X.env)).any (·.1)=false:=by rfl) :
  PE X (.Call (.Name x p) (e::es) [] pos) (oT sp [] E0 t):=by
 obtain⟨f,fd,F,B,kp,m⟩:=c.ex;exact wC F hr N m kp B .nil qG S M O I
end
def OI{n:Nat}(h:n<10^60):n.log2<9000:=by
 by_cases B:n=0
 ·subst B;decide
 ·have h1:n.log2<200:=(Nat.log2_lt B).mpr (WG h ∅);lia
def vS:cy X (binaryOp .FloorDiv) (rI (λ_ j=>0<j/\j<10^60) λi j=>.int (i/j)):=IW λi j _ _ _ _ _ B q=>by
 have h1:(0:Int)<j:=B.1;have h2:j<10^60:=B.2;exact floordiv_int {} (by rw[Int.fdiv_eq_ediv_of_nonneg i {}];exact q) (.inl (PyProof.noPylong_of_log2 (OI {})))
inductive zR(K:Fg)(xs:List V)(H:Hp)(Q:VK):Prop
 |mk(x c t b)(_:xs=[x,.ty c])(_:fb K H x t)(_:PySem.W.kitOne K t (.type c)=some b)(_:Q (.bl b) H)
def iS:b8 X (.builtin "isinstance") (zR X.K):=by intro pins s σ H xs us Q I r h;obtain⟨x,c,t,b,rfl,ty,e,q⟩:=h;obtain⟨u,N,rfl,M,B⟩:=vals2 r;cases B;exact Et I M ty e λtk=>⟨.bl b,H,I.tok tk,J,q⟩
inductive tj(K:Fg)(x:V)(y:V)(H:Hp)(Q:VK):Prop
 |mk(a b xs ys)(_:x = .ref a)(_:y = .ref b)(_:au K H a xs)(_:au K H b ys)(_:xs.length+ys.length<=sizeLine)(_:∀ p H',ag H H'->au K H' p (xs++ys)->(H a=some (.tup xs)->H b=some (.tup ys)->H' p=some (.tup (xs++ys)))->Q (.ref p) H')
def En:cy X (binaryOp .Add) (tj X.K):=by
 intro pins s σ H x y v u Q I rx ry h;obtain⟨a,b,xs,ys,rfl,rfl,ha,hb,hz,q1⟩:=h;cases rx;cases ry;obtain⟨M,r1,p1,_⟩:=I.tuple ha;obtain⟨B,r2,p2,_⟩:=I.tuple hb;have Zo:M.length+B.length<=sizeLine:=by rw[<- r1.length,<- r2.length];exact hz
 obtain⟨⟨cls,dd,data,sl⟩,U,hc,n,hd⟩:=id p1;obtain⟨⟨ab6,S,data2,O⟩,N,Y,n2,W⟩:=id p2;simp only at hc hd Y W;subst hc hd Y W;have e:M.toArray++B.toArray=(M++B).toArray:=by simp
 by_cases Z:M=[]
 ·have hx:xs=[]:=r1.l7.mp Z;subst hx;exact concat_meets ⟨_,U,J⟩ ⟨_,N,J⟩ noFill_tuple_add seq_tuple_add PySem.F.slot_tuple_add PySem.F.entry_tuple_add (PySem.F.args_tuple_add_2 _ _)
   (tuple_addW0 a b M.toArray B.toArray n n2 dd S sl O (by simp[Z])) ⟨U,N,⟨.ref b,H,I,J,q1 b H (ag.refl H) (by simpa using hb) (λ_ z=>by simpa using z)⟩⟩
 ·by_cases hw:B=[]
  ·have hy:ys=[]:=r2.l7.mp hw;subst hy;exact concat_meets ⟨_,U,J⟩ ⟨_,N,J⟩ noFill_tuple_add seq_tuple_add PySem.F.slot_tuple_add PySem.F.entry_tuple_add (PySem.F.args_tuple_add_2 _ _)
    (tuple_addW1 a b M.toArray B.toArray n n2 dd S sl O (by simpa using Z) (by simp[hw])) ⟨U,N,⟨.ref a,H,I,J,q1 a H (ag.refl H) (by simpa using ha) (λz _=>by simpa using z)⟩⟩
  ·refine concat_meets ⟨_,U,J⟩ ⟨_,N,J⟩ noFill_tuple_add seq_tuple_add PySem.F.slot_tuple_add PySem.F.entry_tuple_add (PySem.F.args_tuple_add_2 _ _)
    (tuple_addW2 a b M.toArray B.toArray n n2 dd S sl O (by simpa using Z) (by simpa using hw) (by rw[WC,WC];exact Zo)) ⟨U,N,?_⟩
   rw[e];refine⟨.ref s.heap.objs.size,_,I.laid (t':=s.toks) (o:=.tup (xs++ys)) (λb ob q=>ZE _ q) (ZF _) ?_,J,q1 _ _ (aM (I.aD.fresh (ZF _)) _) (au.of ax) (λ_ _=>ax)⟩;exact⟨by rw[ZM];exact hz,_,r1.append r2,IsTup.new _ _⟩
section
def Em:bootBuiltins "int" = some (.type "int"):=⟨⟩
def xF:bootBuiltins "bool" = some (.type "bool"):=⟨⟩
def kh:bootBuiltins "str" = some (.type "str"):=⟨⟩
def xE:bootBuiltins "list" = some (.type "list"):=⟨⟩
def vN:bootBuiltins "tuple" = some (.type "tuple"):=⟨⟩
def Hq:bootBuiltins "len" = some (.builtin "len"):=⟨⟩
def dy:bootBuiltins "isinstance" = some (.builtin "isinstance"):=⟨⟩
def Ck:bootBuiltins "max" = some (.builtin "max"):=⟨⟩
def Cj:bootBuiltins "min" = some (.builtin "min"):=⟨⟩
def sQ:bootBuiltins "all" = some (.builtin "all"):=⟨⟩
def sP:bootBuiltins "sum" = some (.builtin "sum"):=⟨⟩
def qb:bootBuiltins "sorted" = some (.builtin "sorted"):=⟨⟩
end
section
variable {K:Fg}
def Pw:PySem.W.kitOne K (.type "int") (.type "int")=some true:=by kernel_rfl
def Qt:PySem.W.kitOne K (.type "int") (.type "bool")=some false:=by kernel_rfl
def Bm:PySem.W.kitOne K (.type "str") (.type "str")=some true:=by kernel_rfl
end
def aq(p:Addr)(H H':Hp):Prop:=∀ b o,b≠p->H b=some o->H' b=some o
def aq.refl(p:Addr)(H:Hp):aq p H H:=λ_ _ _ h=>h
def aq.trans(a:aq p H H1)(b:aq p H1 H2):aq p H H2:=λc o n h=>b c o n (a c o n h)
def aq.same(s:ag H H'):aq p H H':=λb o _ h=>s b o h
def aq.set(p:Addr)(H:Hp)(o:HO):aq p H (upd H p o):=λb u n h=>by rw[bC n];exact h
def aq.new(h:H q=none)(o:HO):aq p H (upd H q o):=.same (aM h o)
def aq.L6{K:Fg}{p:Addr}{H H':Hp}{a:Addr}{xs:List V}(e:aq p H H')(n:a≠p)(h:ao K H a xs):ao K H' a xs:=by
 rcases h with (h | ⟨o,h⟩) | h
 ·exact .inl (.inl (e _ _ n h))
 ·exact .inl (.inr ⟨o,e _ _ n h⟩)
 ·exact .inr h
def ag.cJ{K:Fg}{H H':Hp}{a:Addr}{xs:List V}(e:ag H H')(h:au K H a xs):au K H' a xs:=by
 rcases h with (h | ⟨o,h⟩) | h
 ·exact .inl (.inl (e _ _ h))
 ·exact .inl (.inr ⟨o,e _ _ h⟩)
 ·exact .inr h
def sz{n:Nat}(h:n<=1000):n<=sizeLine:=Nat.le_of_lt (fM h)
def aZ{n:Nat}(h:Nat.ble n 1000=true):n<=sizeLine:=sz (YB h)
def vM{l:List Int}{i:Int}(M:0<=i)(h1:i<(l.length:Int)):∃ v,v∈l/\fC (l.map V.int) i=some (.int v):=by
 have B:i.toNat<l.length:={}
 have I:i=((i.toNat:Nat):Int):={}
 have q:fC (l.map V.int) ((i.toNat:Nat):Int)=some (.int l[i.toNat]):=dm (by rw[WE,ZP B] <;> rfl);rw[<- I]at q;exact⟨l[i.toNat],getElem_mem B,q⟩
noncomputable def dD(scope bB:Scope):List (Str×NameKind):=scope.names.map λ(n,k)=>if(k == .free&&bB.kind == .function&&bB.names.lookup n==some .cell) then(n,.cell) else(n,k)
def Wr(B:Env):List (Str×Addr)->Prop
 | []=>True
 | (n,c)::r=>B.cells.lookup n=some c/\Wr B r
theorem Wr.look{B:Env}{cl:List (Str×Addr)}{n:Str}{c:Addr}(hc:Wr B cl)(h:cl.lookup n=some c):B.cells.lookup n=some c:=by
 induction cl with
 | nil=>cases h
 | cons p r i=>
  rw[lookup_cons]at h;cases I:n==p.1 with
  | true=>rw[I]at h;cases h;rw[eq_of_beq I];exact hc.1
  | false=>rw[I]at h;exact i hc.2 h
def Ho{cl:List (Str×Addr)}(h:n∈cl.map (·.1)):∃ c,cl.lookup n=some c:=by
 induction cl with
 | nil=>cases h
 | cons p r I=>
  obtain⟨m,d⟩:=p;rw[lookup_cons];cases B:n==m with
  | true=>exact⟨d,J⟩
  | false=>
   rcases ad h with e | e
   ·have M:n=m:=e;rw[M,beq_self_eq_true]at B;cases B
   ·exact I e
structure dv(scope bB:Scope)(x:Str)(N cn:List Str):Prop where
 has:∀ p∈dD scope bB,(p.2 = .cell\/p.2 = .free)->p.1∈cn
 nc:∀ p∈scope.names,p.2 ≠ .cell
 names:∀ p∈scope.names,p.2 = .local->scope.names.lookup p.1=some .local
 hx:scope.names.lookup x=some .local
 CJ:(dD scope bB).lookup x=some .local
 nd:(x::N).Nodup
 gF:∀ y∈N,(dD scope bB).lookup y=some .cell/\bB.names.lookup y=some .cell/\y∈cn
noncomputable def dz(X:Cx)(scope:Scope)(cl:List (Str×Addr))(C:Addr)(x:Str)(N:List Str)(s₂:Shared)(H₂:Hp)(B:List Addr):Cx where
 prog:=X.prog
 w:=X.w
 K:=X.K
 mg:=X.mg
 base:=X.base
 A:=X.A
 N:=x::N
 s₀:=s₂
 H₀:=H₂
 env:=compEnvC scope cl C X.env
 outer:=X.stack
 stack:=X.stack
 ex:=B
 fn:=λ_=>false
 calm:=X.calm
 pn:=[]
 xe:=λ_ _=>False
def oR(O:TI)(te:TE)(fr:List Nat):TE:=λσ H Q=>O σ H λB H1=>∀ D,H1 D=none -> ∃ W:Nat->Nat->List V->Hp->Prop,(∃ m,W 0 m [] (upd H1 D (.lst []))) /\
 ∀ i m ys H2,W i m ys H2->H2 D=some (.lst ys)/\((B.stop i H2/\Q (.ref D) H2)\/(B.go i H2/\ys.length<sizeLine /\ ∃ N:V->Hp->Prop,(∀ y I,N y I->I D=some (.lst ys) /\ ∃ M,M<m/\W (i+1) M (ys++[y]) (upd I D (.lst (ys++[y])))) /\
  ∀ x H',B.fF i H2 x H'->te (some x::fr.map λj=>(σ[j]?).getD none) H' N))
def GS{α:Type}:∀{l:List (Str×α)} {x:Str} {a:α},l.lookup x=some a->(x,a)∈l:=λh=>PySem.mem_of_lookup h
abbrev nt(prog:Program)(w:World)(A:Around)(B:Env)(R:Result->Shared->Prop):VS:=notedBy (model prog w) A B λe s'=>R (.error e) s'
noncomputable def Kr(X:Cx)(B:List Expr)(tt:TT):Prop:=
 ∀⦃pins:List (Addr×Obj)⦄ (s:Shared) (σ:St) (H:Hp) (Q:Bool->Hp->Prop),Inv X pins σ H s->tt σ H Q ->
  wpAny (model X.prog X.w) X.A (forIn B true λc r=>if r=true then do let ok <- isTrue c X.env (eval c X.env);pure (ForInStep.yield ok)else pure (ForInStep.yield r)) (TP X pins σ Q) X.xe s
def qa:Kr X [] (λ_ H Q=>Q true H):=λ_ _ _ H _ I h=>wpAny_tests_nil ⟨H,I,h⟩
def Nn(h:PT X cc tt):Kr X [cc] tt:=λpins s σ H Q I hw=>wpAny_tests_one (h s σ H Q I hw)
structure ji(scope bB:Scope)(N cn:List Str):Prop where
 has:∀ p∈dD scope bB,(p.2 = .cell\/p.2 = .free)->p.1∈cn
 nc:∀ p∈scope.names,p.2 ≠ .cell
 names:∀ p∈scope.names,p.2 = .local->scope.names.lookup p.1=some .local
 gF:∀ y∈N,(dD scope bB).lookup y=some .cell/\bB.names.lookup y=some .cell/\y∈cn
def oQ(k:Nat)(U:TI)(gt:TG)(tt:TT)(te:TE)(fr:List Nat):TE:=λσ H Q=>U σ H λO H1=>∀ D,H1 D=none -> ∃ W:Nat->Nat->List V->Hp->Prop,(∃ m,W 0 m [] (upd H1 D (.lst []))) /\
 ∀ i m ys H2,W i m ys H2->H2 D=some (.lst ys)/\((O.stop i H2/\Q (.ref D) H2)\/(O.go i H2/\ys.length<sizeLine/\aO λ(N:V->Hp->Prop) (Z:Hp->Prop)=>aP ((∀ y B,N y B->B D=some (.lst ys) /\ ∃ M,M<m/\W (i+1) M (ys++[y]) (upd B D (.lst (ys++[y]))))) ((∀ B,Z B -> ∃ M,M<m/\W (i+1) M ys B)) (∀ x H',O.fF i H2 x H' -> ∀ vs:St,vs.length=k->gt x (vs++fr.map λj=>(σ[j]?).getD none) H' λσ' B=>(∃ I:St,I.length=k/\σ'=I++fr.map λj=>(σ[j]?).getD none)/\tt σ' B λb S=>if b=true then te σ' S N else Z S)))
section
variable {prog:Program}{w:World}{A:Around}{R:Result->Shared->Prop}{s:Shared}
theorem OH(I:Nat->Shared->Prop)
  (turn:∀ n s,I n s->wpAny (model prog w) A (pyNext it) (λr s₁=>match r with
   | none=>R (.ok .next) s₁
   | some v=>wpAny (model prog w) A (letOwnedTupleGo target it v) (λ_ s₁'=>wpAny (model prog w) A (assign target env v) (λ_ s₂=>
     wpAny (model prog w) A (forIn ifs true λc r=>if r=true then do let ok <- isTrue c env (eval c env);pure (ForInStep.yield ok)else pure (ForInStep.yield r)) (λokb s₂'=>if okb=true then
     wpAny (model prog w) A (eval elt env) (λx s₃=>wpAny (model prog w) A (call (.builtin "list.append") [acc,x]) (λ_ s₄=>∃ m,m<n/\I m s₄) (nt prog w A env R) s₃) (nt prog w A env R) s₂'
     else ∃ m,m<n/\I m s₂') (nt prog w A env R) s₂) (nt prog w A env R) s₁') (nt prog w A env R) s₁) (nt prog w A env R) s)
  (n:Nat) (h:I n s) :
  codeAny (model prog w) A (.compLoop (.ListComp elt [⟨target,ff,ifs,0⟩] scope pos) 0 it acc env) R s:=by
 refine codeAny_loop J I (λn s B=>?_) n h;show wpAny _ _ ((compTurn (.ListComp elt [⟨target,ff,ifs,0⟩] scope pos) 0 it acc env).onRaise (λx=>do noteFrame x env;theTreesLotGoes x)) _ _ s;refine wpAny_noted ?_;rw[compTurn_list];refine ZA (wpAny_standAt (ZA (WX (turn n s B) (λr s₁ h₁=>?_) λ_ _ h'=>h')));cases r with
 | none=>exact ZO h₁
 | some v=>
  refine ZA (WX h₁ (λ_ s₁' h₁'=>ZA (WX h₁' (λ_ s₂ h₂=>ZA (WX h₂ (λokb s₂' h₂'=>?_) λ_ _ h'=>h')) λ_ _ h'=>h')) λ_ _ h'=>h');cases okb with
  | false=>exact ZO ⟨J,h₂'⟩
  | true=>exact ZA (ZA (WX h₂' (λx s₃ h₃=>ZA (WX h₃ (λ_ s₄ h₄=>ZO (ZO ⟨J,h₄⟩)) λ_ _ h'=>h')) λ_ _ h'=>h'))
end
def mU{X:Cx}{elt ff tg:Expr}{ifs:List Expr}{x:Str}{pos:Pos}{scope bB:Scope}{cl:List (Str×Addr)}{cn TN N:List Str}{fr:List Nat}{gt:TG}{tt:TT}{te:TE}{pins:List (Addr×Obj)}{σ:St}{H2:Hp}{B:Shared}{it:Addr}{M:List Addr}
  {tn:Nat->Heap->Prop} {JJ:It} {RR:Value->Addr->Result->Shared->Prop} {R:Hp->Prop} {E:VS} {W:Nat->Nat->List V->Hp->Prop} {m0:Nat}
  (hc:X.calm=true) (he:∀(C:Addr)(s₂:Shared)(H₂:Hp)(M:List Addr),PE (dz X scope cl C x (TN++N) s₂ H₂ M) elt te) (rJ:∀(C:Addr)(s₂:Shared)(H₂:Hp)(M:List Addr),Kr (dz X scope cl C x (TN++N) s₂ H₂ M) ifs tt) (U_:∀(C:Addr)(s₂:Shared)(H₂:Hp)(M:List Addr),PG (dz X scope cl C x (TN++N) s₂ H₂ M) tg gt)
  (S:Wr X.env cl) (eQ:cl.map (·.1)=cn) (xg:X.env.scope=bB) (hk:scope.kind = .function) (aD:ji scope bB N cn) (kq:fr.map (λj=>X.N[j]?)=N.map some)
  (I2:Inv X pins σ H2 B) (T:Turn X.prog X.w X.K tg JJ M it tn) (oX:tn 0 B.heap) (f2:∀ b∈M,dP X pins H2 b)
  (w0:W 0 m0 [] (upd H2 B.heap.objs.size (.lst [])))
  (turn:∀ i m ys H,W i m ys H->H B.heap.objs.size=some (.lst ys)/\((JJ.stop i H/\R H)\/(JJ.go i H/\ys.length<sizeLine/\aO λ(N:V->Hp->Prop) (Z:Hp->Prop)=>aP ((∀ y O,N y O->O B.heap.objs.size=some (.lst ys) /\ ∃ m',m'<m/\W (i+1) m' (ys++[y]) (upd O B.heap.objs.size (.lst (ys++[y]))))) ((∀ O,Z O -> ∃ m',m'<m/\W (i+1) m' ys O)) (∀ x H',JJ.fF i H x H' -> ∀ vs:St,vs.length=TN.length+1->gt x (vs++fr.map λj=>(σ[j]?).getD none) H' λσ' O=>(∃ Wc:St,Wc.length=TN.length+1/\σ'=Wc++fr.map λj=>(σ[j]?).getD none)/\tt σ' O λb H4=>if b=true then te σ' H4 N else Z H4))))
  (J8:∀(C:Addr)(H6:Hp)(s6:Shared)(m6:Mg),s6.heap.Ns C m6->Inv X pins σ H6 s6->dP X pins H6 C->R H6->RR (.ref B.heap.objs.size) C (.ok .next) s6) :
  wpAny (model X.prog X.w) X.A (newList []) (λacc s₃=>wpAny (model X.prog X.w) X.A (newFunctionEnv scope X.env.globals cl [] X.env.qual none .none (some X.env)) (λcenv s₄=>
   codeAny (model X.prog X.w) X.A (.compStart (.ListComp elt [⟨tg,ff,ifs,0⟩] scope pos) 0 (.ref it) acc { cenv with scope:=relabel scope X.env }) (RR acc cenv.locals) s₄) E s₃) E B:=by
 refine YZ (wpAny_newFunctionEnv aD.nc (by intro y hy;simp at hy) (λh4 rD CM=>?_) hk);dsimp only at rD CM ⊢;have rel:∀ y,(compEnvC scope cl 0 X.env).scope.names.lookup y=(dD scope bB).lookup y:=λy=>by
  show(relabel scope X.env).names.lookup y=_;unfold relabel dD Env.kindOf;rw[xg]
 generalize hD:B.heap.objs.size=D at *;have I3:Inv X pins σ (upd H2 D (.lst [])) { B with heap:=B.heap.push { cls:=.type "list", dict:=none,data:=.seq ([]:List Value).toArray } }:=
  I2.laid (t':=B.toks) (λb u e=>ZE _ e) (Nat.le_of_eq hD) ⟨ZX _,[],0,.nil,by rw[<- hD];exact ZY _ J⟩
 have Zj:∀ b u,B.heap.get? b=some u->(B.heap.push { cls:=.type "list", dict:=none,data:=.seq ([]:List Value).toArray }).get? b=some u:=λb u e=>ZE _ e;have hsz:B.heap.objs.size<=(B.heap.push { cls:=.type "list", dict:=none,data:=.seq ([]:List Value).toArray }).objs.size:=by rw[Heap.size_push];exact Nat.le_succ _
 generalize hh3:B.heap.push { cls:=.type "list", dict:=none,data:=.seq ([]:List Value).toArray }=h3 at *;have TY:∀ b u,h3.get? b=some u->h4.get? b=some u:=λb u e=>(CM.2 b (WN (ZW e))).trans (ZE _ e);generalize hC:h3.objs.size=C at *;have I4:Inv X pins σ (upd H2 D (.lst [])) { B with heap:=h4,toks:=B.toks+([]:List (Str×Value)).length }:=I3.kept (t':=B.toks+0) TY;generalize Lr:upd H2 D (.lst [])=O at *;have eO:∀ b o,B.heap.get? b=some o->b<C:=λb o e=>WG (ZW e) hsz;have Jk:fr.length=N.length:=by simpa using congrArg List.length kq
 have Lu:∀ b∈M,b≠C/\b ∉ gF X.stack:=λb I=>by
  obtain⟨o,e,_⟩:=T.obj 0 B.heap oX b I;refine⟨WN (eO b o e),λz=>?_⟩;obtain⟨_,n1,n2,_⟩:=f2 b I;rcases ad (I2.iG b z)with q | q
  ·exact n1 q
  ·exact n2 q
 have H3C:O C=none:=I3.aD.fresh (Nat.le_of_eq hC);have Y3:(dz X scope cl C x (TN++N) { B with heap:=h3 } O M).Ok:=by
  refine⟨I2.ok.mod,hk,I2.ok.glob,I2.ok.blt,Nat.le_of_eq hC,λy z c e1 e2=>I2.ok.inj y z c (S.look e1) (S.look e2),λy hy=>?_,λy c z=>(fnt z).elim,λz=>I2.ok.hd z,I2.ok.frames,.inl J,
   λb I=>⟨(Lu b I).1,λy c e=>(f2 b I).2.2.2.2.1 y c (S.look e)⟩,λb o e=>I3.bs b o e,ZT I2.ok.oo I3.sz,λb o e I=>?_,λb I=>(Lu b I).2,I3.stack,I3.lU⟩
  ·have Uc:(dD scope bB).lookup y=some .cell\/(dD scope bB).lookup y=some .free:=by
    rcases hy with hy | hy
    ·exact .inl ((rel y).symm.trans hy)
    ·exact .inr ((rel y).symm.trans hy)
   have hm:y∈cn:=by
    rcases Uc with q | q
    ·exact aD.has (y,.cell) (GS q) (.inl J)
    ·exact aD.has (y,.free) (GS q) (.inr J)
   exact Ho (cl:=cl) (n:=y) (by rw[eQ];exact hm)
  ·rcases(f2 b I).2.2.2.1 with z | z
   ·exact I2.ok.qP b o e z
   ·exact absurd (WG (ZW e) (ZT I2.ok.oo z)) (Nat.lt_irrefl _)
 have I5:Inv (dz X scope cl C x (TN++N) { B with heap:=h3 } O M) [] (List.replicate (TN.length+1) none++fr.map λj=>(σ[j]?).getD none) O { B with heap:=h4,toks:=B.toks+([]:List (Str×Value)).length }:=by
  refine⟨Y3,J,I4.bare,Un.kept TY,⟨_,rD,λi y v e1 e2 e3=>?_⟩,λy c e=>I4.cell y c (S.look e),H3C,λy c e=>I4.cZ y c (S.look e),λp hp=>absurd (show p∈([]:List (Addr×Obj))from hp) (by simp),I4.aD,by simp[dz,Jk];lia⟩;by_cases Xh:i<TN.length+1
  ·exfalso;rw[WO (by rw[length_replicate];exact Xh),getElem?_replicate,ZL Xh]at e2;cases e2
  ·obtain⟨j,rfl⟩:∃ j,i=TN.length+1+j:=⟨i-(TN.length+1),{}⟩
   have Kf:N[j]? = some y:=by have XO:(x::(TN++N))[TN.length+1+j]? = some y:=e1;rw[show TN.length+1+j=(TN.length+j)+1 by lia,getElem?_cons_succ,WM {},show TN.length+j-TN.length=j by lia]at XO;exact XO
   have xr:(fr.map λj=>(σ[j]?).getD none)[j]? = some (some v):=by rw[WM (by rw[length_replicate];lia),length_replicate,show TN.length+1+j-(TN.length+1)=j by lia]at e2;exact e2
   obtain⟨k,ek⟩:∃ k,fr[j]? = some k:=by
    have:j<fr.length:=by rw[Jk];exact(ac Kf).1
    exact⟨fr[j],ZP this⟩
   rw[WE,ek]at xr;have U:(σ[k]?).getD none=some v:=am xr;have eσ:σ[k]? = some (some v):=by
    cases q:σ[k]? with
    | none=>rw[q]at U;cases U
    | some o=>rw[q]at U;exact congrArg some U
   have eN:X.N[k]? = some y:=by have z:=congrArg (λl=>l[j]?) kq;simp only[WE,ek,Kf,Option.map_some]at z;exact am z
   obtain⟨r1,r2,r3⟩:=aD.gF y (ZV Kf);obtain⟨m,_,hl⟩:=I4.loc;obtain⟨u,ru,look⟩:=hl k y v eN eσ (.inr (.inl (by rw[xg];exact r2)));refine⟨u,ru,.inr ⟨.inl ((rel y).trans r1),?_⟩⟩;rcases look with ⟨l1,_⟩ | ⟨_,c,l1,l2⟩
   ·exfalso;have TR:X.env.scope.names.lookup y=some .local:=l1;rw[xg,r2]at TR;cases TR
   ·obtain⟨c',l3⟩:=Ho (cl:=cl) (n:=y) (by rw[eQ];exact r3);have l4:=S.look l3;rw[l1]at l4;cases l4;exact⟨c,l3,l2⟩
 have Wm:tn 0 h4:=T.keep 0 B.heap h4 oX λb I o e=>TY b o (Zj b o e)
 have VI:∀{H':Hp},(∀ b∈M,H' b=none) -> ∀ b∈M,dP (dz X scope cl C x (TN++N) { B with heap:=h3 } O M) [] H' b:=λhn b I=>
  ⟨hn b I,(Lu b I).1,(Lu b I).2,.inl I,λy c e=>(f2 b I).2.2.2.2.1 y c (S.look e),λp hp=>absurd (show p∈([]:List (Addr×Obj))from hp) (by simp)⟩
 have Ls:∀ b∈M,O b=none:=λb I=>by
  obtain⟨o,e,_⟩:=T.obj 0 B.heap oX b I;have:b≠D:=WN (hD▸ZW e);rw[<- Lr,bC this];exact(f2 b I).1
 have fin:∀(H6:Hp)(s6:Shared)(σ6:St),Inv (dz X scope cl C x (TN++N) { B with heap:=h3 } O M) [] σ6 H6 s6->Inv X pins σ H6 s6/\dP X pins H6 C:=by intro H6 s6 σ6 Y;refine⟨I3.iB (s':=s6) (ch:=M) Y.os ⟨Y.base.keep,Y.base.slot,Y.base.free,Y.base.there,Y.base.fJ,Y.base.fx,Y.base.fK⟩ Y.aD Y.bare (λb I=>?_),I3.lu (Nat.le_of_eq hC) Y.free⟩;obtain⟨_,n1,_,n3,n4,n5⟩:=f2 b I;exact⟨n3,n1,n4,n5⟩
 have loop:codeAny (model X.prog X.w) X.A (.compLoop (.ListComp elt [⟨tg,ff,ifs,0⟩] scope pos) 0 (.ref it) (.ref D) (compEnvC scope cl C X.env))
   (RR (.ref D) C) { B with heap:=h4,toks:=B.toks+([]:List (Str×Value)).length }:=by
  refine OH (λn s'=>ik λ(i:Nat) (vs:St) (ys:List V) (H':Hp)=>dw (vs.length=TN.length+1) (Inv (dz X scope cl C x (TN++N) { B with heap:=h3 } O M) [] (vs++fr.map λj=>(σ[j]?).getD none) H' s') (tn i s'.heap) ((∀ b∈M,H' b=none)) (W i n ys H')) ?_ m0
   ⟨0,List.replicate (TN.length+1) none,[],O,by simp,I5,Wm,Ls,w0⟩
  rintro n s6 ⟨i,vs,ys,H6,Zw,Y,Wl,XC,w6⟩;obtain⟨hDl,hw⟩:=turn i n ys H6 w6;rcases hw with ⟨stop,qn⟩ | ⟨go,hlen,N',Z',hN',hZ',step⟩
  ·refine aV (T.done (dz X scope cl C x (TN++N) { B with heap:=h3 } O M) J J J hc i [] s6 _ H6 _ Y (VI XC) Wl stop) ?_;rintro r s7 ⟨rfl,I7⟩;obtain⟨m7,hn7,_⟩:=I7.loc;obtain⟨J7,F7⟩:=fin H6 s7 _ I7;exact J8 C H6 s7 m7 hn7 J7 F7 qn
  ·refine aV (T.item (dz X scope cl C x (TN++N) { B with heap:=h3 } O M) J J J hc i [] s6 _ H6 _ Y (VI XC) Wl go) ?_;rintro r s7 ⟨u,rfl,h7⟩;refine aV h7 ?_;rintro _ s8 ⟨x8,H8,I8,r8,y8,Ds,fr8⟩;have I8':=I8.pinned (VI fr8) (T.obj _ _ Ds);refine WX (U_ C { B with heap:=h3 } O M _ s8 _ H8 x8 u _ I8' r8 (step x8 H8 y8 vs Zw)) (λ_ s9 h9=>?_) λ_ _ z=>False.elim z;obtain⟨σ9,H9a,I9,⟨Wb,Xd,e9⟩,Y9⟩:=h9;subst e9;refine WX (rJ C { B with heap:=h3 } O M s9 _ H9a _ I9 Y9) (λokb Yp h9b=>?_) λ_ _ z=>False.elim z;obtain⟨H9,LD,n9⟩:=h9b;cases okb with
   | false=>rw[ZJ fnt]at n9 ⊢;obtain⟨m',hm,w9⟩:=hZ' _ n9;refine⟨m',hm,i+1,Wb,ys,_,Xd,LD.dg,T.keep _ _ _ Ds λb I o e=>(LD.pin (b,o) (WI _ (WI _ (m_ I e)))).1,λb I=>?_,w9⟩;obtain⟨o,e,d⟩:=T.obj _ _ Ds b I;exact(LD.pin (b,o) (WI _ (WI _ (m_ I e)))).2.1
   | true=>
    rw[ZL J]at n9 ⊢;refine WX (he C { B with heap:=h3 } O M Yp _ H9 _ LD n9) (λy KP h10=>?_) λ_ _ z=>False.elim z;obtain⟨xT,V0,I10,Y0,Za⟩:=h10;obtain⟨Vz,m',hm,C_⟩:=hN' xT V0 Za;refine WX (ke (X:=dz X scope cl C x (TN++N) { B with heap:=h3 } O M) _ KP _ V0 (.ref D) [xT] (.ref D) [y] (λ_ H'=>H'=upd V0 D (.lst (ys++[xT]))) I10 J (.cons Y0 .nil) ⟨D,ys,xT,J,J,Vz,hlen,J⟩) (λ_ s11 h11=>?_) λ_ _ z=>False.elim z;obtain⟨_,H11,VZ,_,e11⟩:=h11;subst e11;refine⟨m',hm,i+1,Wb,ys++[xT],_,Xd,VZ.dg,T.keep _ _ _ Ds λb I o e=>(VZ.pin (b,o) (WI _ (WI _ (m_ I e)))).1,λb I=>?_,C_⟩;obtain⟨o,e,d⟩:=T.obj _ _ Ds b I;exact(VZ.pin (b,o) (WI _ (WI _ (m_ I e)))).2.1
 exact codeAny_compStart_list loop (T.self _ 0 _ _ _ Wm loop)
def AH{X:Cx}(B:X.env.scope=bB)(h:(dD scope bB).lookup x=some .local):(compEnvC scope cl C X.env).scope.names.lookup x=some .local:=by show(relabel scope X.env).names.lookup x=_;rw[<- h];unfold relabel dD Env.kindOf;rw[B]
theorem F2{X:Cx}{S ff:Expr}{x:Str}{px pos:Pos}{scope bB:Scope}{cl:List (Str×Addr)}{cn N:List Str}{fr:List Nat}{te:TE}{pins:List (Addr×Obj)}{σ:St}{H2:Hp}{I:Shared}{it:Addr}{Y:List Addr}
  {tn:Nat->Heap->Prop} {Z:It} {RR:Value->Addr->Result->Shared->Prop} {R:Hp->Prop} {E:VS} {W:Nat->Nat->List V->Hp->Prop} {m0:Nat}
  (hc:X.calm=true) (he:∀(C:Addr)(s₂:Shared)(H₂:Hp)(Y:List Addr),PE (dz X scope cl C x N s₂ H₂ Y) S te)
  (eR:Wr X.env cl) (eQ:cl.map (·.1)=cn) (O:X.env.scope=bB) (hk:scope.kind = .function) (B:dv scope bB x N cn) (kq:fr.map (λj=>X.N[j]?)=N.map some)
  (I2:Inv X pins σ H2 I) (T:Turn X.prog X.w X.K (.Name x px) Z Y it tn) (oX:tn 0 I.heap) (f2:∀ b∈Y,dP X pins H2 b)
  (w0:W 0 m0 [] (upd H2 I.heap.objs.size (.lst [])))
  (turn:∀ i m ys H,W i m ys H->H I.heap.objs.size=some (.lst ys)/\((Z.stop i H/\R H)\/(Z.go i H/\ys.length<sizeLine /\ ∃ N:V->Hp->Prop,
   (∀ y H3,N y H3->H3 I.heap.objs.size=some (.lst ys) /\ ∃ m',m'<m/\W (i+1) m' (ys++[y]) (upd H3 I.heap.objs.size (.lst (ys++[y])))) /\
   ∀ x H',Z.fF i H x H'->te (some x::fr.map λj=>(σ[j]?).getD none) H' N)))
  (J8:∀(C:Addr)(H6:Hp)(s6:Shared)(m6:Mg),s6.heap.Ns C m6->Inv X pins σ H6 s6->dP X pins H6 C->R H6->RR (.ref I.heap.objs.size) C (.ok .next) s6) :
  wpAny (model X.prog X.w) X.A (newList []) (λU s₃=>wpAny (model X.prog X.w) X.A (newFunctionEnv scope X.env.globals cl [] X.env.qual none .none (some X.env)) (λM s₄=>
   codeAny (model X.prog X.w) X.A (.compStart (.ListComp S [⟨.Name x px,ff,[],0⟩] scope pos) 0 (.ref it) U { M with scope:=relabel scope X.env }) (RR U M.locals) s₄) E s₃) E I:=by
 refine mU (TN:=[]) (gt:=iA 0) (tt:=λ_ H Q=>Q true H) hc he (λ_ _ _ _=>qa) (λ_ _ _ _=>kg B.nd J (.inl ?_) (.inr ?_)) eR eQ O hk ⟨B.has,B.nc,B.names,B.gF⟩ kq I2 T oX f2 w0 (λi m ys H h=>?_) J8
 ·exact AH O B.CJ
 ·exact AH O B.CJ
 obtain⟨a,b⟩:=turn i m ys H h;exists a;rcases b with b | ⟨g,l,N,h1,h2⟩
 ·exact .inl b
 refine .inr ⟨g,l,N,λ_=>False,h1,λ_ z=>z.elim,λx H' y vs hv=>?_⟩
 obtain⟨v0,rfl⟩:=length_eq_one_iff.1 hv;exact⟨⟨[some x],J,J⟩,bM (h2 x H' y)⟩
def Inv.e8{s:Shared}(I:Inv X pins σ H s)(F:dP X pins H C)(B:Heap.SameBut C s.heap h'):Inv X pins σ H { s with heap:=h' }:=by obtain⟨U,S,_,f3,O,N⟩:=F;exact I.turned (t':=s.toks) (λb o M e=>(B.2 b M).trans e) U S f3 O N
def kf{X:Cx}{O B:Expr}{x:Str}{px pos:Pos}{scope bB:Scope}{cl:List (Str×Addr)}{cn N:List Str}{fr:List Nat}{wi:TI}{te:TE}
  (hc:X.calm=true) (hi:PI X (.Name x px) B wi) (he:∀(C:Addr)(s₂:Shared)(H₂:Hp)(fp:List Addr),PE (dz X scope cl C x N s₂ H₂ fp) O te)
  (M:closureFor scope X.env=pure cl) (eR:Wr X.env cl) (eQ:cl.map (·.1)=cn) (Y:X.env.scope=bB) (hk:scope.kind = .function) (aD:dv scope bB x N cn)
  (Z:fr.map (λj=>X.N[j]?)=N.map some) (hs:∀ v,foldedSetIterable B X.env v=pure v:=by intro _;rfl) :
  PE X (.ListComp O [⟨.Name x px,B,[],0⟩] scope pos) (oR wi te fr):=by
 intro pins s σ H Q I h;rw[eval_ListComp];refine wpAny_comprehension_free (use:=none) J hs M hk aD.names (aV (hi s σ H _ I h) λv s1 h1=>aV h1 λitv U h2=>?_);obtain⟨it,fp,tn,JJ,H2,e,I2,T,S,f2,hq⟩:=h2;subst e;obtain⟨W,⟨m0,w0⟩,turn⟩:=hq U.heap.objs.size (I2.aD.fresh (ZF _));exact F2 (RR:=λacc C=>compPost (model X.prog X.w) X.A X.xe none (EP X pins σ Q) acc C) (R:=λH6=>Q (.ref U.heap.objs.size) H6) hc he eR eQ Y hk aD Z I2 T S f2 w0 turn
  λC H6 s6 m6 hn I6 F6 q=>⟨m6,hn,λh' sb=>⟨.ref U.heap.objs.size,H6,I6.e8 F6 sb,J,q⟩⟩
def oO(i:Nat)(B:TI)(te:TE)(fr:List Nat):TS:=λD σ H=>oR B te fr σ H λv H1=>D.nx (σ.set i (some v)) H1
def GR{X:Cx}{i:Nat}{y:Str}{U O:Pos}{M B:Expr}{x:Str}{px pos:Pos}{scope bB:Scope}{cl:List (Str×Addr)}{cn N:List Str}{fr:List Nat}{wi:TI}{te:TE}
  (hN:X.N.Nodup) (JW:X.N[i]? = some y) (hy:Loc X.env.scope y)
  (hc:X.calm=true) (hi:PI X (.Name x px) B wi) (he:∀(C:Addr)(s₂:Shared)(H₂:Hp)(fp:List Addr),PE (dz X scope cl C x N s₂ H₂ fp) M te)
  (S:closureFor scope X.env=pure cl) (eR:Wr X.env cl) (eQ:cl.map (·.1)=cn) (xg:X.env.scope=bB) (hk:scope.kind = .function) (aD:dv scope bB x N cn)
  (kq:fr.map (λj=>X.N[j]?)=N.map some) (rz:swapsWith (.ListComp M [⟨.Name x px,B,[],0⟩] scope pos) (some (.Name y U)) O.line X.env=pure true)
  (hf:X.fn y=true\/X.env.scope.names.lookup y=some .local) (hs:∀ v,foldedSetIterable B X.env v=pure v:=by intro _;rfl) :
  PS X (.Assign [.Name y U] (.ListComp M [⟨.Name x px,B,[],0⟩] scope pos) O) (oO i wi te fr):=by
 intro pins s σ H D I h;rw[exec_Assign_Name_used _ _ _ _ rz];refine ZA (wpAny_standAt (ZA ?_));show wpAny _ X.A (do let _ <- comprehension (.ListComp M [⟨.Name x px,B,[],0⟩] scope pos) scope X.env _ (newList []) false (eval B X.env) (some (assign (.Name y U) X.env))) _ _ s;refine ZA (WX (wpAny_comprehension_free (use:=some (assign (.Name y U) X.env)) (Q:=λ_ s'=>SP X pins D .next s') J hs S hk aD.names
  (aV (hi s σ H _ I h) λv s1 h1=>aV h1 λitv Z h2=>?_)) (λ_ s' hq=>ZO (ZO hq)) λ_ _ e=>e)
 obtain⟨it,fp,tn,JJ,H2,e,I2,T,oX,f2,hq⟩:=h2;subst e;obtain⟨W,⟨m0,w0⟩,turn⟩:=hq Z.heap.objs.size (I2.aD.fresh (ZF _));refine F2 (RR:=λacc C=>compPost (model X.prog X.w) X.A X.xe (some (assign (.Name y U) X.env)) (λ_ s'=>SP X pins D .next s') acc C) (R:=λH6=>D.nx (σ.set i (some (.ref Z.heap.objs.size))) H6) hc he eR eQ xg hk aD kq I2 T oX f2 w0 turn
  λC H6 s6 m6 hn I6 F6 q=>?_
 show wpAny _ X.A (assign (.Name y U) X.env (.ref Z.heap.objs.size)) _ _ _;refine wpAny_assign_Name (Ii (v:=.ref Z.heap.objs.size) I6 hN JW hy J (λs7 I7 ⟨a,sb,Y⟩=>?_) hf);have Ja:C≠a:=by
  rcases Y with Y | Y
  ·rw[Y];exact F6.2.1
  ·exact Ne.symm (F6.2.2.2.2.1 y a Y)
 exact⟨m6,hn.sameBut sb Ja,λh' Yn=>⟨_,H6,I7.e8 F6 Yn,q⟩⟩
def A5{lo:Int}{n:Nat}{T:V->Hp->(V->Hp->Prop)->Prop}{D:Addr}{H1:Hp}{R:Hp->Prop}(hn:n<=sizeLine)(Pv:Nat->List V->Hp->Prop)(Y:Pv 0 [] (upd H1 D (.lst [])))
  (U:∀ i ys H,Pv i ys H->H D=some (.lst ys)/\ys.length=i)
  (hs:∀ i ys H,i<n->Pv i ys H->T (.int (lo+i)) H λy B=>B D=some (.lst ys)/\Pv (i+1) (ys++[y]) (upd B D (.lst (ys++[y]))))
  (hd:∀ ys H,Pv n ys H->R H) :
  ∃ W:Nat->Nat->List V->Hp->Prop,(∃ m,W 0 m [] (upd H1 D (.lst []))) /\
   ∀ i m ys H2,W i m ys H2->H2 D=some (.lst ys)/\(((nW lo n).stop i H2/\R H2)\/((nW lo n).go i H2/\ys.length<sizeLine /\ ∃ N:V->Hp->Prop,(∀ y B,N y B->B D=some (.lst ys) /\ ∃ M,M<m/\W (i+1) M (ys++[y]) (upd B D (.lst (ys++[y])))) /\
    ∀ x H',(nW lo n).fF i H2 x H'->T x H' N)):=by
 exists λi m ys H=>m=n-i/\i<=n/\Pv i ys H,⟨n,by simp,ZX _,Y⟩
 rintro i m ys H2 ⟨rfl,hi,p⟩;obtain⟨Z,d2⟩:=U i ys H2 p;exists Z;by_cases I:i<n
 ·refine .inr ⟨I,{},λy B=>B D=some (.lst ys)/\Pv (i+1) (ys++[y]) (upd B D (.lst (ys++[y]))),λy B ⟨S,O⟩=>⟨S,n-(i+1),{},J,I,O⟩,λx H' y=>?_⟩;obtain⟨e,y⟩:=y;subst e y;exact hs i ys _ I p
 ·have e:i=n:={}
  subst e;exact .inl ⟨ZF _,hd ys H2 p⟩
def sJ{K:Fg}{a:Addr}{xs:List V}{T:V->Hp->(V->Hp->Prop)->Prop}{D:Addr}{H1:Hp}{R:Hp->Prop}(hn:xs.length<=sizeLine)(Pv:Nat->List V->Hp->Prop)(Z:Pv 0 [] (upd H1 D (.lst [])))
  (U:∀ i ys H,Pv i ys H->au K H a xs) (Y:∀ i ys H,Pv i ys H->H D=some (.lst ys)/\ys.length=i)
  (hs:∀ i x ys H,xs[i]? = some x->Pv i ys H->T x H λy B=>B D=some (.lst ys)/\Pv (i+1) (ys++[y]) (upd B D (.lst (ys++[y]))))
  (hd:∀ ys H,Pv xs.length ys H->R H) :
  ∃ W:Nat->Nat->List V->Hp->Prop,(∃ m,W 0 m [] (upd H1 D (.lst []))) /\
   ∀ i m ys H2,W i m ys H2->H2 D=some (.lst ys)/\(((yC K a).stop i H2/\R H2)\/((yC K a).go i H2/\ys.length<sizeLine /\ ∃ N:V->Hp->Prop,(∀ y B,N y B->B D=some (.lst ys) /\ ∃ M,M<m/\W (i+1) M (ys++[y]) (upd B D (.lst (ys++[y])))) /\
    ∀ x H',(yC K a).fF i H2 x H'->T x H' N)):=by
 exists λi m ys H=>m=xs.length-i/\i<=xs.length/\Pv i ys H,⟨xs.length,by simp,ZX _,Z⟩
 rintro i m ys H2 ⟨rfl,hi,p⟩;obtain⟨d1,d2⟩:=Y i ys H2 p;have q:=U i ys H2 p;exists d1;by_cases I:i<xs.length
 ·refine .inr ⟨⟨xs,xs[i],q,by simp[I]⟩,{},λy B=>B D=some (.lst ys)/\Pv (i+1) (ys++[y]) (upd B D (.lst (ys++[y]))),λy B ⟨S,O⟩=>⟨S,xs.length-(i+1),{},J,I,O⟩,λx H' y=>?_⟩;obtain⟨e,y⟩:=y;subst e;exact hs i x ys _ (y xs q) p
 ·have e:i=xs.length:={}
  subst e;exact .inl ⟨⟨xs,q,ZF _⟩,hd ys H2 p⟩
end L2
namespace HT
set_option autoImplicit false
open PySem PySem.Spec PyProof.Rows List
section
variable {prog:Program}{w:World}{A:Around}{E:VS}{s:Shared}
def OG{t M:Addr}{items:Array Value}{W U:Value}{lo hi:Option Int}{Q:VS}(I:IsTup s.heap t items)(hs:s.heap.IsSliceOf M W U .none)(pl:IsPart W lo)(Y:IsPart U hi)
  (h0:bP items.size 0 lo=0) (h1:bP items.size items.size hi=items.size) (h:Q (.ref t) s):wpAny (model prog w) A (getItem (.ref t) (.ref M)) Q E s:=by
 obtain⟨os,N,O,Z⟩:=id hs;have S:s.TypeIs (.ref M) "slice" := ⟨os,N,O⟩
 have hT:s.TypeIs (.ref t) "tuple" := I.typeIs;unfold getItem
 try with_reducible refine YU ?_
 first | refine ZA (ZO ?_) | skip
 refine ZA (wpAny_sequenceKey I.typeIs ∅ ?_);refine ZA (YE (name:=Str.ofString "__getitem__") I.typeIs PyProof.Rows.slot_tuple_getitem
  (YJ PyProof.Rows.slot_tuple_getitem I.typeIs entry_tuple_getitem ?_ (args_tuple_getitem _ _)))
 show wpAny _ _ (Builtin.Tuple.tupleItemsOf (.ref t) >>= _) _ _ s;refine ZA (tupleItemsOf_ I ?_);refine ZA (wpAny_typeOf S ?_);rw[ZL ∅];refine ZA (To hs pl Y ?_);have B:((((bP items.size 0 lo:Nat):Int)==0&&(1:Int)==1&&(bP items.size items.size hi-bP items.size 0 lo)==items.size)=true):=by rw[h0,h1];simp
 show wpAny _ _ (if(((bP items.size 0 lo:Nat):Int)==0&&(1:Int)==1&&(bP items.size items.size hi-bP items.size 0 lo)==items.size)=true then _ else _) _ _ s;rw[ZL B]
 first
  | exact ZA (wpAny_typeOf hT (ZO ⟨_,J,ZO h⟩))
  | exact ZO ⟨_,J,ZO h⟩
  | exact ZA (ZO ⟨_,J,ZO h⟩)
  | (wp_walk;exact⟨_,J,ZO h⟩)
  | (wp_walk;exact⟨_,J,h⟩)
end
end HT
namespace L2
open PySem PySem.Spec PyProof.Rows List
variable {X:Cx}
def c7(H:Hp)(a:Addr)(xs:List V):Prop:=∃ o:Obj,H a=some (.cx o (.tup xs))/\o.cls = .type "tuple" /\ o.dict=none
def c7.sq{K:Fg}{H:Hp}{a:Addr}{xs:List V}(h:c7 H a xs):au K H a xs:=by obtain⟨o,h,_⟩:=h;exact .inl (.inr ⟨o,h⟩)
def c7.same(h:c7 H a xs)(s:ag H H'):c7 H' a xs:=by obtain⟨o,h,c⟩:=h;exact⟨o,s _ _ h,c⟩
section
inductive Qr(K:Fg)(xs:List V)(H:Hp)(Q:VK):Prop
 |mk(p ys)(_:xs=[.ref p])(_:ao K H p ys)(_:∀ l H',ag H H'->c7 H' l ys->Q (.ref l) H')
def kQ:b8 X (.type "tuple") (Qr X.K):=by
 intro pins s σ H xs us Q I r h;obtain⟨p,ys,rfl,hq,q⟩:=h;obtain⟨u,rfl,O⟩:=vals1 r;cases O;obtain⟨B,M,pl,S⟩:=I.list hq;have hlen:=M.length;refine call_tuple_list pl.isList (λh' kp=>?_) (by simp only[WC] <;> lia);have N:Inv X pins σ H { s with heap:=h' }:=I.kept (t':=s.toks) kp;have I2:Inv X pins σ (upd H h'.objs.size (.cx { cls:=.type "tuple", data:=.seq B.toArray } (.tup ys))) { s with heap:=h'.push { cls:=.type "tuple", data:=.seq B.toArray } }:=
  N.laid (t':=s.toks) (λb o e=>ZE _ e) (ZF _) (show bg X.prog X.w _ _ _ (.cx _ (.tup ys)) from⟨ZY _ J,S,B,M,IsTup.new _ _⟩)
 exact⟨.ref h'.objs.size,_,I2,J,q _ _ (aM (N.aD.fresh (ZF _)) _) ⟨_,ax,J,J⟩⟩
def sI{xs:List V}{lo hi:Option Int}(B:HT.bP xs.length 0 lo=0)(h1:HT.bP xs.length xs.length hi=xs.length):dO xs lo hi=xs:=by unfold dO;rw[B,h1,drop_zero,Nat.sub_zero,WR]
inductive rK  (x:V) (lo:Option Int) (hi:Option Int) (H:Hp) (Q:VK):Prop
 |mk(a xs)(_:x = .ref a)(_:c7 H a xs)(_:∀ p H',ag H H'->c7 H' p (dO xs lo hi)->Q (.ref p) H')
def Nm:LA X rK:=by
 intro pins s σ H x v Y W lo hi Z Q I U hs pl N h;obtain⟨a,xs,rfl,S,q⟩:=h;cases U;obtain⟨B,r,M,O⟩:=I.tuple (S.sq (K:=X.K));have hlen:B.toArray.size=xs.length:=by rw[WC];exact r.length.symm
 exists "tuple", _,PyProof.Rows.slot_tuple_getitem.lookup,M.typeIs;by_cases hw:HT.bP xs.length 0 lo=0/\HT.bP xs.length xs.length hi=xs.length
 ·refine HT.OG M hs pl N (by rw[hlen];exact hw.1) (by rw[hlen];exact hw.2) ⟨.ref a,H,I,J,q a H (ag.refl H) ?_⟩;rw[sI hw.1 hw.2];exact S
 ·refine HT.OK M hs pl N (by rw[hlen];exact hw) ?_ (by rw[hlen];exact O);rw[hlen];refine⟨.ref s.heap.objs.size,_,I.laid (t':=s.toks) (o:=.cx { cls:=.type "tuple", data:=.seq ((B.toArray.toList.drop (HT.bP xs.length 0 lo)).take (HT.bP xs.length xs.length hi-HT.bP xs.length 0 lo)).toArray } (.tup (dO xs lo hi))) (λb ob q=>ZE _ q) (ZF _) ?_,J,
   q _ _ (aM (I.aD.fresh (ZF _)) _) ⟨_,ax,J,J⟩⟩
  exact⟨ZY _ J,ZT (Sg xs lo hi) O,_,(r.drop (HT.bP xs.length 0 lo)).take (HT.bP xs.length xs.length hi-HT.bP xs.length 0 lo),IsTup.new _ _⟩
theorem GQ{x:V}{xs:List V}{us:List Value}(h:Vals xs us)(f:xs.all c5=true):us.countP (rV x)=xs.countP λy=>mf y x:=by
 induction h with
 | nil=>rfl
 | cons r t i=>rw[all_cons,WZ]at f;rw[countP_cons,countP_cons,Nu r f.1,i f.2]
inductive OF(K:Fg)(x:V)(xs:List V)(H:Hp)(Q:VK):Prop
 |mk(a ys v)(_:x = .ref a)(_:xs=[v])(_:au K H a ys)(_:c5 v=true)(_:ys.all c5=true)(_:Q (.int (ys.countP λy=>mf y v:Nat)) H)
def Nl:xM X "tuple.count" (OF X.K):=by intro pins s σ H x xs v us Q I W Y h;obtain⟨a,ys,y,rfl,rfl,ha,f1,f2,q⟩:=h;cases W;obtain⟨u,rfl,Z⟩:=Y.one;obtain⟨B,r,p,M⟩:=I.tuple ha;obtain⟨⟨cls,dd,data,U⟩,N,O,n,hd⟩:=id p;simp only at O hd;subst O hd;refine call_meets F.slot_tuple_count ⟨_,N,J⟩ F.entry_tuple_count (F.args_tuple_count_2 _ _) (SeqAt.tuple_countAt a B.toArray n dd U u (rV y)) ⟨N,λz M=>vx Z f1 r f2 z (by simpa using M),?_⟩;refine⟨.int (ys.countP λS=>mf S y:Nat),H,I.tok _,?_,q⟩;rw[<- GQ r f2];exact⟨_,J⟩
def L4(T:String)(r:V->List V->Hp->VK->Prop)(to:TE)(t:TA):TE:=λσ H Q=>to σ H λx H1=>(bR λa o u=>cP (x = .ref a) (H1 a=some (.cx o u)) (o.cls = .type T) (o.dict=none))/\t σ H1 λxs H2=>r x xs H2 Q
variable{o e:Expr}{es:List Expr}{to:TE}{t:TA}{name:Str}{apos bN:Pos}{T id:String}{r:V->List V->Hp->VK->Prop}
def BF(pa:PlainAttrs T)(slot:Slot T name id)(S:typeOf (.builtin id)=pure (.type "method_descriptor")) (hm:xM X id r) (ho:PE X o to) (ha:PA X (e::es) t)
  (N:attributeBase o name X.env (eval o X.env)=eval o X.env:=by rfl)
  (O:((backTo bN (starEach (e::es) X.env)).all (λx=>!x.1)&&(backToKw bN (keywordEach [] X.env)).all (λx=>x.1.isSome)
   && decide ((e::es).length+([]:List Keyword).length+(if([]:List Keyword).isEmpty then 0 else 1)<30))=true:=by rfl)
  (M:(apos.endLine==bN.line)=true:=by rfl) (hs:starEach (e::es) X.env=(false,eval e X.env)::starEach es X.env:=by rfl) (B:(backTo bN (starEach es X.env)).any (·.1)=false:=by rfl) :
  PE X (.Call (.Attribute o name apos) (e::es) [] bN) (L4 T r to t):=by
 intro pins s σ H Q I h;refine wpAny_Call_method_late N O M J (aV (ho s σ H _ I h) ?_);rintro v s1 ⟨x,H1,Z,r1,⟨a,U,u,rfl,hH,hc,hd⟩,q1⟩;cases r1;obtain⟨W,_⟩:=Z.aD a _ hH;exists T,id,pa,slot,S,⟨U,W,hc⟩,λb eb=>?_
 ·cases eb;exact⟨U,W,hd⟩
 have Y:=@ha bN pins s1 σ H1 _ Z q1;rw[hs]at Y ⊢;refine Calls.callWith_builtin (by show(false||(backTo bN (starEach es X.env)).any (·.1))=false;rw[B] <;> rfl) (Calls.evalArgs_plain ?_);refine aV Y ?_;rintro us s2 ⟨vs,H2,I2,r2,q2⟩;exact hm pins s2 σ H2 (.ref a) vs (.ref a) us Q I2 J r2 q2
end
def Nk(bs:List Bool):((List.range bs.length).all λi=>bs.getD i true)=bs.all id:=by
 rw[Bool.eq_iff_iff,all_eq_true,all_eq_true];constructor
 ·intro h b I;obtain⟨i,hi,rfl⟩:=List.mem_iff_getElem.mp I;have:=h i (List.mem_range.mpr hi);simpa [WS,hi] using this
 ·intro h i hi;have B:=List.mem_range.mp hi;have:=h bs[i] (getElem_mem B);simpa [WS,B] using this
inductive Nj(K:Fg)(xs:List V)(H:Hp)(Q:VK):Prop
 |mk(p:Addr)(bs:List Bool)(_:xs=[.ref p])(_:ao K H p (bs.map V.bl))(_:Q (.bl (bs.all id)) H)
def Fb(hc:X.calm=true):b8 X (.builtin "all") (Nj X.K):=by
 intro pins s σ H xs us Q I r h;obtain⟨p,bs,rfl,hq,q⟩:=h;obtain⟨u,rfl,Z⟩:=vals1 r;cases Z;obtain⟨B,Y,pl,hz⟩:=I.list hq;have U:=Y.length;rw[ZK]at U;obtain⟨o,n,ho,_⟩:=id pl;have S:p<s.heap.objs.size:=ZW ho;refine call_all_walk (wpAny_pyIter_list pl.isList ⟨s.heap.objs.size,_,_,_,_,_,λi=>bs.getD i true,J,Walks.list (A:=X.A.in1) (show X.A.in1.handled=none from I.ok.hd hc) s.heap.objs.size p (WN S) B.toArray,⟨⟨_,ZY _ J,J,J⟩,pl.isList.at λo e=>ZE _ e⟩,?_,?_⟩)
 ·intro i v s' Q' E' hv W;have M:B[i]? = some v:=by simpa using hv
  have hi:i<bs.length:=by rw[U];exact(ac M).1
  obtain⟨u',N,O⟩:=Y.get (i:=i) (x:=.bl bs[i]) (by rw[WE,ZP hi] <;> rfl);rw[M]at N;cases N;cases O;refine YR ?_;have e:bs.getD i true=bs[i]:=by simp[WS,hi]
  rw[<- e];exact W
 ·intro h' tk hk;refine⟨.bl (bs.all id),H,I.kept (t':=tk) λb ob e=>hk b ob (by simp;exact WN (ZW e)) (ZE _ e),?_,q⟩;show Value.bool _=Value.bool _;congr 1;rw[WC,<- U];exact Nk bs
def VN:Addr:=111
def Ctx(cls:Value)(vs:Array Value):Prop:=cls ≠ .ref VN->vs[2]? = some .none
def Exc(n:Nat)(h:Heap)(x:Addr)(cls:Value)(dd:Option Addr)(fl:Value):Prop:=
 lT λ(B:Obj) (vs:Array Value) (T:Addr) (I:Obj) (ts:Array Value)=>dw ((h.get? x=some B/\B.cls=cls/\B.dict=dd/\B.data = .fields vs/\vs[1]? = some (.ref T)/\Ctx cls vs)) ((n<=T/\T≠x)) (h.get? T=some I) (I.data = .fields ts) (ts[3]? = some fl)
structure Fly(n:Nat)(fs:List Addr)(x:Addr)(h h':Heap):Prop where
 keep:∀ b o,h.get? b=some o->b<n->b≠x->b ∉ fs->h'.get? b=some o
 slot:∀ b o,h.get? b=some o->b∈fs -> ∃ sl,h'.get? b=some { o with slots:=sl }
 there:∀ b o,h.get? b=some o -> ∃ o',h'.get? b=some o'
structure Out(P:Program)(w:World)(outer:List Env)(H:Hp)(s:Shared)(x:Addr)(cls:Value)(dd:Option Addr)(n:Nat)(H':Hp)(fl:Value)(s':Shared):Prop where
 os:s'.os=s.os
 bare:AllBare s'.gens
 un:Un (gF outer) [] H H' s.heap s'.heap
 aD:c9 P w H' s'.heap
 exc:Exc n s'.heap x cls dd fl
 free:H' x=none
 new:s.heap.get? x=none
 old:s.heap.objs.size<=n
 low:∀ b u,H' b=some u->b<n
def V4(P:Program)(w:World):tK:=λouter H s E e s'=>lT λ(x:Addr) (cls:Value) (dd:Option Addr) (n:Nat) (H':Hp)=>aP (e = .ref x) (Out P w outer H s x cls dd n H' .none s') (E cls dd H')
section
variable {pins:List (Addr×Obj)}{σ:St}{H H':Hp}{s s':Shared}{x:Addr}{cls fl:Value}{dd:Option Addr}{n:Nat}
structure ac5(X:Cx)(pins:List (Addr×Obj))(σ:St)(H:Hp)(s:Shared)(x:Addr)(cls:Value)(dd:Option Addr)(n:Nat)(fl:Value):Prop where
 inv:Inv X pins σ H s
 exc:Exc n s.heap x cls dd fl
 free:H x=none
 new:X.s₀.heap.get? x=none
 old:X.s₀.heap.objs.size<=n
 low:∀ b u,H b=some u->b<n
 loc:X.env.locals<n
end
structure Lv(X:Cx)(E:XK):Prop where
 xe:X.xe=λe s'=>wpAny (model X.prog X.w) X.A (leaving X.env e) (λ_ L9=>V4 X.prog X.w X.outer X.H₀ X.s₀ E e L9) (λe' L9=>V4 X.prog X.w X.outer X.H₀ X.s₀ E e' L9) s'
 ex:X.ex=[]
 stack:X.stack=X.env::X.outer
 frame:X.env.frame=some X.env.locals
 calm:X.calm=true
structure ac2(K:Fg)(C:Addr):Prop where
 ga:PySem.W.findIn K (.ref C) "__getattribute__" = some (some (.builtin "BaseException.__getattribute__"))
 gh:PySem.W.findIn K (.ref C) "__getattr__" = some none
 sb:PySem.W.subIn K (.ref C) (.type "BaseException")=some true
 cl:PySem.W.isClsIn K C=true
 fi:PySem.W.findIn K (.ref C) "__class__" = some (some (.builtin "object.__class__"))
 sp:PySem.W.specialIn K (.builtin "object.__class__") "__get__" = some (some (.builtin "getset_descriptor.__get__"))
 tk:PySem.W.takesIn K (.builtin "object.__class__")=some true
 mr:PySem.W.mroIn K C (.type "object")=some true
section
variable {prog:Program}{w:World}{A:Around}{E:VS}{s:Shared}
def GP{i:Nat}(N:s.heap.IsTupleIter B tp i)(Y:s.heap.IsTuple tp us)(W:us[i]? = some u)
  (k:∀ h',h'.IsTupleIter B tp (i+1)->Heap.SameBut B s.heap h'->Q u { s with heap:=h' }):wpAny (model prog w) A (Builtin.SmallTypes.nextOf (.ref B)) Q E s:=by
 obtain⟨o,M,U,I⟩:=id N;obtain⟨ot,S,_,Z,O⟩:=Y;unfold Builtin.SmallTypes.nextOf;refine ZA (YE (name:=Str.ofString "__next__") N.typeIs F.slot_tuple_iterator_next (YJ F.slot_tuple_iterator_next N.typeIs F.entry_tuple_iterator_next ?_ (F.args_tuple_iterator_next_1 _)));show wpAny _ _ (field (.ref B) 0 >>= _) _ _ s;refine ZA (YD M I (x:=.ref tp) J ?_);show wpAny _ _ (if(Value.ref tp==Value.none)=true then _ else _) _ _ s;rw[ZJ (show ¬((Value.ref tp==Value.none)=true)from fnt)];show wpAny _ _ (field (.ref B) 1 >>= _) _ _ s;refine ZA (YD M I (x:=.int i 0) J ?_);show wpAny _ _ (seqItems? (.ref tp) >>= _) _ _ s;refine ZA (wpAny_seqItems S O ?_);simp only[Int.toNat_natCast,W];refine ZA (wpAny_setField M I (by simp) (ZO ⟨u,J,ZO (k _ ?_ (Heap.SameBut.update ..))⟩));exact⟨_,Heap.get?_update_self _ M (Obj.isFreed_of_fields (Obj.data_mapFields I _)),(Obj.cls_mapFields ..).trans U,by rw[Obj.data_mapFields I];simp[rawInt]⟩
def pR{i:Nat}{Q:VS}(O:A.handled=none)(N:s.heap.IsTupleIter B tp i)(Y:s.heap.IsTuple tp us)(W:us[i]? = none)
  (k:∀ h' x,Heap.ExtBut B s.heap h'->(∃ o,h'.get? x=some o/\o.cls = .type "StopIteration")->E (.ref x) { s with heap:=h' }):wpAny (model prog w) A (Builtin.SmallTypes.nextOf (.ref B)) Q E s:=by
 obtain⟨o,M,b2,I⟩:=id N;obtain⟨ot,U,_,Z,S⟩:=Y;unfold Builtin.SmallTypes.nextOf;refine ZA (YE (name:=Str.ofString "__next__") N.typeIs F.slot_tuple_iterator_next (YJ F.slot_tuple_iterator_next N.typeIs F.entry_tuple_iterator_next ?_ (F.args_tuple_iterator_next_1 _)));show wpAny _ _ (field (.ref B) 0 >>= _) _ _ s;refine ZA (YD M I (x:=.ref tp) J ?_);show wpAny _ _ (if(Value.ref tp==Value.none)=true then _ else _) _ _ s;rw[ZJ (show ¬((Value.ref tp==Value.none)=true)from fnt)];show wpAny _ _ (field (.ref B) 1 >>= _) _ _ s;refine ZA (YD M I (x:=.int i 0) J ?_);show wpAny _ _ (seqItems? (.ref tp) >>= _) _ _ s;refine ZA (wpAny_seqItems U S ?_);simp only[Int.toNat_natCast,W];refine ZA (wpAny_rule (ZA (wpAny_setField M I (by simp) ?_)));show wpAny _ _ (newExc (.type "StopIteration") [] >>= λ_=>_) _ _ _;refine ZA ?_;simp only[newExc,newTuple];refine ZA (YZ ?_ (by size_fits));refine ZA (m:=firstArgMember _ _) (wpAny_of_eq (a:=Value.none) (by first | rfl | simp[firstArgMember]) (YZ ?_ (by size_fits)));simp only[raiseNew];refine ZA (wpAny_handled ?_)
 first | rw[show A.in1.handled=none from O] | (rw[O];skip)
 exact ZA (ZO (wpAny_throw (k _ _ (((Heap.SameBut.update ..).extBut.push _).push _) ⟨_,ZY _ J,J⟩)))
def OE{i:Nat}{Q:Option Value->Shared->Prop}(e0:IsEnum s.heap en ia i Cs)(a1:s.heap.IsTupleIter ia tp i)(a2:s.heap.IsTuple tp us)(a3:us[i]? = some u)(ne:en≠ia)
  (k:∀ h',IsEnumOut h' en ia ((i:Int)+1) u s.heap.objs.size->h'.IsTupleIter ia tp (i+1)->h'.get? s.heap.objs.size=some { cls:=.type "tuple", data:=.seq #[.int i s.toks,u] } ->
   (∀ b o,b≠en->b≠ia->s.heap.get? b=some o->h'.get? b=some o)->Q (some (.ref s.heap.objs.size)) { s with heap:=h',toks:=s.toks+1 }) :
  wpAny (model prog w) A (pyNext (.ref en)) Q E s:=by
 have ty:s.TypeIs (.ref en) "enumerate" := ⟨_,e0,J⟩
 unfold pyNext;refine ZA (wpAny_attempt (YE (name:=Str.ofString "__next__") ty F.slot_enumerate_next (YJ F.slot_enumerate_next ty F.entry_enumerate_next ?_ (F.args_enumerate_next_1 _))));obtain⟨I,g,d,tk,os⟩:=s;show wpAny _ _ (field (.ref en) 2 >>= _) _ _ _;refine ZA (YD e0 J (x:=.ref ia) J (ZA (GP a1 a2 a3 λh1 n1 S=>?_)));replace S:Heap.SameBut ia I h1:=S;have e1:IsEnum h1 en ia i Cs:=(S.2 en ne).trans e0;show wpAny _ _ (field (.ref en) 3 >>= _) _ _ ⟨h1,g,d,tk,os⟩;refine ZA (YD e1 J (x:=rawInt i) J ?_);show wpAny _ _ (field (.ref en) 4 >>= _) _ _ ⟨h1,g,d,tk,os⟩;refine ZA (YD e1 J (x:=.none) J ?_);show wpAny _ _ (mkInt i >>= _) _ _ ⟨h1,g,d,tk,os⟩;refine ZA (wpAny_mkInt ?_);show wpAny _ _ (setField (.ref en) 3 (rawInt ((i:Int)+1)) >>= _) _ _ ⟨h1,g,d,tk+1,os⟩;refine ZA (YK e1 (by simp) λh2 e2 O=>?_);replace O:Heap.SameBut en h1 h2:=O;replace e2:IsEnum h2 en ia ((i:Int)+1) Cs:=e2;show wpAny _ _ (setField (.ref en) 4 .none >>= _) _ _ ⟨h2,g,d,tk+1,os⟩;refine ZA (YK e2 (by simp) λW e3 N=>?_);replace N:Heap.SameBut en h2 W:=N;replace e3:IsEnum W en ia ((i:Int)+1) Cs:=e3;show wpAny _ _ (newTuple [.int i tk,u] >>= _) _ _ ⟨W,g,d,tk+1,os⟩;refine ZA (wpAny_newTuple ?_);have z3:W.objs.size=I.objs.size:=by rw[N.1,O.1,S.1]
 have l0:en<I.objs.size:=ZW e0;have ni:ia≠en:=Ne.symm ne;generalize B:W.push { cls:=.type "tuple", data:=.seq #[.int i tk,u] }=M;have e4:IsEnum M en ia ((i:Int)+1) Cs:=by rw[<- B];exact ZE _ e3
 have t4:M.get? I.objs.size=some { cls:=.type "tuple", data:=.seq #[.int i tk,u] }:=by rw[<- B,<- z3];exact ZY _ J
 have k4:∀ b o,b≠en->b≠ia->I.get? b=some o->M.get? b=some o:=λb o U m2 q=>by
  rw[<- B];exact ZE _ (N.extBut b o U (O.extBut b o U (S.extBut b o m2 q)))
 have n4:M.IsTupleIter ia tp (i+1):=by rw[<- B];obtain⟨o,q,r⟩:=(n1.extBut O.extBut ni).extBut N.extBut ni;exact⟨o,ZE _ q,r⟩
 show wpAny _ _ (Builtin.SmallTypes.ownedTupleIsFree (.ref en) >>= _) _ _ ⟨M,g,d,tk+1,os⟩;rw[z3];clear B;refine ZA ?_;unfold Builtin.SmallTypes.ownedTupleIsFree;refine ZA (YD e4 J (x:=.none) J (ZO ?_));simp only[if_true];refine ZA (wpAny_rule (ZA (YD e4 J (x:=Cs) J (ZA (YK e4 (by simp) λZ e5 s5=>?_)))));replace s5:Heap.SameBut en M Z:=s5;replace e5:IsEnum Z en ia ((i:Int)+1) u:=e5;show wpAny _ _ (Builtin.SmallTypes.ownedTupleHandOut (.ref en) (.ref I.objs.size) >>= _) _ _ ⟨Z,g,d,tk+1,os⟩;refine ZA ?_;unfold Builtin.SmallTypes.ownedTupleHandOut;refine ZA (YK e5 (by simp) λh6 e6 s6=>?_);replace s6:Heap.SameBut en Z h6:=s6;replace e6:IsEnumOut h6 en ia ((i:Int)+1) u I.objs.size:=e6;refine YK e6 (by simp) λY e7 s7=>?_;replace s7:Heap.SameBut en h6 Y:=s7;replace e7:IsEnumOut Y en ia ((i:Int)+1) u I.objs.size:=e7;have up:∀ b o,b≠en->M.get? b=some o->Y.get? b=some o:=λb o m q=>s7.extBut b o m (s6.extBut b o m (s5.extBut b o m q));refine ZA (wpAny_letGo (ZO ⟨_,J,ZO (k Y e7 ?_ (up _ _ (Nat.ne_of_gt l0) t4) λb o U m2 q=>up b o U (k4 b o U m2 q))⟩));obtain⟨o,q,r⟩:=n4;exact⟨o,up _ _ ni q,r⟩
def Ni{i:Nat}(U:A.handled=none)(I:IsEnum s.heap B ia i Cs)(Z:s.heap.IsTupleIter ia tp i)(Y:s.heap.IsTuple tp us)(W:us[i]? = none)
  (k:∀ h',Heap.ExtBut ia s.heap h'->Q none { s with heap:=h' }):wpAny (model prog w) A (pyNext (.ref B)) Q E s:=by
 have ty:s.TypeIs (.ref B) "enumerate" := ⟨_,I,J⟩
 unfold pyNext;refine ZA (wpAny_attempt (YE (name:=Str.ofString "__next__") ty F.slot_enumerate_next (YJ F.slot_enumerate_next ty F.entry_enumerate_next ?_ (F.args_enumerate_next_1 _))));show wpAny _ _ (field (.ref B) 2 >>= _) _ _ _;refine ZA (YD I J (x:=.ref ia) J (ZA (pR U Z Y W λh' x N M=>?_)));obtain⟨o,S,O⟩:=M;exact ZA (wpAny_isInstance (T := "StopIteration") (b:=true) ⟨o,S,O⟩ isSubtype_stop (ZO (k _ N)))
end
def Kv(K:Fg)(a:Addr):It:=
 ⟨λi H=>aO λxs x=>au K H a xs/\xs[i]? = some x,λi H x H'=>aO λp y=>cP (x = .ref p) (H p=none) (H'=upd H p (.tup [.int i,y])) (∀ xs,au K H a xs->xs[i]? = some y),λi H=>∃ xs,au K H a xs/\xs.length<=i⟩
def El:2<=sizeLine:=aZ J
def OD{P:Program}{w:World}{K:Fg}{es:List Expr}{x1:Nat}{pos:Pos}(a N B:Addr)(ne:N≠B) :
  Turn P w K (.Tuple es x1 pos) (Kv K a) [N,B] N (λi h=>(∃ M,IsEnum h N B (i:Nat) M)/\h.IsTupleIter B a i) where
 mem:=by simp
 obj:=λi h st b O=>by
  obtain⟨⟨M,S⟩,o,U,q3,q4⟩:=st;rcases ad O with z | z
  ·subst z;exact⟨_,S,λv y=>by cases y⟩
  ·have z':b=B:=by simpa using z
   subst z';exact⟨o,U,λv y=>by rw[q4]at y;cases y⟩
 keep:=λi h h' st k=>by
  obtain⟨⟨M,S⟩,o,U,q3⟩:=st;exact⟨⟨M,k N (by simp) _ S⟩,o,k B (by simp) _ U,q3⟩
 item:=by
  intro X hP hw hK hc i pins s σ H E I hf st hg;subst hP hw hK;obtain⟨⟨M,S⟩,U⟩:=st;obtain⟨xs,x,hq,hx⟩:=hg;obtain⟨W,rv,p,hz⟩:=I.tuple hq;obtain⟨u,hu,ru⟩:=rv.get hx;refine OE S U (show s.heap.IsTuple a W.toArray from p) (u:=u) (by simpa using hu) ne λh1 e1 n1 t1 k1=>⟨_,J,?_⟩
  refine wpAny_letOwnedTupleGo_enum e1 λh2 e2 s2=>?_;replace s2:Heap.SameBut N h1 h2:=s2;have len:N<s.heap.objs.size:=ZW S;have t2:h2.get? s.heap.objs.size=some { cls:=.type "tuple", data:=.seq #[.int i s.toks,u] }:=(s2.2 _ (Nat.ne_of_gt len)).trans t1;have kk:∀ b o,b≠N->b≠B->s.heap.get? b=some o->h2.get? b=some o:=λb o m1 m2 q=>(s2.2 b m1).trans (k1 b o m1 m2 q);have fr:H s.heap.objs.size=none:=I.aD.fresh (ZF _);have Y:=hf N (by simp);have f2:=hf B (by simp);have CD:∀ b,H b≠none->b≠N/\b≠B:=λb m=>⟨λz=>m (z▸Y.1),λz=>m (z▸f2.1)⟩
  have un:Un (gF X.stack) [N,B] H (upd H s.heap.objs.size (.tup [.int i,x])) s.heap h2:=by
   have Z:∀ b,b ∉ [N,B]->b≠N/\b≠B:=λb m=>⟨λz=>m (by simp[z]),λz=>m (by simp[z])⟩
   have np:∀ b o,s.heap.get? b=some o->b≠s.heap.objs.size:=λb o q=>WN (ZW q);exact⟨λb o q _ _ m=>kk b o (Z b m).1 (Z b m).2 q,λb o q _ _ m=>⟨o.slots,kk b o (Z b m).1 (Z b m).2 q⟩,λb o q m _=>by rw[bC (np b o q)];exact m,λb o q m=>⟨o,kk b o (Z b m).1 (Z b m).2 q⟩,
    λb ys q=>by rw[bC (cO q fr)];exact q,λb o v q=>by rw[bC (cO q fr)];exact q,λb ps q=>⟨#[],by rw[bC (cO q fr),q];simp⟩⟩
  have aD:c9 X.prog X.w (upd H s.heap.objs.size (.tup [.int i,x])) h2:=λb ob e=>by
   by_cases O:b=s.heap.objs.size
   ·subst O;rw[ax]at e;cases e;exact⟨El,[.int i s.toks,u],.cons ⟨_,J⟩ (.cons ru .nil),⟨_,t2,J,_,J⟩⟩
   ·rw[bC O]at e;refine(I.aD b ob e).dY (λc v z q=>?_) (λc q=>by rw[bC (cO q fr)];exact q) λc ys q=>by rw[bC (cO q fr)];exact q
    have m:H c≠none:=by
     rcases z with rfl | z
     ·rw[e];exact λy=>nomatch y
     ·rw[z];exact λy=>nomatch y
    exact kk c v (CD c m).1 (CD c m).2 q
  have JJ:Inv X pins σ (upd H s.heap.objs.size (.tup [.int i,x])) { s with heap:=h2,toks:=s.toks+1 }:=by
   refine I.iB (s':={ s with heap:=h2,toks:=s.toks+1 }) (ch:=[N,B]) J un aD I.bare λb O=>?_;rcases ad O with z | z
   ·subst z;exact⟨Y.2.2.2.1,Y.2.1,Y.2.2.2.2.1,Y.2.2.2.2.2⟩
   ·have z':b=B:=by simpa using z
    subst z';exact⟨f2.2.2.2.1,f2.2.1,f2.2.2.2.2.1,f2.2.2.2.2.2⟩
  refine⟨.ref s.heap.objs.size,_,JJ,J,⟨s.heap.objs.size,x,J,fr,J,λys hy=>by rw[I.eV hy hq];exact hx⟩,⟨⟨u,?_⟩,?_⟩,λb O=>?_⟩
  ·have:((i+1:Nat):Int)=(i:Int)+1:={}
   rw[this];exact e2
  ·obtain⟨o,q,r⟩:=n1;exact⟨o,(s2.2 B (Ne.symm ne)).trans q,r⟩
  ·have hb':b=N\/b=B:=by simpa using O
   have lb:b<s.heap.objs.size:=by
    rcases hb' with z | z
    ·rw[z];exact len
    ·obtain⟨o,q,_⟩:=U;rw[z];exact ZW q
   rw[bC (WN lb)];exact(hf b O).1
 done:=by intro X hP hw hK hc i pins s σ H E I hf st hg;subst hP hw hK;obtain⟨⟨M,S⟩,U⟩:=st;obtain⟨xs,hq,hx⟩:=hg;obtain⟨W,rv,p,hz⟩:=I.tuple hq;obtain⟨f0,Y,f2,f3,f4,f5⟩:=hf B (by simp);have hl:=rv.length;exact Ni (I.ok.hd hc) S U (show s.heap.IsTuple a W.toArray from p) (by simp;lia) λh' eb=>⟨J,I.turned (t':=s.toks) (λb o O e=>eb b o O e) f0 Y f3 f4 f5⟩
 self:=λ_ _ _ _ _ st h=>by
  obtain⟨⟨M,S⟩,_⟩:=st;exact wpAny_pyIter_enum S h
def Nh(tp:Addr)(us:Array Value)(n:Nat)(I:Option Addr)(N:Array (Option Value)) :
  Meets (Builtin.«enumerate.__new__» ⟨[.type "enumerate", .ref tp],[]⟩) (λ_ R s=>s.heap.get? tp=some { cls:=.type "tuple", dict:=I,data:=.seq us n,slots:=N } /\
   R (.ok (.ret (.ref (s.heap.push { cls:=.type "tuple_iterator", data:=.fields #[.ref tp,.int 0 0] }).objs.size)))
    { s with heap:=(s.heap.push { cls:=.type "tuple_iterator", data:=.fields #[.ref tp,.int 0 0] }).push { cls:=.type "enumerate", data:=.fields #[.none,.bool false,.ref s.heap.objs.size,rawInt 0,.none,.none] } }):=
 .of_wp λprog w A R s z=>by
  obtain⟨hp,g,d,tk,os⟩:=s;obtain⟨B,M⟩:=z;have O:=sub_enumerate;have T:Heap.IsTuple (Shared.heap ⟨hp,g,d,tk,os⟩) tp us:=⟨_,B,J,n,J⟩
  wp_walk using AutoSeq1.wpAny_loadPart' B
  refine wpAny_stack_any λst=>ZO ?_;generalize Builtin.SmallTypes.calledThroughType.match_1 _ _ _ _=b;cases b
  all_goals
   wp_walk using AutoSeq1.wpAny_loadPart' B,wpAny_pyIter_tuple T
   exact⟨_,J,M⟩
section
variable {prog:Program}{w:World}{A:Around}{E:VS}{s:Shared}
def OC(T:s.heap.IsTuple tp us)
  (k:∀ h',IsEnum h' (s.heap.objs.size+1) s.heap.objs.size 0 .none->h'.IsTupleIter s.heap.objs.size tp 0->(∀ b o,s.heap.get? b=some o->h'.get? b=some o)->Q (.ref (s.heap.objs.size+1)) { s with heap:=h' }) :
  wpAny (model prog w) A (call (.type "enumerate") [.ref tp]) Q E s:=by
 obtain⟨⟨c,O,dt,sl⟩,Z,U,n,S⟩:=T;simp only at U S;subst U S;refine callType_new F.called_enumerate ∅ (F.typeCall_enumerate_1 _) (F.newCall_enumerate_1 _) (λM=>F.args_object_init_2 M _) F.entry_enumerate_new (Nh tp us n O sl) ⟨Z,?_⟩;generalize N:({ cls:=.type "tuple_iterator", data:=.fields #[.ref tp,.int 0 0] }:Obj)=I;have Y:(s.heap.push I).objs.size=s.heap.objs.size+1:=Heap.size_push ..;have y2:∀ B:Obj,B.isFreed=false->((s.heap.push I).push B).get? (s.heap.objs.size+1)=some B:=λB f=>by
  have:=ZY (s.heap.push I) (o:=B) f;rwa [Y]at this
 show _/\_;rw[Y];have W:=y2 { cls:=.type "enumerate", data:=.fields #[.none,.bool false,.ref s.heap.objs.size,rawInt 0,.none,.none] } J;refine⟨⟨_,W,J⟩,k _ W ⟨I,ZE _ (ZY _ (by rw[<- N];rfl)),by rw[<- N],by rw[<- N];rfl⟩ λb o q=>ZE _ (ZE _ q)⟩
end
section
variable {es:List Expr}{x1:Nat}{oH:Pos}
def JA(K:Fg)(ta:TA):TI:=λσ H R=>ta σ H λvs H1=>∃ a,aP (vs=[.ref a]) ((∃ xs,au K H1 a xs)) (R (Kv K a) H1)
def wt{l:Expr}{ta:TA}{p pos:Pos}(Z:Gl X "enumerate") (hm:X.mg "enumerate" = none) (ha:PA X [l] ta) (hs:starEach [l] X.env=[(false,eval l X.env)]:=by rfl) :
  PI X (.Tuple es x1 oH) (.Call (.Name "enumerate" p) [l] [] pos) (JA X.K ta):=by
 intro pins s σ H R I h;refine Call_ (qd I Z hm boot_enumerate (PyProof.Rows.callWith_type1 (aV (ha pins s σ H _ I h) λus B ⟨vs,H1,N,W,Y⟩=>?_) hs J));obtain⟨a,e,⟨xs,hq⟩,q⟩:=Y;subst e;cases W with
 | cons r U=>
  cases U;cases r;obtain⟨O,rv,p,hz⟩:=N.tuple hq;refine OC (show B.heap.IsTuple a O.toArray from p) λh' S e2 k=>wpAny_pyIter_enum S ?_;have I2:Inv X pins σ H1 { B with heap:=h' }:=N.kept (t':=B.toks) k;refine⟨B.heap.objs.size+1,[B.heap.objs.size+1,B.heap.objs.size],_,_,H1,J,I2,OD a _ _ (Nat.succ_ne_self _),⟨⟨_,S⟩,e2⟩,λb hb=>?_,q⟩;have M:B.heap.objs.size<=b:=by
   have z:b=B.heap.objs.size+1\/b=B.heap.objs.size:=by simpa using hb
   rcases z with z | z
   ·rw[z];exact Nat.le_succ _
   ·rw[z];exact ZF _
  exact N.lu M (N.aD.fresh M)
def rN{K:Fg}{a:Addr}{xs:List V}{g:TG}{tb:TS}{D:Ends}{σ:St}{H:Hp}(Pv:Nat->St->Hp->Prop)(U:Pv 0 σ H)(S:∀ i σ H,i<=xs.length->Pv i σ H->au K H a xs)
  (hs:∀ i x σ H p,xs[i]? = some x->Pv i σ H->H p=none->g (.ref p) σ (upd H p (.tup [.int i,x])) λσ2 H2=>tb { D with nx:=Pv (i+1),ct:=Pv (i+1),bk:=D.nx } σ2 H2) (hd:∀ σ H,Pv xs.length σ H->D.nx σ H) :
  ∃ W:Nat->Nat->St->Hp->Prop,(∃ m,W 0 m σ H) /\ ∀ i m σ H,W i m σ H ->
   ((Kv K a).stop i H/\D.nx σ H)\/((Kv K a).go i H /\ ∃ N:St->Hp->Prop,(∀ σ' H',N σ' H' -> ∃ I,I<m/\W (i+1) I σ' H') /\ ∀ x H',(Kv K a).fF i H x H'->g x σ H' λσ2 H2=>tb { D with nx:=N,ct:=N,bk:=D.nx } σ2 H2):=by
 exists λi m σ H=>m=xs.length-i/\i<=xs.length/\Pv i σ H,⟨xs.length,by simp,ZX _,U⟩
 rintro i m σ H ⟨rfl,hi,p⟩;have q:=S i σ H hi p;by_cases B:i<xs.length
 ·refine .inr ⟨⟨xs,xs[i],q,by simp[B]⟩,Pv (i+1),λσ' H' O=>⟨xs.length-(i+1),{},J,B,O⟩,λx H' y=>?_⟩;obtain⟨pp,M,rfl,Y,rfl,y⟩:=y;exact hs i M σ _ pp (y xs q) p Y
 ·have e:i=xs.length:={}
  subst e;exact .inl ⟨⟨xs,q,ZF _⟩,hd σ H p⟩
end
structure ac4(P:Program)(w:World)(K:Fg)(mg:Mg)(base:Heap)(k:Nat)(x:Str)(ps:List Str)(sp:Sp):Prop where
 ex:aO λ(f:Addr) (fd:FuncData)=>cP (cC P w K mg base (V4 P w) k f fd ps sp) (Binds K fd ps []) (PySem.W.keepIn K (.ref f)=true) (mg x=some (.ref f))
open PySem.Builtin.ObjectAttr in
structure ab7(K:Fg)(C:Addr)(f:Str):Prop where
 sa:PySem.W.findIn K (.ref C) "__setattr__" = some (some (.builtin "object.__setattr__"))
 na:PySem.W.findIn K (.ref C) f=some none
 hd:PySem.W.hasDictIn K C=true
def Ng(O:TI)(tt:TT)(te:TE)(fr:List Nat):TE:=λσ H Q=>O σ H λM H1=>∀ D,H1 D=none -> ∃ W:Nat->Nat->List V->Hp->Prop,(∃ m,W 0 m [] (upd H1 D (.lst []))) /\
 ∀ i m ys H2,W i m ys H2->H2 D=some (.lst ys)/\((M.stop i H2/\Q (.ref D) H2)\/(M.go i H2/\ys.length<sizeLine /\ ∃ N:V->Hp->Prop,(∀ y B,N y B->B D=some (.lst ys) /\ ∃ I,I<m/\W (i+1) I (ys++[y]) (upd B D (.lst (ys++[y])))) /\
  ∀ x H',M.fF i H2 x H'->tt (some x::fr.map λj=>(σ[j]?).getD none) H' λb B=>if b=true then te (some x::fr.map λj=>(σ[j]?).getD none) B N else ∃ I,I<m/\W (i+1) I ys B))
theorem p_{X:Cx}{Z ff cc:Expr}{x:Str}{px pos:Pos}{scope bB:Scope}{cl:List (Str×Addr)}{cn N:List Str}{fr:List Nat}{tt:TT}{te:TE}{pins:List (Addr×Obj)}{σ:St}{H2:Hp}{I:Shared}{it:Addr}{Y:List Addr}
  {tn:Nat->Heap->Prop} {JJ:It} {RR:Value->Addr->Result->Shared->Prop} {R:Hp->Prop} {E:VS} {W:Nat->Nat->List V->Hp->Prop} {m0:Nat}
  (hc:X.calm=true) (he:∀(C:Addr)(s₂:Shared)(H₂:Hp)(Y:List Addr),PE (dz X scope cl C x N s₂ H₂ Y) Z te) (rJ:∀(C:Addr)(s₂:Shared)(H₂:Hp)(Y:List Addr),PT (dz X scope cl C x N s₂ H₂ Y) cc tt)
  (eR:Wr X.env cl) (eQ:cl.map (·.1)=cn) (U:X.env.scope=bB) (hk:scope.kind = .function) (B:dv scope bB x N cn) (kq:fr.map (λj=>X.N[j]?)=N.map some)
  (I2:Inv X pins σ H2 I) (T:Turn X.prog X.w X.K (.Name x px) JJ Y it tn) (oX:tn 0 I.heap) (f2:∀ b∈Y,dP X pins H2 b)
  (w0:W 0 m0 [] (upd H2 I.heap.objs.size (.lst [])))
  (turn:∀ i m ys H,W i m ys H->H I.heap.objs.size=some (.lst ys)/\((JJ.stop i H/\R H)\/(JJ.go i H/\ys.length<sizeLine /\ ∃ N:V->Hp->Prop,
   (∀ y S,N y S->S I.heap.objs.size=some (.lst ys) /\ ∃ M,M<m/\W (i+1) M (ys++[y]) (upd S I.heap.objs.size (.lst (ys++[y])))) /\
   ∀ x H',JJ.fF i H x H'->tt (some x::fr.map λj=>(σ[j]?).getD none) H' λb S=>if b=true then te (some x::fr.map λj=>(σ[j]?).getD none) S N else ∃ M,M<m/\W (i+1) M ys S)))
  (J8:∀(C:Addr)(H6:Hp)(s6:Shared)(m6:Mg),s6.heap.Ns C m6->Inv X pins σ H6 s6->dP X pins H6 C->R H6->RR (.ref I.heap.objs.size) C (.ok .next) s6) :
  wpAny (model X.prog X.w) X.A (newList []) (λacc s₃=>wpAny (model X.prog X.w) X.A (newFunctionEnv scope X.env.globals cl [] X.env.qual none .none (some X.env)) (λO s₄=>
   codeAny (model X.prog X.w) X.A (.compStart (.ListComp Z [⟨.Name x px,ff,[cc],0⟩] scope pos) 0 (.ref it) acc { O with scope:=relabel scope X.env }) (RR acc O.locals) s₄) E s₃) E I:=by
 refine mU (TN:=[]) (gt:=iA 0) (tt:=tt) hc he (λC s h f=>Nn (rJ C s h f)) (λ_ _ _ _=>kg B.nd J (.inl ?_) (.inr ?_)) eR eQ U hk ⟨B.has,B.nc,B.names,B.gF⟩ kq I2 T oX f2 w0 (λi m ys H h=>?_) J8
 ·exact AH U B.CJ
 ·exact AH U B.CJ
 obtain⟨a,b⟩:=turn i m ys H h;exists a;rcases b with b | ⟨g,l,N,h1,h2⟩
 ·exact .inl b
 refine .inr ⟨g,l,N,λS=>∃ M,M<m/\W (i+1) M ys S,h1,λ_ z=>z,λx H' y vs hv=>?_⟩
 obtain⟨v0,rfl⟩:=length_eq_one_iff.1 hv;exact⟨⟨[some x],J,J⟩,h2 x H' y⟩
def fV{X:Cx}{O B cc:Expr}{x:Str}{px pos:Pos}{scope bB:Scope}{cl:List (Str×Addr)}{cn N:List Str}{fr:List Nat}{wi:TI}{tt:TT}{te:TE}
  (hc:X.calm=true) (hi:PI X (.Name x px) B wi) (he:∀(C:Addr)(s₂:Shared)(H₂:Hp)(S:List Addr),PE (dz X scope cl C x N s₂ H₂ S) O te) (rJ:∀(C:Addr)(s₂:Shared)(H₂:Hp)(S:List Addr),PT (dz X scope cl C x N s₂ H₂ S) cc tt)
  (M:closureFor scope X.env=pure cl) (eR:Wr X.env cl) (eQ:cl.map (·.1)=cn) (Z:X.env.scope=bB) (hk:scope.kind = .function) (aD:dv scope bB x N cn)
  (kq:fr.map (λj=>X.N[j]?)=N.map some) (hs:∀ v,foldedSetIterable B X.env v=pure v:=by intro _;rfl) :
  PE X (.ListComp O [⟨.Name x px,B,[cc],0⟩] scope pos) (Ng wi tt te fr):=by
 intro pins s σ H Q I h;rw[eval_ListComp];refine wpAny_comprehension_free (use:=none) J hs M hk aD.names (aV (hi s σ H _ I h) λv s1 h1=>aV h1 λitv Y h2=>?_);obtain⟨it,S,tn,JJ,H2,e,I2,T,U,f2,hq⟩:=h2;subst e;obtain⟨W,⟨m0,w0⟩,turn⟩:=hq Y.heap.objs.size (I2.aD.fresh (ZF _));exact p_ (RR:=λacc C=>compPost (model X.prog X.w) X.A X.xe none (EP X pins σ Q) acc C) (R:=λH6=>Q (.ref Y.heap.objs.size) H6) hc he rJ eR eQ Z hk aD kq I2 T U f2 w0 turn
  λC H6 s6 m6 hn I6 F6 q=>⟨m6,hn,λh' sb=>⟨.ref Y.heap.objs.size,H6,I6.e8 F6 sb,J,q⟩⟩
def OB(i:Nat)(B:TI)(tt:TT)(te:TE)(fr:List Nat):TS:=λD σ H=>Ng B tt te fr σ H λv H1=>D.nx (σ.set i (some v)) H1
def ID{X:Cx}{i:Nat}{B:Pos}{scope:Scope}{cl:List (Str×Addr)}{N:List Str}{fr:List Nat}
  (hN:X.N.Nodup) (JW:X.N[i]? = some y) (hy:Loc X.env.scope y)
  (hc:X.calm=true) (hi:PI X (.Name x px) ff wi) (he:∀(C:Addr)(s₂:Shared)(H₂:Hp)(U:List Addr),PE (dz X scope cl C x N s₂ H₂ U) elt te) (rJ:∀(C:Addr)(s₂:Shared)(H₂:Hp)(U:List Addr),PT (dz X scope cl C x N s₂ H₂ U) cc tt)
  (M:closureFor scope X.env=pure cl) (eR:Wr X.env cl) (eQ:cl.map (·.1)=cn) (xg:X.env.scope=bB) (hk:scope.kind = .function) (aD:dv scope bB x N cn)
  (kq:fr.map (λj=>X.N[j]?)=N.map some) (rz:swapsWith (.ListComp elt [⟨.Name x px,ff,[cc],0⟩] scope pos) (some (.Name y py)) B.line X.env=pure true)
  (hf:X.fn y=true\/X.env.scope.names.lookup y=some .local) (hs:∀ v,foldedSetIterable ff X.env v=pure v:=by intro _;rfl) :
  PS X (.Assign [.Name y py] (.ListComp elt [⟨.Name x px,ff,[cc],0⟩] scope pos) B) (OB i wi tt te fr):=by
 intro pins s σ H D I h;rw[exec_Assign_Name_used _ _ _ _ rz];refine ZA (wpAny_standAt (ZA ?_));show wpAny _ X.A (do let _ <- comprehension (.ListComp elt [⟨.Name x px,ff,[cc],0⟩] scope pos) scope X.env _ (newList []) false (eval ff X.env) (some (assign (.Name y py) X.env))) _ _ s;refine ZA (WX (wpAny_comprehension_free (use:=some (assign (.Name y py) X.env)) (Q:=λ_ s'=>SP X pins D .next s') J hs M hk aD.names
  (aV (hi s σ H _ I h) λv s1 h1=>aV h1 λitv S h2=>?_)) (λ_ s' hq=>ZO (ZO hq)) λ_ _ e=>e)
 obtain⟨it,U,tn,JJ,H2,e,I2,T,Y,f2,hq⟩:=h2;subst e;obtain⟨W,⟨m0,w0⟩,turn⟩:=hq S.heap.objs.size (I2.aD.fresh (ZF _));refine p_ (RR:=λacc C=>compPost (model X.prog X.w) X.A X.xe (some (assign (.Name y py) X.env)) (λ_ s'=>SP X pins D .next s') acc C) (R:=λH6=>D.nx (σ.set i (some (.ref S.heap.objs.size))) H6) hc he rJ eR eQ xg hk aD kq I2 T Y f2 w0 turn
  λC H6 s6 m6 hn I6 F6 q=>?_
 show wpAny _ X.A (assign (.Name y py) X.env (.ref S.heap.objs.size)) _ _ _;refine wpAny_assign_Name (Ii (v:=.ref S.heap.objs.size) I6 hN JW hy J (λs7 I7 ⟨a,sb,O⟩=>?_) hf);have Ja:C≠a:=by
  rcases O with O | O
  ·rw[O];exact F6.2.1
  ·exact Ne.symm (F6.2.2.2.2.1 y a O)
 exact⟨m6,hn.sameBut sb Ja,λh' Z=>⟨_,H6,I7.e8 F6 Z,q⟩⟩
def Ag{K:Fg}{a:Addr}{xs:List V}{p:V->Bool}{g:V->V}{Tt:V->Hp->(Bool->Hp->Prop)->Prop}{Te:V->Hp->(V->Hp->Prop)->Prop}{D:Addr}{H1:Hp}{R:Hp->Prop}
  (ha:ao K H1 a xs) (hD:H1 D=none) (hn:xs.length<=sizeLine) (hT:∀ x∈xs,∀(H:Hp)(Q:Bool->Hp->Prop),ag H1 H->Q (p x) H->Tt x H Q) (hE:∀ x∈xs,p x=true -> ∀(H:Hp)(Q:V->Hp->Prop),ag H1 H->Q (g x) H->Te x H Q)
  (hR:R (upd H1 D (.lst ((xs.filter p).map g)))) :
  ∃ W:Nat->Nat->List V->Hp->Prop,(∃ m,W 0 m [] (upd H1 D (.lst []))) /\
   ∀ i m ys H2,W i m ys H2->H2 D=some (.lst ys)/\(((fj K a).stop i H2/\R H2)\/((fj K a).go i H2/\ys.length<sizeLine /\ ∃ N:V->Hp->Prop,(∀ y M,N y M->M D=some (.lst ys) /\ ∃ O,O<m/\W (i+1) O (ys++[y]) (upd M D (.lst (ys++[y])))) /\
    ∀ x H',(fj K a).fF i H2 x H'->Tt x H' λb M=>if b=true then Te x M N else ∃ O,O<m/\W (i+1) O ys M)):=by
 exists λi m ys H=>m=xs.length-i/\i<=xs.length/\ys=((xs.take i).filter p).map g/\H=upd H1 D (.lst ys),⟨xs.length,by simp,ZX _,by simp,J⟩
 rintro i m ys H2 ⟨rfl,hi,S,rfl⟩;have U:=aM hD (.lst ys);have q:=U.seq ha;have xc:ys.length<=i:=by rw[S,ZK];exact ZT (length_filter_le _ _) (by rw[WL];exact Nat.min_le_left _ _)
 exists ax;by_cases B:i<xs.length
 ·refine .inr ⟨⟨xs,xs[i],q,by simp[B]⟩,{},λy M=>M=upd H1 D (.lst ys)/\y=g xs[i]/\p xs[i]=true,λy M ⟨Y,z2,Z⟩=>⟨by rw[Y];exact ax,xs.length-(i+1),{},J,B,?eq,by rw[Y,kX]⟩,λx H' y=>?st⟩
  case eq=>
   rw[take_succ_eq_append_getElem B,YW,WF,<- S,z2];simp[Z]
  case st=>
   obtain⟨e,y⟩:=y;subst e;have hx:xs[i]? = some x:=y xs q;have I:xs[i]=x:=by simpa [B] using hx
   have hm:x∈xs:=by rw[<- I];exact getElem_mem B
   refine hT x hm _ _ U ?_;by_cases hp:p x=true
   ·rw[ZL hp];exact hE x hm hp _ _ U ⟨J,by rw[I],by rw[I];exact hp⟩
   ·rw[ZJ hp];refine⟨xs.length-(i+1),{},J,B,?_,J⟩;rw[take_succ_eq_append_getElem B,YW,WF,<- S,I];simp[hp]
 ·have e:i=xs.length:={}
  subst e;refine .inl ⟨⟨xs,q,ZF _⟩,?_⟩;rw[S,WR];exact hR
section
variable {P:Program}{w:World}{K:Fg}{mg:Mg}{base:Heap}
def Bv(sp:Nat->Sp):Nat->Sp
 | 0=>λ_ _ _ _=>False
 | e+1=>sp e
def Def.eh{sp:Nat->Sp}{x:Str}{st:Stmt}{ps:List Str}(d:Def K mg x st ps){k:Nat}(n:Nat)
  (step:∀ e,e<=n->yD P w K mg base (e+k) x ps (Bv sp e) -> ∀(f:Addr)(fd:FuncData),lS K x x st f fd->cC P w K mg base il (e+(k+1)) f fd ps (sp e)) :
  yD P w K mg base (n+(k+1)) x ps (λvs H Q E=>∃ e,e<=n/\sp e vs H Q E):=by
 obtain⟨f,fd,h1,h2,M⟩:=d.ex;have all:∀ e,e<=n->cC P w K mg base il (e+(k+1)) f fd ps (sp e):=by
  intro e
  induction e with
  | zero=>exact λB=>step 0 B ⟨f,fd,⟨λ_ _ _ _ h=>h.elim,λ_ _ _ _ _ _ _ _ _ _ _ _ _ h=>h.elim⟩,.all h2,h1.kp,M⟩ f fd h1
  | succ e N=>exact λB=>step (e+1) B ⟨f,fd,(N {}).mono {},.all h2,h1.kp,M⟩ f fd h1
 refine⟨f,fd,⟨?_,?_⟩,.all h2,h1.kp,M⟩
 ·rintro vs H Q E ⟨e,B,h⟩;exact(all e B).len vs H Q E h
 ·rintro A outer s H args us vs Q E hr B S O ⟨e,I,h⟩;exact(all e I).run A outer s H args us vs Q E (hr.mono {}) B S O h
end
def mD{K:Fg}{a:Addr}{xs:List V}{g:V->V}{Te:V->Hp->(V->Hp->Prop)->Prop}{D:Addr}{H1:Hp}{R:Hp->Prop}
  (ha:ao K H1 a xs) (hD:H1 D=none) (hn:xs.length<=sizeLine) (hE:∀ x∈xs,∀(H:Hp)(Q:V->Hp->Prop),ag H1 H->Q (g x) H->Te x H Q) (hR:R (upd H1 D (.lst (xs.map g)))) :
  ∃ W:Nat->Nat->List V->Hp->Prop,(∃ m,W 0 m [] (upd H1 D (.lst []))) /\
   ∀ i m ys H2,W i m ys H2->H2 D=some (.lst ys)/\(((fj K a).stop i H2/\R H2)\/((fj K a).go i H2/\ys.length<sizeLine /\ ∃ N:V->Hp->Prop,(∀ y I,N y I->I D=some (.lst ys) /\ ∃ Y,Y<m/\W (i+1) Y (ys++[y]) (upd I D (.lst (ys++[y])))) /\
    ∀ x H',(fj K a).fF i H2 x H'->Te x H' N)):=by
 exists λi m ys H=>m=xs.length-i/\i<=xs.length/\ys=(xs.take i).map g/\H=upd H1 D (.lst ys),⟨xs.length,by simp,ZX _,by simp,J⟩
 rintro i m ys H2 ⟨rfl,hi,O,rfl⟩;have U:=aM hD (.lst ys);have q:=U.seq ha;have xc:ys.length<=i:=by rw[O,ZK,WL];exact Nat.min_le_left _ _
 exists ax;by_cases B:i<xs.length
 ·refine .inr ⟨⟨xs,xs[i],q,by simp[B]⟩,{},λy I=>I=upd H1 D (.lst ys)/\y=g xs[i],λy I ⟨S,Z⟩=>⟨by rw[S];exact ax,xs.length-(i+1),{},J,B,?eq,by rw[S,kX]⟩,λx H' y=>?st⟩
  case eq=>
   rw[take_succ_eq_append_getElem B,WF,<- O,Z];rfl
  case st=>
   obtain⟨e,y⟩:=y;subst e;have hx:xs[i]? = some x:=y xs q;have M:xs[i]=x:=by simpa [B] using hx
   have hm:x∈xs:=by rw[<- M];exact getElem_mem B
   exact hE x hm _ _ U ⟨J,by rw[M]⟩
 ·have e:i=xs.length:={}
  subst e;refine .inl ⟨⟨xs,q,ZF _⟩,?_⟩;rw[O,WR];exact hR
inductive vf(K:Fg)(xs:List V)(H:Hp)(Q:VK):Prop
 |mk(p:Addr)(ns:List Int)(_:xs=[.ref p])(_:ao K H p (ns.map V.int))(_:ns.length<64)(_:∀(l:Addr)(ms:List Int),H l=none->ms.Perm ns->ms.Pairwise (· <= ·)->Q (.ref l) (upd H l (.lst (ms.map V.int))))
def Qq:b8 X (.builtin "sorted") (vf X.K):=by
 intro pins s σ H xs us Q I r h;obtain⟨p,ns,rfl,hq,h64,q⟩:=h;obtain⟨u,rfl,O⟩:=vals1 r;cases O;obtain⟨B,M,pl,S⟩:=I.list hq;have W:=M.length;rw[ZK]at W S;refine PyProof.Rows.sorted_ints pl.isList (GU M) {} λout ms a1 N Z=>?_;obtain⟨e,Y⟩:=PyProof.Rows.sortedAll_at s.heap B out;have U:ms.length=ns.length:=N.length_eq;refine⟨.ref (s.heap.objs.size+1),_,I.laid (t':=s.toks) (a:=s.heap.objs.size+1) (o:=.lst (ms.map V.int)) (λb ob z=>PyProof.Rows.sortedAll_old z) (Nat.le_succ _) ?_,J,q _ ms (I.aD.fresh (Nat.le_succ _)) N Z⟩;exists by rw[ZK];lia,out.toList,e,kH a1
 rw[Y]
def LU(K:Fg)(te:TE):TE:=λσ H Q=>te σ H λx H1=>aO λa xs=>aP (x = .ref a) (ao K H1 a xs) (∀ p,H1 p=none->Q (.ref p) (upd H1 p (.lst xs.reverse)))
def BC{k:Nat}(he:PE X e te):PE X (.Subscript e (.Slice none none (some (.UnaryOp .USub (.Constant (.int 1) k p1) p3)) p2) pos) (LU X.K te):=by
 intro pins s σ H Q I h;refine Subscript_ (aV (he s σ H _ I h) ?_);rintro v s1 ⟨x,H1,I1,r1,a,xs,rfl,hx,q⟩;cases r1;have M:PO X (some (.UnaryOp .USub (.Constant (.int 1) k p1) p3)) (xV (Wi (rU λi=>.int (-i)) λ_ H Q=>Q (.int 1) H)):=yf (lZ Fi ah)
 refine wpAny_Slice (aV (Mt (X:=X) s1 σ H1 (λo H'=>o=none/\H'=H1) I1 ⟨J,J⟩) ?_);rintro S s2 ⟨l,H2,I2,pl,rfl,e2⟩;refine aV (Mt (X:=X) s2 σ H2 (λo H'=>o=none/\H'=H1) I2 ⟨J,e2⟩) ?_;rintro O Z ⟨u,H3,I3,pu,rfl,e3⟩;refine aV (M Z σ H3 (λo H'=>o=some (-1)/\H'=H1) I3 ⟨_,J,⟨_,J,J,e3⟩⟩) ?_;rintro U B ⟨kk,H4,I4,pk,rfl,rfl⟩;have N:Inv X pins σ H4 { B with heap:=B.heap.push { cls:=.type "slice", data:=.fields #[S,O,U] } }:=I4.kept (t':=B.toks) λb ob q=>ZE _ q;obtain⟨rj,r,Y,hz⟩:=N.list hx;have hlen:=r.length;show wpAny (model X.prog X.w) X.A (subscriptTail e _ (.ref a) (.ref B.heap.objs.size)) (EP X pins σ Q) X.xe { B with heap:=B.heap.push { cls:=.type "slice", data:=.fields #[S,O,U] } };refine tail_any (ops:=[.ref a,.ref B.heap.objs.size]) Y.isList.typeIs slot_list_getitem.lookup ?_ (by with_unfolding_all rfl);refine wpAny_getItem_list_slice Y.isList (Heap.IsSliceOf.new ..) pl pu pk (by simp) ?_ (by rw[WC] <;> lia);rw[PySem.W.krv_pick];refine⟨.ref _,_,N.laid (t':=B.toks) (o:=.lst xs.reverse) (λb ob q=>ZE _ q) (ZF _) ?_,J,q _ (N.aD.fresh (ZF _))⟩;exact⟨by rw[length_reverse];exact hz,_,0,r.reverse,ZY _ J⟩
section
variable {K:Fg}
def w_(h:X.K=K):ow X (zp K):=by subst h;exact HG
def Nf(h:X.K=K):b8 X (.builtin "len") (vQ K):=by subst h;exact HF
def BE{o e:Expr}{es:List Expr}{to:TE}{t:TA}{name:Str}{apos bN:Pos}{T id:String}{r:V->List V->Hp->VK->Prop}(h:X.K=K)
  (S:PlainAttrs T) (slot:Slot T name id) (O:typeOf (.builtin id)=pure (.type "method_descriptor")) (hm:xM X id r) (U:PE X o to) (W:PA X (e::es) t)
  (M:attributeBase o name X.env (eval o X.env)=eval o X.env:=by rfl)
  (N:((backTo bN (starEach (e::es) X.env)).all (λx=>!x.1)&&(backToKw bN (keywordEach [] X.env)).all (λx=>x.1.isSome)&&decide ((e::es).length+([]:List Keyword).length+(if([]:List Keyword).isEmpty then 0 else 1)<30))=true:=by rfl)
  (I:(apos.endLine==bN.line)=true:=by rfl) (hs:starEach (e::es) X.env=(false,eval e X.env)::starEach es X.env:=by rfl) (B:(backTo bN (starEach es X.env)).any (·.1)=false:=by rfl) :
  PE X (.Call (.Attribute o name apos) (e::es) [] bN) (Wj K T r to t):=by subst h;exact bG S slot O hm U W M N I hs B
end
inductive Tr where
 | bf
 | many (n:Int)
 | part (ms:List Int) (l r:Tr)
def AL(H:Hp):V->Tr->Prop
 | v,.bf=>v = .bf
 | v,.many n=>∃ a,v = .ref a/\H a=some (.tup [.str "many", .int n])
 | v,.part ms l r=>ik λa m x y=>dw (v = .ref a) (H a=some (.tup [.str "part", .ref m,x,y])) (c7 H m (ms.map V.int)) (AL H x l) (AL H y r)
def aw(H H':Hp):Prop:=∀ b xs,(H b=some (.tup xs)->H' b=some (.tup xs)) /\ ∀ o,H b=some (.cx o (.tup xs))->H' b=some (.cx o (.tup xs))
def aw.trans(a:aw H H1)(b:aw H1 H2):aw H H2:=λc xs=>⟨λh=>(b c xs).1 ((a c xs).1 h),λo h=>(b c xs).2 o ((a c xs).2 o h)⟩
def aw.same(s:ag H H'):aw H H':=λ_ _=>⟨s _ _,λ_=>s _ _⟩
def aw.keep(s:aq p H H')(e:H p=some (.lst ys)):aw H H':=λ_ _=>⟨λh=>s _ _ (bc h e (by intro z;cases z)) h,λ_ h=>s _ _ (bc h e (by intro z;cases z)) h⟩
def aw.set(e:H p=some (.lst ys)):aw H (upd H p (.lst zs)):=.keep (aq.set p H _) e
def c7.tk(h:c7 H a xs)(s:aw H H'):c7 H' a xs:=by obtain⟨o,h,c⟩:=h;exact⟨o,(s _ _).2 o h,c⟩
theorem AL.tk{H H':Hp}(s:aw H H'){t:Tr}{v:V}(h:AL H v t):AL H' v t:=by
 induction t generalizing v with
 | bf=>exact h
 | many _=>obtain⟨a,e,h⟩:=h;exact⟨a,e,(s _ _).1 h⟩
 | part _ _ _ i j=>obtain⟨a,m,x,y,e,h,hm,B,hr⟩:=h;exact⟨a,m,x,y,e,(s _ _).1 h,hm.tk s,i B,j hr⟩
def AL.same(s:ag H H')(h:AL H v t):AL H' v t:=h.tk (.same s)
def rW{A:Around}{xs ys:List V}(I:Inv X pins σ H s)(ha:au X.K H a xs)(hb:au X.K H b ys)(hl:xs.length=ys.length)
  (he:∀(j:Nat)(x y:V),xs[j]? = some x->ys[j]? = some y -> ∀ u v,RelV x u->RelV y v->SeqAt.EqAt A.in1 s u v true) (hu:A.units<cLine) :
  SeqAt.RcAt A s (.ref a) (.ref b) true/\SeqAt.RcNeAt A s (.ref a) (.ref b) false:=by
 obtain⟨M,Z,p1,_⟩:=I.tuple ha;obtain⟨B,Y,p2,_⟩:=I.tuple hb;have l1:=Z.length;have l2:=Y.length;have hz:M.toArray.size=B.toArray.size:=by rw[WC,WC];lia
 have el:∀(j:Nat)(h1:j<M.toArray.size)(h2:j<B.toArray.size),SeqAt.EqAt A.in1 s M.toArray[j] B.toArray[j] ((λ_=>true) j):=by
  intro j h1 h2;have O:j<xs.length:=by rw[WC]at h1;lia
  have N:j<ys.length:=by rw[WC]at h2;lia
  obtain⟨v1,e1,U⟩:=Z.get (i:=j) (x:=xs[j]) (ZP O);obtain⟨v2,e2,S⟩:=Y.get (i:=j) (x:=ys[j]) (ZP N);have g1:M.toArray[j]=v1:=by have:=ac e1;simpa using this.2
  have g2:B.toArray[j]=v2:=by have:=ac e2;simpa using this.2
  rw[g1,g2];exact he j _ _ (ZP O) (ZP N) _ _ U S
 have W:((List.range (min M.toArray.size B.toArray.size)).all (λ_=>true)&&M.toArray.size==B.toArray.size)=true:=by rw[hz];simp
 constructor
 ·rw[<- W];exact SeqAt.RcAt.tuples p1 p2 hu el
 ·have z:=SeqAt.RcNeAt.tuples (e:=λ_=>true) p1 p2 hu el;rw[W]at z;exact z
def rX(h:SeqAt.RcAt A s (.ref a) (.ref b) true):SeqAt.EqAt A s (.ref a) (.ref b) true:=by
 by_cases e:a=b
 ·subst e;exact SeqAt.EqAt.same _
 ·exact .of_refs e h
def rY{i:Int}(I:RelV (.int i) u)(B:RelV (.int i) v):SeqAt.EqAt A s u v true:=by
 have z:=Nv (A:=A) (s:=s) I B J J;have e:mf (.int i) (.int i)=true:=beq_self_eq_true i
 rw[e]at z;exact z
theorem Nd{A:Around}{ns:List Int}(I:Inv X pins σ H s)(S:au X.K H a (ns.map V.int))(O:au X.K H b (ns.map V.int))(N:A.units<cLine) :
  SeqAt.RcAt A s (.ref a) (.ref b) true/\SeqAt.RcNeAt A s (.ref a) (.ref b) false:=by
 refine rW I S O J (λj x y h1 h2 u v M B=>?_) N;rw[h1]at h2;cases h2;rw[WE]at h1;cases e:ns[j]? with
 | none=>rw[e]at h1;cases h1
 | some n=>rw[e]at h1;cases h1;exact rY M B
def CB{α:Type}(f:Int->α)(d:α):V->α
 | .int n=>f n
 | _=>d
def rQ{p:Int->Bool}{g:Int->V}(ns:List Int):(((ns.map V.int).filter (CB p false)).map (CB g .bf))=(ns.filter p).map g:=by
 induction ns with
 | nil=>rfl
 | cons n ns B=>
  rw[YA,filter_cons,filter_cons];have e:CB p false (.int n)=p n:=J;rw[e];by_cases h:p n=true
  ·rw[ZL h,ZL h,YA,YA,B];rfl
  ·rw[ZJ h,ZJ h];exact B
section
variable {K:Fg}{a:Addr}{ns:List Int}{p:Int->Bool}{g:Int->V}{Tt:V->Hp->(Bool->Hp->Prop)->Prop}{Te:V->Hp->(V->Hp->Prop)->Prop}{D:Addr}{H1:Hp}{R:Hp->Prop}
def Bl(S:ao K H1 a (ns.map V.int))(hD:H1 D=none)(O:ns.length<=sizeLine)(U:∀ n∈ns,∀(H:Hp)(Q:Bool->Hp->Prop),ag H1 H->Q (p n) H->Tt (.int n) H Q)
  (Z:∀ n∈ns,p n=true -> ∀(H:Hp)(Q:V->Hp->Prop),ag H1 H->Q (g n) H->Te (.int n) H Q) (Y:R (upd H1 D (.lst ((ns.filter p).map g)))) :
  ∃ W:Nat->Nat->List V->Hp->Prop,(∃ m,W 0 m [] (upd H1 D (.lst []))) /\
   ∀ i m ys H2,W i m ys H2->H2 D=some (.lst ys)/\(((fj K a).stop i H2/\R H2)\/((fj K a).go i H2/\ys.length<sizeLine /\ ∃ N:V->Hp->Prop,(∀ y B,N y B->B D=some (.lst ys) /\ ∃ I,I<m/\W (i+1) I (ys++[y]) (upd B D (.lst (ys++[y])))) /\
    ∀ x H',(fj K a).fF i H2 x H'->Tt x H' λb B=>if b=true then Te x B N else ∃ I,I<m/\W (i+1) I ys B)):=by
 refine Ag (p:=CB p false) (g:=CB g .bf) S hD (by rw[ZK];exact O) (λx M H Q s q=>?_) (λx M hp H Q s q=>?_) (by rw[rQ];exact Y)
 ·obtain⟨n,hm,rfl⟩:=eE M;exact U n hm H Q s q
 ·obtain⟨n,hm,rfl⟩:=eE M;exact Z n hm hp H Q s q
def Nc(S:ao K H1 a (ns.map V.int))(Z:H1 D=none)(O:ns.length<=sizeLine)(Y:∀ n∈ns,∀(H:Hp)(Q:V->Hp->Prop),ag H1 H->Q (g n) H->Te (.int n) H Q)(U:R (upd H1 D (.lst (ns.map g)))) :
  ∃ W:Nat->Nat->List V->Hp->Prop,(∃ m,W 0 m [] (upd H1 D (.lst []))) /\
   ∀ i m ys H2,W i m ys H2->H2 D=some (.lst ys)/\(((fj K a).stop i H2/\R H2)\/((fj K a).go i H2/\ys.length<sizeLine /\ ∃ N:V->Hp->Prop,(∀ y B,N y B->B D=some (.lst ys) /\ ∃ I,I<m/\W (i+1) I (ys++[y]) (upd B D (.lst (ys++[y])))) /\
    ∀ x H',(fj K a).fF i H2 x H'->Te x H' N)):=by
 refine mD (g:=CB g .bf) S Z (by rw[ZK];exact O) (λx M H Q s q=>?_) (by rw[map_map];exact U);obtain⟨n,hm,rfl⟩:=eE M;exact Y n hm H Q s q
end
def aq.free(k:aq p H H')(B:H' l=none)(hp:H' p=some o):H l=none:=by
 cases e:H l with
 | none=>rfl
 | some u=>
  have n:l≠p:=λz=>by rw[z,hp]at B;cases B
  rw[k l u n e]at B;cases B
def aq.own(k:aq p H H')(hr:H r=none):aq p H (upd H' r o):=λc u B z=>by
 rw[bC (cO z hr)];exact k c u B z
def b7(L:Nat):(0:Int)<2^L:=by
 induction L with
 | zero=>decide
 | succ L B=>rw[Int.pow_succ];lia
def qH{L:Nat}(h:L<=40):(2:Int)^L<=1099511627776:=by
 have e:(2:Int)^L=((2^L:Nat):Int):=by simp
 have:2^L<=2^40:=Nat.pow_le_pow_right ∅ h;rw[e];have B:(2:Nat)^40=1099511627776:=∅;cutsat
def BH(e:Nat):(2:Int)^(e+1)/2=2^e:=by rw[Int.pow_succ];lia
def BG(e:Nat):(2:Int)^(e+1)=2^e+2^e:=by rw[Int.pow_succ];lia
def IT{e:Nat}(h:(2:Int)^e=1):e=0:=by
 cases e with
 | zero=>rfl
 | succ e=>have:=b7 e;rw[BG]at h;lia
def F1(L:Nat):(1:Int)*2^((L:Int)).toNat=2^L:=by rw[Int.one_mul];rfl
def E_{A:Around}{xs ys:List V}(I:Inv X pins σ H s)(ha:ao X.K H a xs)(hb:ao X.K H b ys)(hl:xs.length=ys.length)
  (he:∀(j:Nat)(x y:V),xs[j]? = some x->ys[j]? = some y -> ∀ u v,RelV x u->RelV y v->SeqAt.EqAt A.in1 s u v true) (hu:A.units<cLine) :
  SeqAt.RcAt A s (.ref a) (.ref b) true/\SeqAt.RcNeAt A s (.ref a) (.ref b) false:=by
 obtain⟨M,Z,p1,_⟩:=I.list ha;obtain⟨B,Y,p2,_⟩:=I.list hb;have l1:=Z.length;have l2:=Y.length;have hz:M.toArray.size=B.toArray.size:=by rw[WC,WC];lia
 have el:∀(j:Nat)(h1:j<M.toArray.size)(h2:j<B.toArray.size),SeqAt.EqAt A.in1 s M.toArray[j] B.toArray[j] ((λ_=>true) j):=by
  intro j h1 h2;have O:j<xs.length:=by rw[WC]at h1;lia
  have N:j<ys.length:=by rw[WC]at h2;lia
  obtain⟨v1,e1,U⟩:=Z.get (i:=j) (x:=xs[j]) (ZP O);obtain⟨v2,e2,S⟩:=Y.get (i:=j) (x:=ys[j]) (ZP N);have g1:M.toArray[j]=v1:=by have:=ac e1;simpa using this.2
  have g2:B.toArray[j]=v2:=by have:=ac e2;simpa using this.2
  rw[g1,g2];exact he j _ _ (ZP O) (ZP N) _ _ U S
 have W:(List.range M.toArray.size).all (λ_=>true)=true:=by simp
 constructor
 ·rw[<- W];exact SeqAt.RcAt.lists p1.isList p2.isList hz hu el
 ·have z:=SeqAt.RcNeAt.lists (e:=λ_=>true) p1.isList p2.isList hz hu el;rw[W]at z;exact z
def vw{X:Cx}{pos:Pos}{scope:Scope}{cl:List (Str×Addr)}{N:List Str}{fr:List Nat}
  (hc:X.calm=true) (hi:PI X tg ff wi) (he:∀(C:Addr)(s₂:Shared)(H₂:Hp)(M:List Addr),PE (dz X scope cl C x (TN++N) s₂ H₂ M) elt te) (rJ:∀(C:Addr)(s₂:Shared)(H₂:Hp)(M:List Addr),Kr (dz X scope cl C x (TN++N) s₂ H₂ M) ifs tt) (Y:∀(C:Addr)(s₂:Shared)(H₂:Hp)(M:List Addr),PG (dz X scope cl C x (TN++N) s₂ H₂ M) tg gt)
  (B:closureFor scope X.env=pure cl) (eR:Wr X.env cl) (eQ:cl.map (·.1)=cn) (U:X.env.scope=bB) (hk:scope.kind = .function) (aD:ji scope bB N cn)
  (Z:fr.map (λj=>X.N[j]?)=N.map some) (hs:∀ v,foldedSetIterable ff X.env v=pure v:=by intro _;rfl) :
  PE X (.ListComp elt [⟨tg,ff,ifs,0⟩] scope pos) (oQ (TN.length+1) wi gt tt te fr):=by
 intro pins s σ H Q I h;rw[eval_ListComp];refine wpAny_comprehension_free (use:=none) J hs B hk aD.names (aV (hi s σ H _ I h) λv s1 h1=>aV h1 λitv S h2=>?_);obtain⟨it,M,tn,JJ,H2,e,I2,T,O,f2,hq⟩:=h2;subst e;obtain⟨W,⟨m0,w0⟩,turn⟩:=hq S.heap.objs.size (I2.aD.fresh (ZF _));exact mU (RR:=λacc C=>compPost (model X.prog X.w) X.A X.xe none (EP X pins σ Q) acc C) (R:=λH6=>Q (.ref S.heap.objs.size) H6) hc he rJ Y eR eQ U hk aD Z I2 T O f2 w0 turn
  λC H6 s6 m6 hn I6 F6 q=>⟨m6,hn,λh' sb=>⟨.ref S.heap.objs.size,H6,I6.e8 F6 sb,J,q⟩⟩
def Nb(i k:Nat)(B:TI)(gt:TG)(tt:TT)(te:TE)(fr:List Nat):TS:=λD σ H=>oQ k B gt tt te fr σ H λv H1=>D.nx (σ.set i (some v)) H1
def Af{X:Cx}{i:Nat}{B:Pos}{scope:Scope}{cl:List (Str×Addr)}{N:List Str}{fr:List Nat}
  (hN:X.N.Nodup) (JW:X.N[i]? = some y) (hy:Loc X.env.scope y)
  (hc:X.calm=true) (hi:PI X tg ff wi) (he:∀(C:Addr)(s₂:Shared)(H₂:Hp)(O:List Addr),PE (dz X scope cl C x (TN++N) s₂ H₂ O) elt te) (rJ:∀(C:Addr)(s₂:Shared)(H₂:Hp)(O:List Addr),Kr (dz X scope cl C x (TN++N) s₂ H₂ O) ifs tt) (U_:∀(C:Addr)(s₂:Shared)(H₂:Hp)(O:List Addr),PG (dz X scope cl C x (TN++N) s₂ H₂ O) tg gt)
  (M:closureFor scope X.env=pure cl) (eR:Wr X.env cl) (eQ:cl.map (·.1)=cn) (xg:X.env.scope=bB) (hk:scope.kind = .function) (aD:ji scope bB N cn)
  (kq:fr.map (λj=>X.N[j]?)=N.map some) (rz:swapsWith (.ListComp elt [⟨tg,ff,ifs,0⟩] scope pos) (some (.Name y py)) B.line X.env=pure true)
  (hf:X.fn y=true\/X.env.scope.names.lookup y=some .local) (hs:∀ v,foldedSetIterable ff X.env v=pure v:=by intro _;rfl) :
  PS X (.Assign [.Name y py] (.ListComp elt [⟨tg,ff,ifs,0⟩] scope pos) B) (Nb i (TN.length+1) wi gt tt te fr):=by
 intro pins s σ H D I h;rw[exec_Assign_Name_used _ _ _ _ rz];refine ZA (wpAny_standAt (ZA ?_));show wpAny _ X.A (do let _ <- comprehension (.ListComp elt [⟨tg,ff,ifs,0⟩] scope pos) scope X.env _ (newList []) false (eval ff X.env) (some (assign (.Name y py) X.env))) _ _ s;refine ZA (WX (wpAny_comprehension_free (use:=some (assign (.Name y py) X.env)) (Q:=λ_ s'=>SP X pins D .next s') J hs M hk aD.names
  (aV (hi s σ H _ I h) λv s1 h1=>aV h1 λitv U h2=>?_)) (λ_ s' hq=>ZO (ZO hq)) λ_ _ e=>e)
 obtain⟨it,O,tn,JJ,H2,e,I2,T,Y,f2,hq⟩:=h2;subst e;obtain⟨W,⟨m0,w0⟩,turn⟩:=hq U.heap.objs.size (I2.aD.fresh (ZF _));refine mU (RR:=λacc C=>compPost (model X.prog X.w) X.A X.xe (some (assign (.Name y py) X.env)) (λ_ s'=>SP X pins D .next s') acc C) (R:=λH6=>D.nx (σ.set i (some (.ref U.heap.objs.size))) H6) hc he rJ U_ eR eQ xg hk aD kq I2 T Y f2 w0 turn
  λC H6 s6 m6 hn I6 F6 q=>?_
 show wpAny _ X.A (assign (.Name y py) X.env (.ref U.heap.objs.size)) _ _ _;refine wpAny_assign_Name (Ii (v:=.ref U.heap.objs.size) I6 hN JW hy J (λs7 I7 ⟨a,sb,S⟩=>?_) hf);have Ja:C≠a:=by
  rcases S with S | S
  ·rw[S];exact F6.2.1
  ·exact Ne.symm (F6.2.2.2.2.1 y a S)
 exact⟨m6,hn.sameBut sb Ja,λh' Z=>⟨_,H6,I7.e8 F6 Z,q⟩⟩
def vL{K:Fg}{a:Addr}{xs:List V}{O:V->Hp->(V->Hp->Prop)->(Hp->Prop)->Prop}{D:Addr}{H1:Hp}{R:Hp->Prop}(hn:xs.length<=sizeLine)(Pv:Nat->List V->Hp->Prop)(h0:Pv 0 [] (upd H1 D (.lst [])))
  (Y:∀ i ys H,Pv i ys H->ao K H a xs) (hD:∀ i ys H,Pv i ys H->H D=some (.lst ys)/\ys.length<=i)
  (hs:∀ i x ys H,xs[i]? = some x->Pv i ys H->O x H (λy B=>B D=some (.lst ys)/\Pv (i+1) (ys++[y]) (upd B D (.lst (ys++[y])))) (Pv (i+1) ys))
  (hd:∀ ys H,Pv xs.length ys H->R H) :
  ∃ W:Nat->Nat->List V->Hp->Prop,(∃ m,W 0 m [] (upd H1 D (.lst []))) /\
   ∀ i m ys H2,W i m ys H2->H2 D=some (.lst ys)/\(((fj K a).stop i H2/\R H2)\/((fj K a).go i H2/\ys.length<sizeLine/\aO λ(N:V->Hp->Prop) (Z:Hp->Prop)=>aP ((∀ y B,N y B->B D=some (.lst ys) /\ ∃ M,M<m/\W (i+1) M (ys++[y]) (upd B D (.lst (ys++[y]))))) ((∀ B,Z B -> ∃ M,M<m/\W (i+1) M ys B)) (∀ x H',(fj K a).fF i H2 x H'->O x H' N Z))):=by
 exists λi m ys H=>m=xs.length-i/\i<=xs.length/\Pv i ys H,⟨xs.length,by simp,ZX _,h0⟩
 rintro i m ys H2 ⟨rfl,hi,p⟩;obtain⟨d1,d2⟩:=hD i ys H2 p;have q:=Y i ys H2 p;exists d1;by_cases I:i<xs.length
 ·refine .inr ⟨⟨xs,xs[i],q,by simp[I]⟩,{},λy B=>B D=some (.lst ys)/\Pv (i+1) (ys++[y]) (upd B D (.lst (ys++[y]))),Pv (i+1) ys,λy B ⟨U,S⟩=>⟨U,xs.length-(i+1),{},J,I,S⟩,λB z=>⟨xs.length-(i+1),{},J,I,z⟩,λx H' y=>?_⟩;obtain⟨e,y⟩:=y;subst e;exact hs i x ys _ (y xs q) p
 ·have e:i=xs.length:={}
  subst e;exact .inl ⟨⟨xs,q,ZF _⟩,hd ys H2 p⟩
section
variable {n:Nat}{lo:Int}{p:Nat->Bool}{g:Nat->V}{Tt:V->Hp->(Bool->Hp->Prop)->Prop}{Te:V->Hp->(V->Hp->Prop)->Prop}{D:Addr}{H1:Hp}{R:Hp->Prop}
def F0(hD:H1 D=none)(hn:n<=sizeLine)(hT:∀ i,i<n -> ∀(H:Hp)(Q:Bool->Hp->Prop),ag H1 H->Q (p i) H->Tt (.int (lo+(i:Int))) H Q)
  (hE:∀ i,i<n -> ∀(H:Hp)(Q:V->Hp->Prop),ag H1 H->Q (g i) H->Te (.int (lo+(i:Int))) H Q) (hR:R (upd H1 D (.lst (((List.range n).filter p).map g)))) :
  ∃ W:Nat->Nat->List V->Hp->Prop,(∃ m,W 0 m [] (upd H1 D (.lst []))) /\
   ∀ i m ys H2,W i m ys H2->H2 D=some (.lst ys)/\(((nW lo n).stop i H2/\R H2)\/((nW lo n).go i H2/\ys.length<sizeLine /\ ∃ N:V->Hp->Prop,(∀ y I,N y I->I D=some (.lst ys) /\ ∃ M,M<m/\W (i+1) M (ys++[y]) (upd I D (.lst (ys++[y])))) /\
    ∀ x H',(nW lo n).fF i H2 x H'->Tt x H' λb I=>if b=true then Te x I N else ∃ M,M<m/\W (i+1) M ys I)):=by
 exists λi m ys H=>m=n-i/\i<=n/\ys=((List.range i).filter p).map g/\H=upd H1 D (.lst ys),⟨n,by simp,ZX _,by simp,J⟩
 rintro i m ys H2 ⟨rfl,hi,O,rfl⟩;have U:=aM hD (.lst ys);have xc:ys.length<=i:=by rw[O,ZK];exact ZT (length_filter_le _ _) (by rw[length_range];exact ZF _)
 exists ax;by_cases B:i<n
 ·refine .inr ⟨B,{},λy I=>I=upd H1 D (.lst ys)/\y=g i/\p i=true,λy I ⟨S,Z,Y⟩=>⟨by rw[S];exact ax,n-(i+1),{},J,B,?eq,by rw[S,kX]⟩,λx H' y=>?st⟩
  case eq=>
   rw[range_succ,YW,WF,<- O,Z];simp[Y]
  case st=>
   obtain⟨e,y⟩:=y;subst e y;refine hT i B _ _ U ?_;by_cases hp:p i=true
   ·rw[ZL hp];exact hE i B _ _ U ⟨J,J,hp⟩
   ·rw[ZJ hp];refine⟨n-(i+1),{},J,B,?_,J⟩;rw[range_succ,YW,WF,<- O];simp[hp]
 ·have e:i=n:={}
  subst e;refine .inl ⟨ZF _,?_⟩;rw[O];exact hR
end
inductive OA(K:Fg)(xs:List V)(H:Hp)(Q:VK):Prop
 |mk(p:Addr)(ns:List Int)(_:xs=[.ref p])(_:ao K H p (ns.map V.int))(_:Q (.int ns.sum) H)
def FZ(W:X.calm=true):b8 X (.builtin "sum") (OA X.K):=by
 intro pins s σ H xs us Q I r h;obtain⟨p,ns,rfl,hq,q⟩:=h;obtain⟨u,rfl,O⟩:=vals1 r;cases O;obtain⟨B,S,pl,hz⟩:=I.list hq;have hi:=GU S;obtain⟨ys,N⟩:=hi.allInts.items;have M:s.heap.IsList p (intItems ys):=N▸pl.isList;refine sum_intListG (I.ok.hd W) M λh' tk t' U=>?_;have Z:ns=ys.toList.map (·.1):=by rw[<- nums_intItems,<- N];exact(show numsOf B.toArray.toList=ns from hi.numsOf).symm
 have Y:preSum (numAt ys) ys.size=ns.sum:=by rw[preSum_eq,WP (by simp),Z]
 rw[Y];exact⟨.int ns.sum,H,I.kept (t':=tk) U,⟨_,J⟩,q⟩
def kF{K:Fg}{es:List Expr}{k:Nat}{t:C4}{n:Nat}{pos:Pos}(N:X.K=K)(M:X.calm=true)(h:C5 X es t)
  (I:(assignEach es X.env).length=n:=by rfl) (B:(assignEach es X.env).findIdx? (·.1)=none:=by rfl):PG X (.Tuple es k pos) (Kd K n t):=by subst N;exact IE M h I B
def eY{K:Fg}{a:Addr}{xs:List V}{T:V->Hp->(V->Hp->Prop)->Prop}{D:Addr}{H1:Hp}{R:Hp->Prop}(hn:xs.length<=sizeLine)(Pv:Nat->List V->Hp->Prop)(Z:Pv 0 [] (upd H1 D (.lst [])))
  (U:∀ i ys H,Pv i ys H->ao K H a xs) (Y:∀ i ys H,Pv i ys H->H D=some (.lst ys)/\ys.length=i)
  (hs:∀ i x ys H,xs[i]? = some x->Pv i ys H->T x H λy B=>B D=some (.lst ys)/\Pv (i+1) (ys++[y]) (upd B D (.lst (ys++[y]))))
  (hd:∀ ys H,Pv xs.length ys H->R H) :
  ∃ W:Nat->Nat->List V->Hp->Prop,(∃ m,W 0 m [] (upd H1 D (.lst []))) /\
   ∀ i m ys H2,W i m ys H2->H2 D=some (.lst ys)/\(((fj K a).stop i H2/\R H2)\/((fj K a).go i H2/\ys.length<sizeLine /\ ∃ N:V->Hp->Prop,(∀ y B,N y B->B D=some (.lst ys) /\ ∃ M,M<m/\W (i+1) M (ys++[y]) (upd B D (.lst (ys++[y])))) /\
    ∀ x H',(fj K a).fF i H2 x H'->T x H' N)):=by
 exists λi m ys H=>m=xs.length-i/\i<=xs.length/\Pv i ys H,⟨xs.length,by simp,ZX _,Z⟩
 rintro i m ys H2 ⟨rfl,hi,p⟩;obtain⟨d1,d2⟩:=Y i ys H2 p;have q:=U i ys H2 p;exists d1;by_cases I:i<xs.length
 ·refine .inr ⟨⟨xs,xs[i],q,by simp[I]⟩,{},λy B=>B D=some (.lst ys)/\Pv (i+1) (ys++[y]) (upd B D (.lst (ys++[y]))),λy B ⟨S,O⟩=>⟨S,xs.length-(i+1),{},J,I,O⟩,λx H' y=>?_⟩;obtain⟨e,y⟩:=y;subst e;exact hs i x ys _ (y xs q) p
 ·have e:i=xs.length:={}
  subst e;exact .inl ⟨⟨xs,q,ZF _⟩,hd ys H2 p⟩
end L2
namespace HT
set_option autoImplicit false
open PySem PySem.Spec PyProof.Rows List
section
open PySem.SeqAt
open PySem.AutoSeq1 (wpAny_loadPart')
open PySem.MeetsSeq PySem.MeetsSeq2 PySem.MeetsSeq3
def Mi(a:Int)(t:Tok)(l:Addr)(items:Array Value)(n:Nat)(dd:Option Addr)(B:Array (Option Value)) :
  Meets (Builtin.«int.__rmul__» ⟨[.int a t,.ref l],[]⟩) (λ_ R s=>s.heap.get? l=some { cls:=.type "tuple", dict:=dd,data:=.seq items n,slots:=B }/\R (.ok (.ret .notImplemented)) s):=
 .of_wp λprog w A R s h=>by
  obtain⟨hp,g,d,tk,os⟩:=s;obtain⟨I,h⟩:=h;have f2:=PyProof.Rows.sub_tuple_int
  wp_walk using wpAny_loadPart' I
  exact⟨_,J,h⟩
def DC(l:Addr)(items:Array Value)(n:Nat)(dd:Option Addr)(B:Array (Option Value))(t:Tok) :
  Meets (Builtin.«tuple.__mul__» ⟨[.ref l,.int 1 t],[]⟩) (λ_ R s=>s.heap.get? l=some { cls:=.type "tuple", dict:=dd,data:=.seq items n,slots:=B }/\R (.ok (.ret (.ref l))) s):=
 .of_wp λprog w A R s h=>by
  obtain⟨hp,g,d,tk,os⟩:=s;obtain⟨I,h⟩:=h
  wp_walk using wpAny_loadPart' I
  exact⟨_,J,h⟩
def Mh(l:Addr)(items:Array Value)(n:Nat)(dd:Option Addr)(W:Array (Option Value))(k:Int)(t:Tok)(U:items.isEmpty=false)(h1:(k==1)=false)(k0:0<=k)(k1:k<2^62)(hz:(items.size:Int)*k<=(sizeLine:Nat))(Y:¬(List.foldl (λx1 N=>x1++N) #[] (List.replicate k.toNat items)).size > sizeLine) :
  Meets (Builtin.«tuple.__mul__» ⟨[.ref l,.int k t],[]⟩) (λ_ R s=>s.heap.get? l=some { cls:=.type "tuple", dict:=dd,data:=.seq items n,slots:=W } /\
   R (.ok (.ret (.ref s.heap.objs.size))) { s with heap:=s.heap.push { cls:=.type "tuple", data:=.seq (List.foldl (λx1 N=>x1++N) #[] (List.replicate k.toNat items)) } }):=
 .of_wp λprog w A R s h=>by
  obtain⟨hp,g,d,tk,os⟩:=s;obtain⟨I,h⟩:=h;have e1:(items.isEmpty||k==1)=false:=by rw[U,h1];rfl
  have B:¬(decide (k < -2^63)||decide (k>=2^63))=true:=by rw[ZS (by lia),ZS (by lia)];decide
  have M:¬((items.size:Int)*k > (2^63-1)/8):=by have:((sizeLine:Nat):Int)<=(2^63-1)/8:=∅;lia
  have O:¬ Builtin.Tuple.tupleTooMany ((items.size:Int)*k)=true:=by unfold Builtin.Tuple.tupleTooMany;rw[ZS (by lia)];exact fnt
  by_cases S:k<=0
  ·have e2:(decide (k<=0)||items.isEmpty)=true:=by rw[ZG S];rfl
   have Z:k.toNat=0:=(by lia)
   rw[Z]at h
   wp_walk using wpAny_loadPart' I
   rw[ZJ B]
   wp_walk using wpAny_loadPart' I
   exact⟨_,J,h⟩
  ·have e2:¬(decide (k<=0)||items.isEmpty)=true:=by rw[ZS S,U];decide
   wp_walk using wpAny_loadPart' I
   rw[ZJ B]
   wp_walk using wpAny_loadPart' I
   rw[ZJ M]
   wp_walk using wpAny_loadPart' I
   exact⟨_,J,h⟩
end
def NH:fillsNumberSlot (Value.type "tuple") "mul" = pure false:=by with_unfolding_all rfl
def Me:seqRepeat? (Value.type "tuple")=pure (some (Value.builtin "tuple.__mul__")):=by with_unfolding_all rfl
end HT
namespace L2
open PySem PySem.Spec PyProof.Rows List
variable {X:Cx}
inductive Na(K:Fg)(x:V)(y:V)(H:Hp)(Q:VK):Prop
 |mk(a b:Addr)(xs:List V)(_:x = .ref a)(_:y = .ref b)(_:ao K H a xs)(_:ao K H b [])(_:Q (.bl (!xs.isEmpty)) H)
def vt(hu:X.A.units+64<cLine):cy X (compareOp .NotEq) (Na X.K):=by
 intro pins s σ H x y v u Q I U S h;obtain⟨a,b,xs,rfl,rfl,O,N,q⟩:=h;cases U;cases S;cases xs with
 | nil=>exact(E_ I O N J (λj x y h1=>nomatch h1) {}).2 _ _ _ _ ⟨.bl false,H,I,J,q⟩
 | cons x xs=>
  obtain⟨M,Y,Z,_⟩:=I.list O;obtain⟨B,W,p2,_⟩:=I.list N;have l1:=Y.length;have l2:=W.length;have hz:(M.toArray.size != B.toArray.size)=true:=by rw[WC,WC,<- l1,<- l2];rfl
  exact SeqAt.RcNeAt.lists_lengths Z.isList p2.isList hz {} _ _ _ _ ⟨.bl true,H,I,J,q⟩
inductive s_(K:Fg)(x:V)(y:V)(H:Hp)(Q:VK):Prop
 |mk(a:Addr)(z:V)(k:Nat)(_:x = .ref a)(_:y = .int k)(_:H a=some (.tup [z]))(_:k<=1000)(_:∀ p H',ag H H'->au K H' p (List.replicate k z)->Q (.ref p) H')
def wD:cy X (binaryOp .Mult) (s_ X.K):=by
 intro pins s σ H x y v u Q I rx ry h;obtain⟨a,z,k,rfl,rfl,ha,hk,q⟩:=h;cases rx;obtain⟨t,rfl⟩:=ry;have hq:au X.K H a [z]:=au.of ha;obtain⟨B,Y,p1,_⟩:=I.tuple hq;have N:B.length=1:=Y.length.symm;obtain⟨⟨cls,dd,data,W⟩,S,Z,n,hd⟩:=id p1;simp only at Z hd;subst Z hd;have O:s.TypeIs (.ref a) "tuple" := ⟨_,S,J⟩
 by_cases h1:k=1
 ·subst h1;refine wpAny_binaryOp_repeat_ref (T := "tuple") (U := "int") ∅ O (λs'=>typeIs_int s' _ t) HT.NH F.fills_int_mul F.slot_int_rmul HT.Me F.slot_int_index.lookup
   (call_meets F.slot_int_rmul (typeIs_int s _ t) F.entry_int_rmul (F.args_int_rmul_2 _ _) (HT.Mi _ t a B.toArray n dd W)
    ⟨S,J,O,call_meets F.slot_tuple_mul O F.entry_tuple_mul (F.args_tuple_mul_2 _ _) (HT.DC a B.toArray n dd W t) ⟨S,?_⟩⟩)
  exact⟨.ref a,H,I,J,q _ _ (ag.refl H) hq⟩
 ·have e1:((k:Int)==1)=false:=by rw[beq_eq_false_iff_ne];lia
  have e0:B.toArray.isEmpty=false:=by
   cases B with
   | nil=>cases N
   | cons _ _=>rfl
  have M:List.foldl (λx1 x2=>x1++x2) #[] (List.replicate k B.toArray)=(List.replicate k B).flatten.toArray:=by have:=F4 B k [];rw[nil_append]at this;exact this
  have kj:(sizeLine:Nat)>=1000:=∅;refine wpAny_binaryOp_repeat_ref (T := "tuple") (U := "int") ∅ O (λs'=>typeIs_int s' _ t) HT.NH F.fills_int_mul F.slot_int_rmul HT.Me F.slot_int_index.lookup
   (call_meets F.slot_int_rmul (typeIs_int s _ t) F.entry_int_rmul (F.args_int_rmul_2 _ _) (HT.Mi _ t a B.toArray n dd W)
    ⟨S,J,O,call_meets F.slot_tuple_mul O F.entry_tuple_mul (F.args_tuple_mul_2 _ _) (HT.Mh a B.toArray n dd W k t e0 e1 {} {} (by rw[WC,N];lia) (by rw[Int.toNat_natCast,M,WC,len_rep,N];lia)) ⟨S,?_⟩⟩)
  have er:(List.replicate k [z]).flatten=List.replicate k z:=by
   induction k with
   | zero=>rfl
   | succ m ih=>simp[replicate_succ]
  rw[Int.toNat_natCast,M];have hr:Vals (List.replicate k z) (List.replicate k B).flatten:=by rw[<- er];exact Y.rep k
  refine⟨.ref s.heap.objs.size,_,I.laid (t':=s.toks) (o:=.tup (List.replicate k z)) (λb ob q=>ZE _ q) (ZF _) ?_,J,q _ _ (aM (I.aD.fresh (ZF _)) _) (au.of ax)⟩;exact⟨by rw[length_replicate];lia,_,hr,IsTup.new _ _⟩
def yb{K:Fg}{a:Addr}{xs:List V}{Tt:V->Hp->(Bool->Hp->Prop)->Prop}{Te:V->Hp->(V->Hp->Prop)->Prop}{D:Addr}{H1:Hp}{R:Hp->Prop}(hn:xs.length<=sizeLine)(Pv:Nat->List V->Hp->Prop)(h0:Pv 0 [] (upd H1 D (.lst [])))
  (Y:∀ i ys H,Pv i ys H->ao K H a xs) (Z:∀ i ys H,Pv i ys H->H D=some (.lst ys)/\ys.length<=i)
  (hs:∀ i x ys H,xs[i]? = some x->Pv i ys H->Tt x H λb B=>if b=true then Te x B (λy O=>O D=some (.lst ys)/\Pv (i+1) (ys++[y]) (upd O D (.lst (ys++[y]))))else ∃ I,I<xs.length-i/\I=xs.length-(i+1)/\i+1<=xs.length/\Pv (i+1) ys B)
  (hd:∀ ys H,Pv xs.length ys H->R H) :
  ∃ W:Nat->Nat->List V->Hp->Prop,(∃ m,W 0 m [] (upd H1 D (.lst []))) /\
   ∀ i m ys H2,W i m ys H2->H2 D=some (.lst ys)/\(((fj K a).stop i H2/\R H2)\/((fj K a).go i H2/\ys.length<sizeLine /\ ∃ N:V->Hp->Prop,(∀ y B,N y B->B D=some (.lst ys) /\ ∃ I,I<m/\W (i+1) I (ys++[y]) (upd B D (.lst (ys++[y])))) /\
    ∀ x H',(fj K a).fF i H2 x H'->Tt x H' λb B=>if b=true then Te x B N else ∃ I,I<m/\W (i+1) I ys B)):=by
 exists λi m ys H=>m=xs.length-i/\i<=xs.length/\Pv i ys H,⟨xs.length,by simp,ZX _,h0⟩
 rintro i m ys H2 ⟨rfl,hi,p⟩;obtain⟨d1,d2⟩:=Z i ys H2 p;have q:=Y i ys H2 p;exists d1;by_cases M:i<xs.length
 ·refine .inr ⟨⟨xs,xs[i],q,by simp[M]⟩,{},λy B=>B D=some (.lst ys)/\Pv (i+1) (ys++[y]) (upd B D (.lst (ys++[y]))),λy B ⟨U,S⟩=>⟨U,xs.length-(i+1),{},J,M,S⟩,λx H' y=>?_⟩;obtain⟨e,y⟩:=y;subst e;exact hs i x ys _ (y xs q) p
 ·have e:i=xs.length:={}
  subst e;exact .inl ⟨⟨xs,q,ZF _⟩,hd ys H2 p⟩
section
def M_{A:Around}{p q:Int×Int}(I:Inv X pins σ H s)(ha:au X.K H a [.int p.1,.int p.2])(hb:au X.K H b [.int q.1,.int q.2])(W:a=b->p=q)(hu:A.units+4<cLine) :
  SeqAt.EqAt A s (.ref b) (.ref a) (decide (q=p)):=by
 by_cases e:q=p
 ·subst e;rw[ZG J];exact rX (Nd (ns:=[q.1,q.2]) I hb ha {}).1
 ·rw[ZS e];have U:b≠a:=λz=>e (W z.symm).symm;refine .of_refs U ?_;obtain⟨M,r1,p1,_⟩:=I.tuple hb;obtain⟨B,Z,p2,_⟩:=I.tuple ha;have l1:M.length=2:=r1.length.symm;have l2:B.length=2:=Z.length.symm;have z:=SeqAt.RcAt.tuples (A:=A) (e:=λj=>[q.1,q.2].getD j 0==[p.1,p.2].getD j 0) p1 p2 {} (λj h1 h2=>by
   have N:j=0\/j=1:=by rw[WC]at h1;lia
   obtain⟨v1,e1,S⟩:=r1.get (i:=j) (x:=.int ([q.1,q.2].getD j 0)) (by obtain rfl | rfl:=N <;> rfl);obtain⟨v2,e2,O⟩:=Z.get (i:=j) (x:=.int ([p.1,p.2].getD j 0)) (by obtain rfl | rfl:=N <;> rfl);have g1:M.toArray[j]=v1:=by have:=ac e1;simpa using this.2
   have g2:B.toArray[j]=v2:=by have:=ac e2;simpa using this.2
   rw[g1,g2];exact Nv S O J J)
  have f:((List.range (min M.toArray.size B.toArray.size)).all (λj=>[q.1,q.2].getD j 0==[p.1,p.2].getD j 0)&&M.toArray.size==B.toArray.size)=false:=by
   rw[WC,WC,l1,l2];show(((q.1==p.1)&&((q.2==p.2)&&true))&&true)=false;rw[Bool.and_true,Bool.and_true];by_cases c1:q.1=p.1
   ·have Y:¬ q.2=p.2:=λY=>e (Prod.ext c1 Y);rw[beq_eq_false_iff_ne.mpr Y,be]
   ·rw[beq_eq_false_iff_ne.mpr c1,bd]
  rw[f]at z;exact z
def Hn(H:Hp)(xs:List V)(ps:List (Int×Int)):Prop:=xs.length=ps.length /\ ∀(j:Nat)(x:V)(q:Int×Int),xs[j]? = some x->ps[j]? = some q -> ∃ b,x = .ref b/\H b=some (.tup [.int q.1,.int q.2])
inductive Oz(K:Fg)(x:V)(y:V)(H:Hp)(Q:VK):Prop
 |mk(a b:Addr)(xs:List V)(_:x = .ref a)(_:y = .ref b)(_:ao K H a xs)(_:ao K H b [])(_:Q (.bl xs.isEmpty) H)
def FY(hu:X.A.units+64<cLine):cy X (compareOp .Eq) (Oz X.K):=by
 intro pins s σ H x y v u Q I U S h;obtain⟨a,b,xs,rfl,rfl,O,N,q⟩:=h;cases U;cases S;cases xs with
 | nil=>exact(E_ I O N J (λj x y h1=>nomatch h1) {}).1 _ _ _ _ ⟨.bl true,H,I,J,q⟩
 | cons x xs=>
  obtain⟨M,Y,Z,_⟩:=I.list O;obtain⟨B,W,p2,_⟩:=I.list N;have l1:=Y.length;have l2:=W.length;have hz:(M.toArray.size != B.toArray.size)=true:=by rw[WC,WC,<- l1,<- l2];rfl
  exact SeqAt.RcAt.lists_lengths Z.isList p2.isList hz {} _ _ _ _ ⟨.bl false,H,I,J,q⟩
def uw(r W I:R2)(ta tb tc td:TE):TE:=λσ H Q=>ta σ H λx H1=>tb σ H1 λy H2=>r x y H2 λz S=>∃ k,z = .bl k /\
 (if k=true then tc σ S λM Z=>W y M Z λU O=>∃ N,U = .bl N/\(if N=true then td σ O λB Y=>I M B Y Q else Q (.bl false) O)else Q (.bl false) S)
variable{a b c d:Expr}{ta tb tc td:TE}{pos:Pos}
theorem Ek(ho:cy X (compareOp op) r)(O:cy X (compareOp yk) r')(B:cy X (compareOp IX) Y1)(ha:PE X a ta)(hb:PE X b tb)(hc:PE X c tc)(hd:PE X d td)
  (hm:lastMarks [op,yk,IX] [b,c,d]=false:=by with_unfolding_all rfl):PT X (.Compare a [op,yk,IX] [b,c,d] pos) (jl (uw r r' Y1 ta tb tc td)):=by
 intro pins s σ H Q I h
 refine isTrue_chain (aV (ha s σ H _ I h) ?_) hm;rintro v s1 ⟨x,H1,I1,r1,q1⟩;refine test_link (aV (hb s1 σ H1 _ I1 q1) ?_);rintro u s2 ⟨y,H2,I2,Z,q2⟩;refine aV (ho pins s2 σ H2 x y v u _ I2 r1 Z q2) ?_;rintro d' s3 ⟨z,H3,I3,r3,k,rfl,q3⟩;cases r3;refine YR ?_;cases k with
 | false=>obtain⟨k',S,q'⟩:=q3;cases S;exact ite_ff ⟨H3,I3,q'⟩
 | true=>
  refine ite_tt (test_link (aV (hc s3 σ H3 _ I3 q3) ?_));rintro W s4 ⟨U,H4,I4,Y,q4⟩;refine aV (O pins s4 σ H4 y U u W _ I4 Z Y q4) ?_;rintro d2 s5 ⟨z2,H5,I5,r5,k2,rfl,q5⟩;cases r5;refine YR ?_;cases k2 with
  | false=>obtain⟨k',S,q'⟩:=q5;cases S;exact ite_ff ⟨H5,I5,q'⟩
  | true=>refine ite_tt (test_last (aV (hd s5 σ H5 _ I5 q5) ?_));rintro N s6 ⟨M,H6,I6,r6,q6⟩;refine aV (B pins s6 σ H6 U M W N _ I6 Y r6 q6) ?_;rintro d3 s7 ⟨z3,H7,I7,r7,k3,rfl,q7⟩;cases r7;exact YR ⟨H7,I7,q7⟩
end
end L2
namespace TS
set_option autoImplicit false
open PySem PySem.W PyProof.Rows List
abbrev M2:=StateT SortSt Sem
section
variable {P:Keyed->Prop}{lt:Keyed->Keyed->Bool}
structure XR(P:Keyed->Prop)(lt:Keyed->Keyed->Bool):Prop where
 trans:∀ x y z,P x->P y->P z->lt y x=false->lt z y=false->lt z x=false
 VQ:∀ x y,P x->P y->lt x y=true->lt y x=false
def XS(lt:Keyed->Keyed->Bool)(l:List Keyed):Prop:=l.Pairwise λx y=>lt y x=false
structure ab9(lt:Keyed->Keyed->Bool)(al bl o:List Keyed)(i j:Nat):Prop where
 perm:o.Perm (al.take i++bl.take j)
 Yk:XS lt o
 ba:∀ x∈o,∀ y∈al.drop i,lt y x=false
 bb:∀ x∈o,∀ y∈bl.drop j,lt y x=false
def rm{a:Array Keyed}{i:Nat}(h:i<a.size):a.toList[i]? = some (kas_item a i):=by unfold kas_item;simp[Array.getD,h]
def rk{a:Array Keyed}{i:Nat}(h:i<a.size):kas_item a i∈a.toList:=ZV (rm h)
end
end TS
namespace TS
set_option autoImplicit false
open PySem PySem.W PyProof.Rows List
section
variable {P:Keyed->Prop}{lt:Keyed->Keyed->Bool}
structure ac1(lt:Keyed->Keyed->Bool)(al bl o:List Keyed)(i j:Nat):Prop where
 perm:o.Perm (al.drop i++bl.drop j)
 Yk:XS lt o
 ba:∀ x∈al.take i,∀ y∈o,lt y x=false
 bb:∀ x∈bl.take j,∀ y∈o,lt y x=false
variable{a b out:Array Keyed}{i j k:Nat}
end
end TS
namespace TS
set_option autoImplicit false
open PySem PySem.W PyProof.Rows List
section
variable {P:Keyed->Prop}{lt:Keyed->Keyed->Bool}
structure Loc(xs ys:Array Keyed)(lo hi:Nat):Prop where
 size:ys.size=xs.size
 perm:ys.Perm xs
 out:∀ t,t<lo\/hi<=t->ys[t]? = xs[t]?
end
end TS
namespace TS
set_option autoImplicit false
open PySem PySem.W PyProof.Rows List
section
variable {P:Keyed->Prop}{lt:Keyed->Keyed->Bool}
abbrev pr(p:Nat×Nat×Nat):Nat×Nat:=(p.1,p.2.1)
end
end TS
namespace TS
set_option autoImplicit false
open PySem PySem.W PyProof.Rows List
abbrev I3:=Int×Int×Int
noncomputable def dJ(a b:I3):Bool:=if a.1=b.1 then(if a.2.1=b.2.1 then decide (a.2.2<b.2.2)else decide (a.2.1<b.2.1))else decide (a.1<b.1)
def mO{a b:I3}:dJ a b=false↔(b.1<a.1\/(a.1=b.1/\(b.2.1<a.2.1\/(a.2.1=b.2.1/\b.2.2<=a.2.2)))):=by
 unfold dJ;split
 ·split
  ·rw[decide_eq_false_iff_not];lia
  ·rw[decide_eq_false_iff_not];lia
 ·rw[decide_eq_false_iff_not];lia
def M9{a b:I3}:dJ a b=true↔¬(b.1<a.1\/(a.1=b.1/\(b.2.1<a.2.1\/(a.2.1=b.2.1/\b.2.2<=a.2.2)))):=by rw[<- mO,Bool.not_eq_false]
def cW(h:Heap)(v:Value)(t:I3):Prop:=Kw λ(a:Addr) (o:Obj) (n:Nat) (t1 I B:Tok)=>cP (v = .ref a) (h.get? a=some o) (o.cls = .type "tuple") (o.data = .seq #[.int t.1 t1,.int t.2.1 I,.int t.2.2 B] n)
section
variable {prog:Program}{w:World}{A:Around}{E:VS}{s:Shared}
def qK{a b:Int}{t u:Tok}{Q:Bool->Shared->Prop}(h:Q (decide (a<b)) s):wpAny (model prog w) A (oneLt' false (.int a t) (.int b u)) Q E s:=
 kat_one _ _ (lt_int h)
def VO{x y:Value}{t u:I3}{Q:Bool->Shared->Prop}(N:cW s.heap x t)(M:cW s.heap y u)(h:Q (dJ t u) s):wpAny (model prog w) A (keyLt' (tuples' true) x y) Q E s:=by
 obtain⟨a,o,n,t1,Z,Y,rfl,O,_,hd⟩:=N;obtain⟨b,o',n',W,U,S,rfl,B,_,I⟩:=M;refine kat_lt O hd B I ?_;unfold dJ at h;show KatLex prog w A true _ Q [(_,_),(_,_),(_,_)] 0 s;refine kat_cons (wpAny_eqBool_int (kat_go (λe=>kat_yes ?_) (λe=>kat_no ?_)))
 ·rw[ZL (beq_iff_eq.mp e)]at h;refine kat_cons (wpAny_eqBool_int (kat_go (λe=>kat_yes ?_) (λe=>kat_no ?_)))
  ·rw[ZL (beq_iff_eq.mp e)]at h;refine kat_cons (wpAny_eqBool_int (kat_go (λe=>kat_yes (kat_nil ?_)) (λe=>kat_no (qK h))));have e':=beq_iff_eq.mp e;rw[ZS {}]at h;exact h
  ·rw[ZJ (λz=>by rw[beq_iff_eq.mpr z]at e;cases e)]at h;exact qK h
 ·rw[ZJ (λz=>by rw[beq_iff_eq.mpr z]at e;cases e)]at h;exact oneLt_int h
def LQ{P:Keyed->Prop}(ts:Value->I3):XR P (λx y=>dJ (ts x.1) (ts y.1)):=
 ⟨λx y z _ _ _ h1 h2=>by rw[mO]at h1 h2 ⊢;lia,λx y _ _ h=>by rw[M9]at h;rw[mO];lia⟩
def cW.keep{h h':Heap}{v:Value}{t:I3}(k:∀ b o,h.get? b=some o->o.cls = .type "tuple" -> h'.get? b=some o) (z:cW h v t):cW h' v t:=by obtain⟨a,o,n,t1,M,I,e,N,B,hd⟩:=z;exact⟨a,o,n,t1,M,I,e,k a o N B,B,hd⟩
theorem rh{h:Heap}{ts:Value->I3}(vs:List Value)(hT:∀ v∈vs,cW h v (ts v)):∃ fs:List Value,aP (KatTups h vs fs) (fs.length=vs.length) (∀ v∈fs,aO λi t=>v=Value.int i t)
:=by
 induction vs with
 | nil=>exact⟨[],trivial,J,λv O=>absurd O (by simp)⟩
 | cons v vs i=>
  obtain⟨fs,N,M,I⟩:=i λu B=>hT u (ZU _ B);obtain⟨a,o,n,t1,Y,W,rfl,S,U,hd⟩:=hT v (ZQ ..);exact⟨_::fs,KatTups.cons S U hd (f:=.int (ts (.ref a)).1 t1) J N,by simp[M],λu B=>by
   rcases ad B with e | e
   ·exact⟨_,_,e⟩
   ·exact I u e⟩
end
end TS
namespace TS
set_option autoImplicit false
open PySem PySem.W PyProof.Rows List
def cW.inj{h:Heap}{v:Value}{t u:I3}(x:cW h v t)(y:cW h v u):t=u:=by obtain⟨a,o,n,t1,W,U,rfl,M,_,hd⟩:=x;obtain⟨b,o',Y,S,O,N,e,B,_,I⟩:=y;cases e;rw[M]at B;cases B;rw[hd]at I;have z:=congrArg Array.toList (Data.seq.inj I).1;simp only[List.cons.injEq,Value.int.injEq]at z;exact Prod.ext z.1.1 (Prod.ext z.2.1.1 z.2.2.1.1)
open Classical in
noncomputable def ku(h:Heap)(v:Value):I3:=if q:∃ u,cW h v u then q.choose else(0,0,0)
def uk{h:Heap}{v:Value}{u:I3}(x:cW h v u):ku h v=u:=by
 unfold ku;have q:∃ u,cW h v u:=⟨u,x⟩
 rw[dif_pos q];exact q.choose_spec.inj x
end TS
namespace L2
open PySem PySem.Spec PyProof.Rows List
variable {X:Cx}
def fN(K:Fg)(H:Hp)(y:V)(u:TS.I3):Prop:=∃ a,y = .ref a/\au K H a [.int u.1,.int u.2.1,.int u.2.2]
def nV:Value->V
 | .ref a=>.ref a
 | _=>.bf
theorem mN{α β γ:Type}{R:β->γ->Prop}{f:α->β}{g:α->γ}:∀(l:List α),(∀ v∈l,R (f v) (g v))->Paired R (l.map f) (l.map g)
 | [],_=>.nil
 | x::l,h=>.cons (h x (ZQ ..)) (mN l λv B=>h v (ZU _ B))
theorem E9{s:Shared}(I:Inv X pins σ H s){ys:List V}{us:List TS.I3}{B:List Value}(hp:Paired (fN X.K H) ys us)(rr:Vals ys B):
  (∀ v∈B,TS.cW s.heap v (TS.ku s.heap v)/\fN X.K H (nV v) (TS.ku s.heap v)/\RelV (nV v) v)/\ys=B.map nV/\us=B.map (TS.ku s.heap)
:=by
 induction hp generalizing B with
 | nil=>cases rr;exact⟨λv N=>absurd N (by simp),J,J⟩
 | @cons y u _ _ ht hp i=>
  obtain _ | ⟨r,rr⟩:=rr;obtain⟨h1,h2,h3⟩:=i rr;obtain⟨a,rfl,hq⟩:=ht;cases r;obtain⟨O,M,p1,_⟩:=I.tuple hq;obtain⟨o,ho,hc,n,hd⟩:=id p1;cases M with
  | cons Z M=>
   cases M with
   | cons Y M=>
    cases M with
    | cons W M=>
     cases M;obtain⟨t1,rfl⟩:=Z;obtain⟨U,rfl⟩:=Y;obtain⟨S,rfl⟩:=W;have tp:TS.cW s.heap (.ref a) u:=⟨a,o,n,t1,U,S,J,ho,hc,hd⟩
     have e:=TS.uk tp;refine⟨λv N=>?_,by rw[YA,<- h2];rfl,by rw[YA,<- h3,e]⟩;rcases ad N with z | z
     ·rw[z,e];exact⟨tp,⟨a,J,hq⟩,J⟩
     ·exact h1 v z
structure M1(X:Cx)(o:Expr)(m:Str)(apos:Pos)(e:Expr)(bN:Pos):Prop where
 base:attributeBase o m X.env (eval o X.env)=eval o X.env
 eS:((backTo bN (starEach [e] X.env)).all (λx=>!x.1)&&(backToKw bN (keywordEach [] X.env)).all (λx=>x.1.isSome)
  && decide (([e]:List Expr).length+([]:List Keyword).length+(if([]:List Keyword).isEmpty then 0 else 1)<30))=true
 line:(apos.endLine==bN.line)=true
 trees:backTo bN (starEach [e] X.env)=[(false,eval e X.env)]
structure M2(X:Cx)(o:Expr)(m:Str)(apos:Pos)(e f:Expr)(bN:Pos):Prop where
 base:attributeBase o m X.env (eval o X.env)=eval o X.env
 eS:((backTo bN (starEach [e,f] X.env)).all (λx=>!x.1)&&(backToKw bN (keywordEach [] X.env)).all (λx=>x.1.isSome)
  && decide (([e,f]:List Expr).length+([]:List Keyword).length+(if([]:List Keyword).isEmpty then 0 else 1)<30))=true
 line:(apos.endLine==bN.line)=true
 trees:backTo bN (starEach [e,f] X.env)=[(false,eval e X.env),(false,eval f X.env)]
def XW(H:Hp)(a:Addr):Prop:=(∃ kvs,Rd H a (.dK kvs)) \/ ∃ kvs,Rd H a (.dT kvs)
def BV{s:Shared}(I:Inv X pins σ H s)(d:XW H a) :
  s.TypeIs (.ref a) "dict" /\ (∀ b,Value.ref a = .ref b -> ∃ B,s.heap.get? b=some B/\B.dict=none)/\(a==sysModules)=false:=by
 rcases d with ⟨kvs,e⟩ | ⟨kvs,e⟩
 ·obtain⟨_,hd,vs,_,dd⟩:=jP I.aD e;refine⟨dd.typeIs,λb q=>?_,hd⟩;cases q;obtain⟨B,_,_,h1,h2,_⟩:=dd;exact⟨B,h1,h2.2.1⟩
 ·obtain⟨_,hd,xs,_,dd⟩:=jO I.aD e;refine⟨dd.typeIs,λb q=>?_,hd⟩;cases q;obtain⟨B,_,_,h1,h2,_⟩:=dd;exact⟨B,h1,h2.2.1⟩
section
variable {pins:List (Addr×Obj)}{σ:St}{H:Hp}{s:Shared}{a:Addr}{y d:V}{u r:Value}{o:Option V}{A:Around}{E:VS}
def Cg(U:A.units+1<cLine)(I:Inv X pins σ H s)(g:jh H a y o)(O:RelV y u)(S:RelV d r)(h:∀ N s',Inv X pins σ H s'->RelV (o.getD d) N->Q N s') :
  wpAny (model X.prog X.w) A (call (.builtin "dict.get") [.ref a,u,r]) Q E s:=by
 rcases g with ⟨kvs,k,e,M,l⟩ | ⟨kvs,k,b,e,M,W,l⟩
 ·subst M;obtain⟨z,hd,vs,B,dd⟩:=jP I.aD e;refine call_meetsIn PySem.F.slot_dict_get dd.typeIs PySem.F.entry_dict_get (PySem.F.args_dict_get_3 _ _ _) (meets_dict_get_default (KQ X.prog X.w) a (ma O) hd r) ⟨_,dd.mapOf,h _ _ (I.tok _) ?_⟩;rw[l];exact(B.val k).getD S
 ·subst M;cases(show u=Value.ref b from O);obtain⟨z,hd,xs,B,dd⟩:=jO I.aD e;refine call_meetsIn PySem.F.slot_dict_get dd.typeIs PySem.F.entry_dict_get (PySem.F.args_dict_get_3 _ _ _) (meetsH_dict_get_default (tupleKind (KQ X.prog X.w)) a b hd r) ⟨tupleKind_room_in1 U,k,xs,Fc I.aD W,dd,h _ _ (I.tok _) ?_⟩;rw[l];exact(B.val k).getD S
end
noncomputable def yU(td ty tx:TE):TE:=λσ H Q=>td σ H λx H1=>∃ a,aP (x = .ref a) (XW H1 a) (ty σ H1 λy H2=>tx σ H2 λz B=>∃ o,jh B a y o/\Q (o.getD z) B)
section
variable{o e f:Expr}{apos bN:Pos}{td ty tx:TE}
def qD(hu:X.A.units+1<cLine)(ho:PE X o td)(he:PE X e ty)(hf:PE X f tx)(m:M2 X o "get" apos e f bN):PE X (.Call (.Attribute o "get" apos) [e,f] [] bN) (yU td ty tx):=by
 intro pins s σ H Q I h;refine wpAny_Call_method m.base m.eS m.line PySem.F.plainAttrs_dict PySem.F.slot_dict_get PySem.F.type_dict_get (aV (ho s σ H _ I h) ?_);rintro u S ⟨x,H1,M,Y,a,rfl,d,q1⟩;obtain rfl:u=Value.ref a:=Y;obtain⟨t1,N,_⟩:=BV M d;exists t1,N;rw[m.trees]
 refine Calls.callWith_builtin J (Calls.evalArgs_plain (Calls.spliced_cons (aV (he S σ H1 _ M q1) ?_)));rintro iv O ⟨y,H2,I2,W,q2⟩;refine Calls.spliced_cons (aV (hf O σ H2 _ I2 q2) ?_);rintro fv s3 ⟨z,H3,I3,U,ov,g,Z⟩;refine Calls.spliced_nil ?_;exact Cg hu I3 g W U λw' s4 I4 B=>⟨_,H3,I4,B,Z⟩
end
end L2
namespace TS
set_option autoImplicit false
open PySem PySem.W PyProof.Rows List
abbrev I2:=Int×Int
end TS
namespace L2
open PySem PySem.Spec PyProof.Rows List
variable {X:Cx}
theorem Inv.Jl{s:Shared}{h':Heap}{t':Nat}(I:Inv X pins σ H s)(k:∀ b u,s.heap.get? b=some u->h'.get? b=some u)(B:∀ b u,H b=some u->H' b=some u)
  (M:∀ b u,s.heap.get? b=some u->H b=none->H' b=none) (new:∀ b u,H' b=some u->H b=none->bg X.prog X.w H' h' b u):Inv X pins σ H' { s with heap:=h',toks:=t' }:=by
 refine I.un ⟨λb u q _ _ _=>k b u q,λb u q _ _ _=>⟨u.slots,k b u q⟩,λb u q n _=>M b u q n,λb u q _=>⟨u,k b u q⟩,λb xs q=>B b _ q,λb o u q=>B b _ q,λb ps q=>⟨#[],by rw[B b _ q];simp⟩⟩ λb u e=>?_;cases q:H b with
 | none=>exact new b u e q
 | some v=>rw[B b v q]at e;cases e;exact(I.aD b _ q).dY (λc v _ q=>k c v q) (λc q=>B c _ q) λc xs q=>B c _ q
theorem M8{ks:List TS.I2}{vs:List (Key×Value)}(e:KV (ks.map λp=>((Sum.inl p.1:Key),V.int p.2)) vs){j:Nat}{k:Key}{x:Value}(h:vs[j]? = some (k,x)):aO λp t=>aP (ks[j]? = some p) (k=Sum.inl p.1) (x = .int p.2 t):=by
 induction ks generalizing vs j with
 | nil=>cases e;simp at h
 | cons p ks i=>
  obtain _ | ⟨⟨e1,t,B⟩,r⟩:=e;obtain _ | j:=j
  ·cases h;exact⟨p,t,J,e1.symm,B⟩
  ·exact i r (by simpa using h)
def wZ{i:Int}(h:(KQ prog w).is (Sum.inl i) key=true):∃ t,key = .int i t:=by
 rcases Cz (show f6 (Sum.inl i) key=true from h)with ⟨j,t,e,rfl⟩ | ⟨x,t,e,rfl⟩
 ·cases e;exact⟨t,J⟩
 ·cases e
end L2
namespace TS
set_option autoImplicit false
open PySem
abbrev Up(l:List Nat):Prop:=l.Pairwise (·<·)
structure GT(b:Bool)(t:SetTable):Prop where
 led:t.led=b
 up:t.plain=true->Up t.place.toList
end TS
namespace TS
set_option autoImplicit false
open PySem
def byT(w:World):Bool:=w.params.followText "set-order"
def nu:Value->Int
 | .int k _=>k
 | _=>0
def xS(vs:List Value):Prop:=∀ v∈vs,∃ k t,v=Value.int k t
structure ab8(prog:Program)(w:World)(o:Obj)(es:Array (Int×Value))(ep:Nat)(t:SetTable)(ks:List Int):Prop where
 ex:o.ExactSet
 dat:o.data = .set es ep t
 el:ElemsOf (intKind prog w) es.toList
 eS:es.size<scanBound
 fit:t.fits es.size=true
 gt:GT (!(byT w)) t
 pm:(es.toList.map λe=>nu e.2).Perm ks
 nd:ks.Nodup
end TS
namespace TS
set_option autoImplicit false
open PySem PySem.W PyProof.Rows List
section
variable {prog:Program}{w:World}{A:Around}{E:VS}{s:Shared}
theorem E8:∀(vs:List Value),xS vs->IntsAre vs (vs.map nu)
 | [],_=>.nil
 | v::vs,h=>by
  obtain⟨k,t,rfl⟩:=h v (.head _);exact .cons k t (E8 vs λu B=>h u (.tail _ B))
end
end TS
namespace L2
open PySem PySem.Spec PyProof.Rows List
variable {X:Cx}
theorem E7:∀(vs:List Value),TS.xS vs->Vals ((vs.map TS.nu).map V.int) vs
 | [],_=>.nil
 | v::vs,h=>by
  obtain⟨k,t,rfl⟩:=h v (.head _);exact .cons ⟨t,J⟩ (E7 vs λu B=>h u (.tail _ B))
inductive VH(K:Fg)(n:Nat)(t:C4)(v:V)(σ:St)(H:Hp)(Q:St->Hp->Prop):Prop
 |mk(a xs)(_:v = .ref a)(_:ao K H a xs)(_:xs.length=n)(_:t xs σ H Q)
def wu{k:Nat}{n:Nat}{pos:Pos}(Y:X.calm=true)(h:C5 X es t)
  (S:(assignEach es X.env).length=n:=by rfl) (M:(assignEach es X.env).findIdx? (·.1)=none:=by rfl):PG X (.Tuple es k pos) (VH X.K n t):=by
 intro pins s σ H v u Q I r hw;obtain⟨a,xs,Z,hq,U,hw⟩:=hw;subst Z;cases r;obtain⟨B,N,pl,hz⟩:=I.list hq;have hsz:(assignEach es X.env).length=B.toArray.size:=by rw[S,<- U,N.length,WC]
 rw[assign_Tuple];refine ZA (wpAny_standAt ?_);unfold unpack;rw[hsz,M];refine ZA (YU (PySem.W.kun_itemsOf (I.ok.hd Y) pl.isList λh' O=>?_));have I1:Inv X pins σ H { s with heap:=h' }:=I.kept (t':=s.toks) λb o e=>O b o (WN (ZW e)) e;exact h pins _ σ H xs _ Q I1 (by simpa using N) hw
section
variable {st:Stmt}{t:TS}
inductive Dj(t:TS)(D:Ends)(σ:St)(H:Hp):Prop
 |mk(R:St->Hp->Prop)(_:t { D with nx:=R } σ H)(_:∀ σ' H',R σ' H'->D.nx σ' H')
def gK(h:PS X st t):PS X st (Dj t):=by
 intro pins s σ H D I ⟨R,h1,h2⟩;refine aV (h s σ H { D with nx:=R } I h1) λf M q=>?_;cases f with
 | next=>obtain⟨σ',H',B,q⟩:=q;exact⟨σ',H',B,h2 _ _ q⟩
 | ret v=>exact q
 | brk=>exact q
 | cont=>exact q
end
def b_{σ:St}{H:Hp}(h:∀ N:St->Hp->Prop,(∀ σ' H',u D σ' H'->N σ' H')->t { D with nx:=N } σ H):Df t u D σ H:=h _ λ_ _ x=>x
section
variable {K:Fg}
def Dq{n:Nat}(h:n<=100000):n<=sizeLine:=ZT h ∅
end
def M7:∀{ps qs:List (Int×Int)},ps.length=qs.length->(List.range ps.length).all (λj=>decide (ps.getD j (0,0)=qs.getD j (0,0)))=decide (ps=qs):=by
 intro ps qs I;by_cases c:ps=qs
 ·subst c;rw[ZG J,all_eq_true];intro j _;exact ZG J
 ·rw[ZS c,List.all_eq_false];have:∃ j,j<ps.length/\ps.getD j (0,0)≠qs.getD j (0,0):=by refine Classical.byContradiction λz=>c ?_;refine List.ext_getElem I λj h1 h2=>?_;have y:=Classical.not_not.mp λy=>z ⟨j,h1,y⟩;rw[WS,WS,ZP h1,ZP h2]at y;exact y
  obtain⟨j,M,B⟩:=this;exact⟨j,List.mem_range.mpr M,by rw[ZS B];exact fnt⟩
def Ej(I:Inv X pins σ H s)(ha:ao X.K H a xs)(hb:ao X.K H b ys)(hp:Hn H xs ps)(hq:Hn H ys qs)(A:Around)(hu:A.units+8<cLine) :
  SeqAt.RcAt A s (.ref a) (.ref b) (decide (ps=qs))/\SeqAt.RcNeAt A s (.ref a) (.ref b) (!decide (ps=qs)):=by
 obtain⟨M,r1,p1,_⟩:=I.list ha;obtain⟨B,r2,p2,_⟩:=I.list hb;have l1:=r1.length;have l2:=r2.length;have lp:=hp.1;have lq:=hq.1;by_cases hl:ps.length=qs.length
 ·have U:M.toArray.size=B.toArray.size:=by rw[WC,WC];lia
  have hn:M.toArray.size=ps.length:=by rw[WC];lia
  have el:∀(j:Nat)(h1:j<M.toArray.size)(h2:j<B.toArray.size),SeqAt.EqAt A.in1 s M.toArray[j] B.toArray[j] ((λj=>decide (ps.getD j (0,0)=qs.getD j (0,0))) j):=by
   intro j h1 h2;have Z:j<xs.length:=by rw[WC]at h1;lia
   have Y:j<ys.length:=by rw[WC]at h2;lia
   obtain⟨v1,e1,S⟩:=r1.get (i:=j) (x:=xs[j]) (ZP Z);obtain⟨v2,e2,O⟩:=r2.get (i:=j) (x:=ys[j]) (ZP Y);have g1:M.toArray[j]=v1:=by have:=ac e1;simpa using this.2
   have g2:B.toArray[j]=v2:=by have:=ac e2;simpa using this.2
   rw[g1,g2];have gp:ps[j]? = some (ps.getD j (0,0)):=by rw[WS,ZP (show j<ps.length by lia)];rfl
   have gq:qs[j]? = some (qs.getD j (0,0)):=by rw[WS,ZP (show j<qs.length by lia)];rfl
   obtain⟨c1,ec1,W⟩:=hp.2 j _ _ (ZP Z) gp;obtain⟨c2,ec2,N⟩:=hq.2 j _ _ (ZP Y) gq;rw[ec1]at S;rw[ec2]at O;cases S;cases O;show SeqAt.EqAt A.in1 s (.ref c1) (.ref c2) (decide (ps.getD j (0,0)=qs.getD j (0,0)));generalize ps.getD j (0,0)=p at *;generalize qs.getD j (0,0)=q at *;exact M_ I (au.of N) (au.of W) (λz=>by
    rw[z,W]at N;cases q;cases p;cases N;rfl) (by show A.units+1+4<cLine;lia)
  have t0:(List.range M.toArray.size).all (λj=>decide (ps.getD j (0,0)=qs.getD j (0,0)))=decide (ps=qs):=by rw[hn];exact M7 hl
  constructor
  ·rw[<- t0];exact SeqAt.RcAt.lists p1.isList p2.isList U {} el
  ·rw[<- t0];exact SeqAt.RcNeAt.lists p1.isList p2.isList U {} el
 ·have eP:¬ ps=qs:=λz=>hl (by rw[z]);have U:(M.toArray.size != B.toArray.size)=true:=by rw[WC,WC];exact bne_iff_ne.mpr {}
  rw[ZS eP];exact⟨SeqAt.RcAt.lists_lengths p1.isList p2.isList U {},SeqAt.RcNeAt.lists_lengths p1.isList p2.isList U {}⟩
inductive tf(K:Fg)(x:V)(y:V)(H:Hp)(Q:VK):Prop
 |mk(a b:Addr)(xs ys:List V)(ps qs:List (Int×Int))(_:x = .ref a)(_:y = .ref b)(_:ao K H a xs)(_:ao K H b ys)(_:Hn H xs ps)(_:Hn H ys qs)(_:Q (.bl (decide (ps=qs))) H)
def wG(S:X.A.units+64<cLine):cy X (compareOp .Eq) (tf X.K):=by intro pins s σ H x y v u Q I M B h;obtain⟨a,b,xs,ys,ps,qs,rfl,rfl,O,N,hp,hq,q⟩:=h;cases M;cases B;exact(Ej I O N hp hq X.A {}).1 _ _ _ _ ⟨.bl _,H,I,J,q⟩
inductive Oy  (x:V) (xs:List V) (H:Hp) (Q:VK):Prop
 |mk(a b)(_:x = .str a)(_:xs=[.str b])(_:Q (.bl (Txt.startswith a b)) H)
def M6:xM X "str.startswith" Oy:=by intro pins s σ H x xs v us Q I B M h;obtain⟨a,b,rfl,rfl,q⟩:=h;obtain⟨t,rfl⟩:=B;obtain⟨u,rfl,N⟩:=M.one;obtain⟨O,rfl⟩:=N;exact SC.startswith ⟨.bl _,H,I,J,q⟩
inductive Ox  (xs:List V) (H:Hp) (Q:VK):Prop
 |mk(x n)(_:xs=[.str x])(_:x.length<=640)(_:PySem.intText? x=some n)(_:Q (.int n) H)
def FX:b8 X (.type "int") Ox:=by intro pins s σ H xs us Q I r h;obtain⟨x,n,rfl,M,B,q⟩:=h;obtain⟨u,rfl,t,rfl⟩:=vals1 r;exact PySem.W.KIN.call_text B M ⟨.int n,H,I.tok _,⟨_,J⟩,q⟩
inductive xK  (x:V) (lo:Option Int) (hi:Option Int) (H:Hp) (Q:VK):Prop
 |mk(a)(_:x = .str a)(_:a.length<=sizeLine)(_:Q (.str (Txt.slice a lo hi)) H)
def Hm:LA X xK:=by
 intro pins s σ H x v Y W lo hi Z Q I U hs pl S h;obtain⟨a,rfl,M,q⟩:=h;obtain⟨t,rfl⟩:=U;exists "str", _,F.slot_str_getitem.lookup,typeIs_str _ _ _;have B:∀ t' k,EP X pins σ Q (.str (Txt.slice a lo hi) t') { s with toks:=k }:=λt' k=>⟨.str _,H,I.tok k,⟨_,J⟩,q⟩
 cases pl with
 | none=>
  cases S with
  | none=>exact wpAny_getItem_str_slice (l:=none) (u:=none) (st:=none) hs J (post_val_or_str ⟨ZT (Txt.slice_le a _ _) M,B⟩)
  | int j N=>exact wpAny_getItem_str_slice (l:=none) (u:=some (j,N)) (st:=none) hs J (post_val_or_str ⟨ZT (Txt.slice_le a _ _) M,B⟩)
 | int i O=>
  cases S with
  | none=>exact wpAny_getItem_str_slice (l:=some (i,O)) (u:=none) (st:=none) hs J (post_val_or_str ⟨ZT (Txt.slice_le a _ _) M,B⟩)
  | int j N=>exact wpAny_getItem_str_slice (l:=some (i,O)) (u:=some (j,N)) (st:=none) hs J (post_val_or_str ⟨ZT (Txt.slice_le a _ _) M,B⟩)
theorem M0:∀{ts:List Str}{B:List Value},Vals (ts.map V.str) B -> ∃ l:List (Str×Tok),strValues l=B/\l.map (·.1)=ts
 | [],_,.nil=>⟨[],J,J⟩
 | x::ts,_,.cons r rr=>by
  obtain⟨t,rfl⟩:=r;obtain⟨l,h1,h2⟩:=M0 rr;exact⟨(x,t)::l,by rw[<- h1];rfl,by rw[YA,h2]⟩
inductive uX(K:Fg)(x:V)(xs:List V)(H:Hp)(Q:VK):Prop
 |mk(a D ts)(_:x = .str a)(_:xs=[.ref D])(_:ao K H D (ts.map V.str))(_:JoinOk a ts=true)(_:Q (.str (Txt.join a ts)) H)
def Ba:xM X "str.join" (uX X.K):=by intro pins s σ H x xs v us Q I M N h;obtain⟨a,D,ts,rfl,rfl,U,B,q⟩:=h;obtain⟨t,rfl⟩:=M;obtain⟨u,rfl,O⟩:=N.one;cases O;obtain⟨S,r,p,W⟩:=I.list U;obtain⟨l,h1,h2⟩:=M0 r;exact SC.join (l:=l) (by rw[h1];exact p.isList) h2 B λt' k=>⟨.str _,H,I.tok k,⟨_,J⟩,q⟩
theorem pQ:∀(l:List (Str×Tok)),Vals ((l.map (·.1)).map V.str) (strValues l)
 | []=>.nil
 | p::l=>.cons ⟨p.2,J⟩ (pQ l)
open Builtin Builtin.Str in
inductive MZ  (x:V) (xs:List V) (H:Hp) (Q:VK):Prop
 |mk(a b)(_:x = .str a)(_:xs=[.str b])(_:(b.length==0)=false)(_:a.length<=sizeLine)(_:(partsBetween a (occurrences a b 0 a.length (a.length+1)) b.length).length<=sizeLine)(_:(Txt.split a b).length<=sizeLine)(_:∀ l,H l=none->Q (.ref l) (upd H l (.lst ((Txt.split a b).map V.str))))
open Builtin Builtin.Str in
def mT:xM X "str.split" MZ:=by
 intro pins s σ H x xs v us Q I W Y h;obtain⟨a,b,rfl,rfl,O,U,S,zs,q⟩:=h;obtain⟨ta,rfl⟩:=W;obtain⟨u,rfl,Z⟩:=Y.one;obtain⟨tb,rfl⟩:=Z;have B:∀(l:List (Str×Tok)) (k:Nat),l.map (·.1)=Txt.split a b->EP X pins σ Q (.ref s.heap.objs.size) { s with heap:=s.heap.push { cls:=.type "list", data:=.seq (strValues l).toArray },toks:=k }:=λl k e=>by
  refine⟨.ref s.heap.objs.size,_,I.laid (t':=k) (a:=s.heap.objs.size) (o:=.lst ((Txt.split a b).map V.str)) (λb ob z=>ZE _ z) (ZF _) ?_,J,q _ (I.aD.fresh (ZF _))⟩;refine⟨by rw[ZK];exact zs,strValues l,0,?_,ZY _ J⟩;rw[<- e];exact pQ l
 have met:∀{m},Meets _ m->_->wpAny (model X.prog X.w) X.A (call (.builtin "str.split") [.str a ta,.str b tb]) (EP X pins σ Q) X.xe s:=λhm hp=>call_meets F.slot_str_split (typeIs_str _ _ _) F.entry_str_split (F.args_str_split_2 _ _) hm hp;by_cases M:(decide (a.length<b.length)||decide (strKind a<strKind b))=true
 ·exact met (meets_str_split_cannot_occur a b ta tb M) (B [(a,ta)] s.toks (ZL M).symm)
 by_cases N:(occurrences a b 0 a.length (a.length+1)).isEmpty=true
 ·exact met (meets_str_split_not_found a b ta tb (eq_false_of_ne_true M) O N) (B [(a,ta)] s.toks ((ZJ M).trans (ZL N)).symm)
 refine met (meets_str_split_sep a b ta tb (eq_false_of_ne_true M) O (eq_false_of_ne_true N) U S) ?_;have z:=B (numbered s.toks (partsBetween a (occurrences a b 0 a.length (a.length+1)) b.length)) (s.toks+(partsBetween a (occurrences a b 0 a.length (a.length+1)) b.length).length) ((numbered_texts _ _).trans ((ZJ M).trans (ZJ N)).symm);rw[<- strsFrom_eq]at z;exact z
abbrev TJ:=St->Hp->Str->(Str->Hp->Prop)->Prop
def PJ(X:Cx)(es:List Expr)(t:TJ):Prop:=∀(pins:List (Addr×Obj)) (s:Shared) (σ:St) (H:Hp) (B:Str) (Q:Str->Hp->Prop),Inv X pins σ H s->t σ H B Q ->
 Joins (model X.prog X.w) X.A X.xe (evalEach es X.env) B (λout I=>∃ H',Inv X pins σ H' I/\Q out H') s
def Yf:TJ:=λ_ H B Q=>Q B H
def Yg(te:TE)(I:TJ):TJ:=λσ H B Q=>te σ H λv H1=>∃ y,aP (v = .str y) ((B++y).length<=sizeLine) (I σ H1 (B++y) Q)
def tJ(t:TJ):TE:=λσ H Q=>t σ H Str.empty λout H'=>out.length<=sizeLine/\Q (.str out) H'
def Yj(te:TE):TE:=λσ H Q=>te σ H λv H1=>∃ y,aP (v = .str y) (y.length<=sizeLine) (Q (.str y) H1)
def Bx:PJ X [] Yf:=λpins s σ H B Q I h=>Joins_nil ⟨H,I,h⟩
def mM(U:PE X e te)(hr:PJ X es tr):PJ X (e::es) (Yg te tr):=by
 intro pins s σ H W Q I h;refine Joins_cons (aV (U s σ H _ I h) ?_);rintro v B ⟨x,H1,Y,M,y,rfl,O,N⟩;obtain⟨t,rfl⟩:=M;exact⟨y,t,J,O,hr pins B σ H1 _ Q Y N⟩
theorem GO{M:Model}{A:Around}{E:VS}{ms:List (Sem Value)}{B:Str}{Q I:Str->Shared->Prop}{s:Shared}(k:∀ o s,Q o s->I o s)(h:Joins M A E ms B Q s):Joins M A E ms B I s:=by
 induction ms generalizing B s with
 | nil=>exact k _ _ h
 | cons m ms i=>exact WX h (by rintro _ _ ⟨y,t,e,z,r⟩;exact⟨y,t,e,z,i r⟩) λ_ _ e=>e
def wA(h:PJ X (M::e2::es) t):PE X (.JoinedStr (M::e2::es) pos) (tJ t):=λpins s σ H Q I hw=>
 wpAny_JoinedStr (GO (λout O ⟨H',N,B,q⟩=>⟨B,.str out,H',N.tok _,⟨_,J⟩,q⟩) (h pins s σ H Str.empty _ I hw))
def Pu(S:PE X e te):PE X (.FormattedValue e (-1) none pos) (Yj te):=λpins s σ H Q I h=>
 wpAny_FormattedValue_plain (aV (S s σ H _ I h) λv W ⟨x,H1,U,B,y,O,N,M⟩=>by
  subst O;obtain⟨t,rfl⟩:=B;exact SB.field_str (λt' k=>⟨.str y,H1,U.tok k,⟨_,J⟩,M⟩) N)
def C7(x:Str):It:=⟨λi _=>i<x.cps.size,λi H v H'=>H'=H /\ ∃ c,x.cps[i]? = some c/\v = .str ⟨#[c]⟩,λi _=>x.cps.size<=i⟩
def Ow{P:Program}{w:World}{K:Fg}{tg:Expr}(x:Str)(t:Tok)(B:Addr):Turn P w K tg (C7 x) [B] B (λi h=>h.IsStrIter B "str_ascii_iterator" x t i) where
 mem:=by simp
 obj:=λi h st b M=>by
  have e:b=B:=by simpa using M
  subst e;obtain⟨o,e,c,d⟩:=st;exact⟨o,e,λv z=>by rw[d]at z;cases z⟩
 keep:=λi h h' st k=>by
  obtain⟨o,e,c,d⟩:=st;exact⟨o,k B (by simp) o e,c,d⟩
 item:=by
  intro X W hw Y hc i pins s σ H E I S st O;subst W hw Y;obtain⟨f0,f1,f2,f3,f4,Z⟩:=S B (by simp);have hx:x.cps[i]? = some (x.cps[i]'O):=Array.getElem?_eq_getElem O;refine wpAny_pyNext_ascii_item st hx λh' N sb=>?_;have I1:Inv X pins σ H { s with heap:=h',toks:=s.toks+1 }:=I.turned (t':=s.toks+1) (λb o M e=>(sb.2 b M).trans e) f0 f1 f3 f4 Z;obtain⟨o,e,c,d⟩:=id N;exact⟨_,J,jM (s:={ s with heap:=h',toks:=s.toks+1 }) e c d ∅ ⟨.str ⟨#[x.cps[i]'O]⟩,H,I1,⟨_,J⟩,⟨J,_,hx,J⟩,N,λb M=>(S b M).1⟩⟩
 done:=by intro X W hw Y hc i pins s σ H E I S st O;subst W hw Y;obtain⟨f0,f1,f2,f3,f4,Z⟩:=S B (by simp);have U:x.cps.size<=i:=O;exact wpAny_pyNext_ascii_end (I.ok.hd hc) st (by simp[U]) λh' eb=>⟨J,I.turned (t':=s.toks) (λb o M e=>eb b o M e) f0 f1 f3 f4 Z⟩
 self:=λ_ _ _ _ _ st h=>wpAny_pyIter_striter_ascii st h
def Ei{P:Program}{w:World}{K:Fg}{tg:Expr}(x:Str)(t:Tok)(B:Addr):Turn P w K tg (C7 x) [B] B (λi h=>h.IsStrIter B "str_iterator" x t i) where
 mem:=by simp
 obj:=λi h st b M=>by
  have e:b=B:=by simpa using M
  subst e;obtain⟨o,e,c,d⟩:=st;exact⟨o,e,λv z=>by rw[d]at z;cases z⟩
 keep:=λi h h' st k=>by
  obtain⟨o,e,c,d⟩:=st;exact⟨o,k B (by simp) o e,c,d⟩
 item:=by
  intro X W hw Y hc i pins s σ H E I S st O;subst W hw Y;obtain⟨f0,f1,f2,f3,f4,Z⟩:=S B (by simp);have hx:x.cps[i]? = some (x.cps[i]'O):=Array.getElem?_eq_getElem O;refine wpAny_pyNext_wide_item st hx λh' N sb=>?_;have I1:Inv X pins σ H { s with heap:=h',toks:=s.toks+1 }:=I.turned (t':=s.toks+1) (λb o M e=>(sb.2 b M).trans e) f0 f1 f3 f4 Z;obtain⟨o,e,c,d⟩:=id N;exact⟨_,J,jM (s:={ s with heap:=h',toks:=s.toks+1 }) e c d ∅ ⟨.str ⟨#[x.cps[i]'O]⟩,H,I1,⟨_,J⟩,⟨J,_,hx,J⟩,N,λb M=>(S b M).1⟩⟩
 done:=by intro X W hw Y hc i pins s σ H E I S st O;subst W hw Y;obtain⟨f0,f1,f2,f3,f4,Z⟩:=S B (by simp);have U:x.cps.size<=i:=O;exact wpAny_pyNext_wide_end (I.ok.hd hc) st (by simp[U]) λh' eb=>⟨J,I.turned (t':=s.toks) (λb o M e=>eb b o M e) f0 f1 f3 f4 Z⟩
 self:=λ_ _ _ _ _ st h=>wpAny_pyIter_striter_wide st h
section
variable {tg:Expr}
def Ua(tl:TE):TI:=λσ H R=>tl σ H λv H1=>∃ x,v = .str x/\R (C7 x) H1
def By{l:Expr}{tl:TE}(W:PE X l tl):PI X tg l (Ua tl):=by
 intro pins s σ H R I h;refine aV (W s σ H _ I h) λv B ⟨Y,H1,N,S,U⟩=>?_;obtain⟨x,e,q⟩:=U;subst e;obtain⟨t,rfl⟩:=S;have M:∀ b∈[B.heap.objs.size],dP X pins H1 b:=λb M=>by
  have e:b=B.heap.objs.size:=by simpa using M
  subst e;exact N.lu (ZF _) (N.aD.fresh (ZF _))
 cases O:x.cps.all (·<128)
 ·refine wpAny_pyIter_wide O ?_;exact⟨B.heap.objs.size,[B.heap.objs.size],_,_,H1,J,N.kept (t':=B.toks) λb o e=>ZE _ e,Ei x t _,⟨_,ZY _ J,J,J⟩,M,q⟩
 ·refine wpAny_pyIter_ascii O ?_;exact⟨B.heap.objs.size,[B.heap.objs.size],_,_,H1,J,N.kept (t':=B.toks) λb o e=>ZE _ e,Ow x t _,⟨_,ZY _ J,J,J⟩,M,q⟩
end
def E6{x:Str}{g:Nat->V}{Te:V->Hp->(V->Hp->Prop)->Prop}{D:Addr}{H1:Hp}{R:Hp->Prop}
  (Z:H1 D=none) (hn:x.length<=sizeLine) (Y:∀ c∈x.cps.toList,∀(H:Hp)(Q:V->Hp->Prop),ag H1 H->Q (g c) H->Te (.str ⟨#[c]⟩) H Q) (U:R (upd H1 D (.lst (x.cps.toList.map g)))) :
  ∃ W:Nat->Nat->List V->Hp->Prop,(∃ m,W 0 m [] (upd H1 D (.lst []))) /\
   ∀ i m ys H2,W i m ys H2->H2 D=some (.lst ys)/\(((C7 x).stop i H2/\R H2)\/((C7 x).go i H2/\ys.length<sizeLine /\ ∃ N:V->Hp->Prop,(∀ y B,N y B->B D=some (.lst ys) /\ ∃ M,M<m/\W (i+1) M (ys++[y]) (upd B D (.lst (ys++[y])))) /\
    ∀ v H',(C7 x).fF i H2 v H'->Te v H' N)):=by
 have S:x.cps.toList.length=x.cps.size:=by simp
 have O:x.length=x.cps.size:=J;exists λi m ys H=>m=x.cps.size-i/\i<=x.cps.size/\ys=(x.cps.toList.take i).map g/\H=upd H1 D (.lst ys),⟨x.cps.size,by simp,ZX _,by simp,J⟩
 rintro i m ys H2 ⟨rfl,hi,I,rfl⟩;exists ax;by_cases c:i<x.cps.size
 ·right;exists c,?_,λy B=>y=g x.cps[i]/\B=upd H1 D (.lst ys),?_
  ·rw[I,ZK,WL];lia
  ·rintro y B ⟨rfl,rfl⟩;refine⟨ax,_,?_,J,c,?_,kX⟩
   ·lia
   ·rw[I,WK,WF];congr 1;rw[YC];simp[c]
  ·rintro v H' ⟨rfl,d,hd,rfl⟩;have e:d=x.cps[i]:=by rw[Array.getElem?_eq_getElem c]at hd;exact(am hd).symm
   subst e;exact Y _ (by simp) _ _ (aM Z _) ⟨J,J⟩
 ·left;exists Nat.le_of_not_lt c;have e:i=x.cps.size:={}
  rw[I,e,<- S,WR];exact U
set_option maxRecDepth 8000 in
open Builtin AutoSeq1 in
structure ac3(K:Fg)(mg:Mg)(al x:Str)(st:Stmt)(ps:List Str):Prop where
 ex:aO λ(f:Addr) (fd:FuncData)=>aP (lS K x x st f fd) ((∀ us:List Value,us.length=ps.length->bindArgs fd ⟨us,[]⟩=pure (ps.zip us))) (mg al=some (.ref f))
structure ig(K:Fg)(C:Addr)(m qual:Str)(st:Stmt)(ps:List Str):Prop where
 ex:aO λ(f:Addr) (fd:FuncData)=>aP (Meth K C m f) (lS K m qual st f fd) (∀ us:List Value,us.length=ps.length->bindArgs fd ⟨us,[]⟩=pure (ps.zip us))
structure ij(P:Program)(w:World)(K:Fg)(mg:Mg)(base:Heap)(k:Nat)(C:Addr)(m:Str)(ps:List Str)(sp:Sp):Prop where
 cl:nX K C
 ex:aO λ(f:Addr) (fd:FuncData)=>aP (Meth K C m f) (cC P w K mg base il k f fd ps sp) (Binds K fd ps [])
structure xO(K:Fg)(C:Addr)(qual:Str)(st:Stmt)(ps:List Str):Prop where
 ex:aO λ(f:Addr) (fd:FuncData)=>aP (Mk K C f) (lS K "__init__" qual st f fd) (∀ us:List Value,us.length=ps.length->bindArgs fd ⟨us,[]⟩=pure (ps.zip us))
structure xP(P:Program)(w:World)(K:Fg)(mg:Mg)(base:Heap)(k:Nat)(C:Addr)(ps:List Str)(sp:Sp):Prop where
 ex:aO λ(f:Addr) (fd:FuncData)=>aP (Mk K C f) (cC P w K mg base il k f fd ps sp) (Binds K fd ps [])
section
variable {P:Program}{w:World}{K:Fg}{mg:Mg}{base:Heap}{k:Nat}{C:Addr}{al x m qual:Str}{st:Stmt}{ps:List Str}{sp:Sp}
def ig.jd(d:ig K C m qual st ps)(c:nX K C)(F:∀(f:Addr)(fd:FuncData),lS K m qual st f fd->cC P w K mg base il k f fd ps sp):ij P w K mg base k C m ps sp:=by obtain⟨f,fd,h1,h2,B⟩:=d.ex;exact⟨c,f,fd,h1,F f fd h2,.all B⟩
def xO.jd(d:xO K C qual st ps)(F:∀(f:Addr)(fd:FuncData),lS K "__init__" qual st f fd->cC P w K mg base il k f fd ps sp):xP P w K mg base k C ps sp:=by obtain⟨f,fd,h1,h2,B⟩:=d.ex;exact⟨f,fd,h1,F f fd h2,.all B⟩
end
section
variable {k:Nat}{C:Addr}{m x:Str}{ps:List Str}{sp:Sp}{p apos pos:Pos}{o e:Expr}{es:List Expr}{to:TE}{t:TA}
def Bp{pl:Sem Bool}(c:ij X.prog X.w X.K X.mg X.base k C m ps sp)(hr:bK k X.A)(O:PE X o to)(S:PA X (e::es) t)
  (I:starEach (e::es) X.env=(false,eval e X.env)::starEach es X.env:=by rfl) (M:(backTo pos (starEach es X.env)).any (·.1)=false:=by rfl)
  (N:eval (.Call (.Attribute o m apos) (e::es) [] pos) X.env=(do
   let ov <- eval o X.env
   standAt apos.atName
   let (f,first) <- holding [ov] (getMethod ov m pl)
   callWith pos f first (backTo pos (starEach (e::es) X.env)) (backToKw pos (keywordEach [] X.env))):=by rfl) :
  PE X (.Call (.Attribute o m apos) (e::es) [] pos) (xX C m sp [] E0 to t):=by
 obtain⟨f,fd,hm,F,B⟩:=c.ex;exact wx O c.cl hm F hr B .nil qG S I M N
def yi(c:xP X.prog X.w X.K X.mg X.base k C ps sp)(hr:bK (k+1) X.A)(O:Gl X x)(hm:X.mg x=some (.ref C))(U:PA X (e::es) t)(N:(x==("__debug__" : Str))=false:=by decide)
  (S:starEach (e::es) X.env=(false,eval e X.env)::starEach es X.env:=by rfl) (I:(backTo pos (starEach es X.env)).any (·.1)=false:=by rfl) :
  PE X (.Call (.Name x p) (e::es) [] pos) (xY C sp [] E0 t):=by
 obtain⟨f,fd,M,F,B⟩:=c.ex;exact wz M F hr O hm B .nil qG U N S I
end
end L2
namespace L2
open PySem PySem.Spec PyProof.Rows PyProof.Rows.KTD
variable {X:Cx}
section
variable {prog:Program}{w:World}{A:Around}{E:VS}{s:Shared}{h₀:Heap}{a:Addr}{δ:Type}{R:δ->Value->Prop}{D:List (Str×δ)}{k:Str}{tk:Tok}
def p7(T:TabOf R h₀ a D)(O:∀ b o,h₀.get? b=some o->s.heap.get? b=some o)(h1:∀ d v,datumAt k D=some d->R d v->Q (some v) { s with toks:=s.toks+1 })
  (h2:datumAt k D=none->Q none { s with toks:=s.toks+1 }):wpAny (model prog w) A (dictGet a (.str k tk)) Q E s:=by
 obtain⟨hm,o,es,ep,I,U,hd,hr⟩:=T;have I:=O a o I;unfold dictGet;refine YU (ZA (wpAny_pyHash_str (ZA (kt_dictFind_strs I hd ?_ ?_))))
 ·obtain⟨l⟩:=es;simpa using hr.exact
 ·have hq:Q (findBy (λk v=>Value.isStr v k) es k) { s with toks:=s.toks+1 }:=by
   have S:findBy (λk v=>Value.isStr v k) es k=Option.map (λx=>DictEntry.val x) (List.find? (λe=>Value.isStr (DictEntry.key e) k) es.toList):=by obtain⟨l⟩:=es;simp[findBy]
   rw[S];cases B:datumAt k D with
   | none=>rw[hr.find_none B];exact h2 B
   | some d=>obtain⟨v,N,M⟩:=hr.find_some B;rw[N];exact h1 d v B M
  rw[findBy_of_findIdx? (λk v=>Value.isStr v k) es k]at hq;cases hi:Array.findIdx? (λe=>Value.isStr (DictEntry.key e) k) es with
  | none=>rw[hi]at hq;exact ZO hq
  | some i=>rw[hi]at hq;exact ZA (wpAny_dictEntries I hd (ZO hq))
def vr(T:TabOf R h₀ a D)(I:∀ b o,h₀.get? b=some o->s.heap.get? b=some o):s.TypeIs (.ref a) "dict" := by
 obtain⟨hm,o,es,ep,B,M,hd,hr⟩:=T;exact⟨o,I a o B,M.1⟩
def pP(T:TabOf R h₀ a D)(I:∀ b o,h₀.get? b=some o->s.heap.get? b=some o)(h:Q (.bool !inKeys k D) { s with toks:=s.toks+1 }):wpAny (model prog w) A (compareOp .NotIn (.str k tk) (.ref a)) Q E s:=by
 have ty:=vr T I;refine id (ZA (id (YU (ZA (wpAny_specialOf ty (Slot.lookup slot_dict_contains) (id ?_))))));rw[ZJ (by rw[beq_builtin_none "dict.__contains__"];exact fnt)];refine ZA (wpAny_callSpecialUnlessNone?_slot ty slot_dict_contains (YJ slot_dict_contains ty entry_dict_contains ?body (args_dict_contains (.ref a) (.str k tk))));show wpAny (model prog w) _ (bind (dictGet a (.str k tk)) _) _ _ _;refine ZA (p7 T I (λd v N x=>?_) λM=>?_)
 ·have B:inKeys k D=true:=by rw[<- isSome_datumAt,N];rfl
  rw[B]at h;exact id (ZO ⟨.bool true,J,YR (ZO h)⟩)
 ·have B:inKeys k D=false:=by rw[<- isSome_datumAt,M];rfl
  rw[B]at h;exact id (ZA (wpAny_pendingKey_other T.1 (ZO ⟨.bool false,J,YR (ZO h)⟩)))
def AU(T:TabOf R h₀ a D)(I:∀ b o,h₀.get? b=some o->s.heap.get? b=some o)(hd:datumAt k D=some d)(h:∀ v,R d v->Q v { s with toks:=s.toks+1 }) :
  wpAny (model prog w) A (getItem (.ref a) (.str k tk)) Q E s:=by
 have ty:=vr T I;refine id (YU (ZA (wpAny_sequenceKey ty (ZI (id (Eq.refl true))) (ZA (YE ty slot_dict_getitem (YJ slot_dict_getitem ty entry_dict_getitem ?body (args_dict_getitem (.ref a) (.str k tk))))))));show wpAny (model prog w) _ (bind (dictGet a (.str k tk)) _) _ _ _;refine ZA (p7 T I (λd' v M N=>?_) λB=>?_)
 ·rw[hd]at M;obtain rfl:=am M;exact ZO ⟨v,J,ZO (h v N)⟩
 ·rw[hd]at B;cases B
end
def sX(K:Fg)(a:Addr)(D:List (Str×Addr)):Prop:=tabLook (λ(d:Addr) (v:Value)=>v == .ref d) (λb=>List.lookup b K) a D=true
def sX.at{s:Shared}(I:Inv X pins σ H s)(t:sX X.K a D):TabOf (λ(d:Addr) (v:Value)=>v = .ref d) s.heap a D:=
 tab_of_look (L:=λ(d:Addr) (v:Value)=>v == .ref d) (λd v h=>by simpa using h) (λb o h=>I.d8 b o h) t
inductive Ov(K:Fg)(x:V)(y:V)(H:Hp)(Q:VK):Prop
 |mk(k:Str)(a:Addr)(D:List (Str×Addr))(_:x = .str k)(_:y = .ref a)(_:sX K a D)(_:Q (.bl (!inKeys k D)) H)
def MY:cy X (compareOp .NotIn) (Ov X.K):=by intro pins s σ H x y v u Q I M B h;obtain⟨k,a,D,rfl,rfl,t,q⟩:=h;obtain⟨tk,rfl⟩:=M;cases B;exact pP (t.at I) (λ_ _ z=>z) ⟨.bl (!inKeys k D),H,I.tok _,J,q⟩
inductive tm(K:Fg)(x:V)(y:V)(H:Hp)(Q:VK):Prop
 |mk(a:Addr)(k:Str)(D:List (Str×Addr))(d:Addr)(_:x = .ref a)(_:y = .str k)(_:sX K a D)(_:datumAt k D=some d)(_:Q (.ref d) H)
def MX:ow X (tm X.K):=by
 intro value slice pins s σ H x y v u Q I M B h hs;obtain⟨a,k,D,d,rfl,rfl,t,hd,q⟩:=h;cases M;obtain⟨tk,rfl⟩:=B;exact tail_any (vr (t.at I) (λ_ _ z=>z)) slot_dict_getitem.lookup (AU (t.at I) (λ_ _ z=>z) hd λv N=>by
  rw[N];exact⟨.ref d,H,I.tok _,J,q⟩) hs
def vU(B:X.xe=λ_ _=>False)(M:jf X body u):PS X (.Try body (O::hs) [] [] pos) u:=by
 intro pins s σ H D I h;refine wpAny_Try_except (WX (M s σ H D I h) (λf N q=>?_) λ_ _ z=>?_)
 ·cases f with
  | next=>exact wpAny_execs_nil q
  | ret v=>exact q
  | brk=>exact q
  | cont=>exact q
 ·rw[B]at z;exact z.elim
section
variable {prog:Program}{w:World}{A:Around}{E:VS}{s:Shared}
def MW{k1 k2:Nat}(D:ZipApart z m n i1 i2 l1 l2)(e0:IsZip s.heap z m n .none)(em:IsPair s.heap m (.ref i1) (.ref i2))(en:IsPair s.heap n a b)
  (e1:s.heap.IsTupleIter i1 l1 k1) (e2:s.heap.IsListIter i2 l2 k2) (t1:s.heap.IsTuple l1 us) (t2:s.heap.IsList l2 ys) (hx:us[k1]? = some x) (hy:ys[k2]? = some y)
  (k:∀ h',IsZip h' z m n (rawInt s.heap.objs.size)->IsPair h' n x y->h'.IsTupleIter i1 l1 (k1+1)->h'.IsListIter i2 l2 (k2+1)->IsPair h' s.heap.objs.size x y->(∀ c o,c≠z->c≠n->c≠i1->c≠i2->s.heap.get? c=some o->h'.get? c=some o)->Q (some (.ref s.heap.objs.size)) { s with heap:=h' }) :
  wpAny (model prog w) A (pyNext (.ref z)) Q E s:=by
 have ty:s.TypeIs (.ref z) "zip" := ⟨_,e0,J⟩
 unfold pyNext;refine ZA (wpAny_attempt (YE (name:=Str.ofString "__next__") ty F.slot_zip_next (YJ F.slot_zip_next ty F.entry_zip_next ?_ (F.args_zip_next_1 _))));obtain⟨Y,g,d,tk,os⟩:=s;show wpAny _ _ (field (.ref z) 2 >>= _) _ _ ⟨Y,g,d,tk,os⟩;refine ZA (YD e0 J (x:=.bool false) J ?_);show wpAny _ _ (field (.ref z) 3 >>= _) _ _ ⟨Y,g,d,tk,os⟩;refine ZA (YD e0 J (x:=.ref m) J (ZA (wpAny_seqItems em J ?_)));show wpAny _ _ (Builtin.SmallTypes.ownedTupleIsFree (.ref z) >>= _) _ _ ⟨Y,g,d,tk,os⟩;refine ZA ?_;unfold Builtin.SmallTypes.ownedTupleIsFree;refine ZA (YD e0 J (x:=.none) J (ZO ?_));simp only[if_true];refine ZA (wpAny_rule (ZA (YD e0 J (x:=.ref n) J (ZA (YK e0 (by simp) λh1 z1 U=>?_)))));replace U:Heap.SameBut z Y h1:=U;replace z1:IsZip h1 z m n .ellipsis:=z1;refine ZA ?_;simp only[List.zipIdx_cons,List.zipIdx_nil,List.forIn_cons,List.forIn_nil];refine ZA (ZA (wpAny_onRaise ?_));show wpAny _ _ (Builtin.SmallTypes.nextOf (.ref i1) >>= _) _ _ ⟨h1,g,d,tk,os⟩;have f1:h1.IsTupleIter i1 l1 k1:=by obtain⟨o,q,r⟩:=e1;exact⟨o,U.extBut _ _ D.i1z q,r⟩
 have f2:h1.IsTuple l1 us:=by obtain⟨o,q,r⟩:=t1;exact⟨o,U.extBut _ _ D.l1z q,r⟩
 refine ZA (GP f1 f2 hx λh2 n2 s2=>ZO ?_);replace s2:Heap.SameBut i1 h1 h2:=s2;have XI:IsPair h2 n a b:=s2.extBut _ _ D.TOi1 (U.extBut _ _ D.TOz en);refine ZA (wpAny_seqItems XI J (ZA (wpAny_updateSeq_pair XI λW Z s3=>ZA (wpAny_letGo (ZO ?_)))));replace s3:Heap.SameBut n h2 W:=s3;replace Z:IsPair W n x b:=Z;refine ZA (ZA (wpAny_onRaise ?_));show wpAny _ _ (Builtin.SmallTypes.nextOf (.ref i2) >>= _) _ _ ⟨W,g,d,tk,os⟩;have up:∀ c o,c≠z->c≠i1->c≠n->Y.get? c=some o->W.get? c=some o:=λc o M m2 m3 q=>s3.extBut _ _ m3 (s2.extBut _ _ m2 (U.extBut _ _ M q));have g1:W.IsListIter i2 l2 k2:=by obtain⟨o,q,r⟩:=e2;exact⟨o,up _ _ D.i2z D.i12.symm D.TOi2.symm q,r⟩
 have g2:W.IsList l2 ys:=by obtain⟨o,q,r⟩:=t2;exact⟨o,up _ _ D.l2z D.l2i1 D.l2TO q,r⟩
 refine ZA (wpAny_nextOf_list_item g1 g2 hy λh4 n4 S=>ZO ?_);replace S:Heap.SameBut i2 W h4:=S;have XH:IsPair h4 n x b:=S.extBut _ _ D.TOi2 Z;refine ZA (wpAny_seqItems XH J (ZA (wpAny_updateSeq_pair XH λB N O=>ZA (wpAny_letGo (ZO (ZO ?_))))));replace O:Heap.SameBut n h4 B:=O;replace N:IsPair B n x y:=N;refine ZA (wpAny_seqItems N J (ZA (wpAny_newTuple ?_)));have sz:B.objs.size=Y.objs.size:=by rw[O.1,S.1,s3.1,s2.1,U.1]
 have X5:∀ c o,c≠z->c≠n->c≠i1->c≠i2->Y.get? c=some o->B.get? c=some o:=λc o M m2 m3 m4 q=>O.extBut _ _ m2 (S.extBut _ _ m4 (up c o M m3 m2 q));have z5:IsZip B z m n .ellipsis:=O.extBut _ _ D.TOz.symm (S.extBut _ _ D.i2z.symm (s3.extBut _ _ D.TOz.symm (s2.extBut _ _ D.i1z.symm z1)));have zl:z<B.objs.size:=ZW z5;show wpAny _ _ (Builtin.SmallTypes.ownedTupleHandOut (.ref z) (.ref B.objs.size) >>= _) _ _ ⟨B.push { cls:=.type "tuple", data:=.seq #[x,y] },g,d,tk,os⟩;refine ZA ?_;unfold Builtin.SmallTypes.ownedTupleHandOut;refine ZA (YK (ZE _ z5) (by simp) λh7 z7 s7=>?_);replace z7:IsZip h7 z m n (rawInt B.objs.size):=z7;refine YK z7 (by simp) λh8 z8 s8=>ZO ⟨_,J,ZO ?_⟩;replace z8:IsZip h8 z m n (rawInt B.objs.size):=z8;have I:∀ c o,c≠z->B.get? c=some o->h8.get? c=some o:=λc o M q=>s8.extBut _ _ M (s7.extBut _ _ M (ZE _ q));have t8:IsPair h8 B.objs.size x y:=s8.extBut _ _ (Nat.ne_of_gt zl) (s7.extBut _ _ (Nat.ne_of_gt zl) (ZY _ J));rw[sz]at z8 t8;show Q (some (.ref B.objs.size)) _;rw[sz];refine k h8 z8 (I _ _ D.TOz N) ?_ ?_ t8 λc o M m2 m3 m4 q=>I c o M (X5 c o M m2 m3 m4 q)
 ·obtain⟨o,q,r⟩:=n2;exact⟨o,I _ _ D.i1z (O.extBut _ _ D.TOi1.symm (S.extBut _ _ D.i12 (s3.extBut _ _ D.TOi1.symm q))),r⟩
 ·obtain⟨o,q,r⟩:=n4;exact⟨o,I _ _ D.i2z (O.extBut _ _ D.TOi2.symm q),r⟩
def ox{S:Nat}(hh:A.handled=none)(D:ZipApart z m n i1 i2 l1 l2)(B:IsZip s.heap z m n .none)(em:IsPair s.heap m (.ref i1) (.ref i2))
  (e1:s.heap.IsTupleIter i1 l1 S) (t1:s.heap.IsTuple l1 us) (hx:us[S]? = none)
  (k:∀ h',(∀ c o,c≠z->c≠i1->s.heap.get? c=some o->h'.get? c=some o)->Q none { s with heap:=h' }):wpAny (model prog w) A (pyNext (.ref z)) Q E s:=by
 have ty:s.TypeIs (.ref z) "zip" := ⟨_,B,J⟩
 unfold pyNext;refine ZA (wpAny_attempt (YE (name:=Str.ofString "__next__") ty F.slot_zip_next (YJ F.slot_zip_next ty F.entry_zip_next ?_ (F.args_zip_next_1 _))));obtain⟨M,g,d,tk,os⟩:=s;show wpAny _ _ (field (.ref z) 2 >>= _) _ _ ⟨M,g,d,tk,os⟩;refine ZA (YD B J (x:=.bool false) J ?_);show wpAny _ _ (field (.ref z) 3 >>= _) _ _ ⟨M,g,d,tk,os⟩;refine ZA (YD B J (x:=.ref m) J (ZA (wpAny_seqItems em J ?_)));show wpAny _ _ (Builtin.SmallTypes.ownedTupleIsFree (.ref z) >>= _) _ _ ⟨M,g,d,tk,os⟩;refine ZA ?_;unfold Builtin.SmallTypes.ownedTupleIsFree;refine ZA (YD B J (x:=.none) J (ZO ?_));simp only[if_true];refine ZA (wpAny_rule (ZA (YD B J (x:=.ref n) J (ZA (YK B (by simp) λh1 N I=>?_)))));replace I:Heap.SameBut z M h1:=I;replace N:IsZip h1 z m n .ellipsis:=N;refine ZA ?_;simp only[List.zipIdx_cons,List.zipIdx_nil,List.forIn_cons,List.forIn_nil];refine ZA (ZA (wpAny_onRaise ?_));show wpAny _ _ (Builtin.SmallTypes.nextOf (.ref i1) >>= _) _ _ ⟨h1,g,d,tk,os⟩;have f1:h1.IsTupleIter i1 l1 S:=by obtain⟨o,q,r⟩:=e1;exact⟨o,I.extBut _ _ D.i1z q,r⟩
 have f2:h1.IsTuple l1 us:=by obtain⟨o,q,r⟩:=t1;exact⟨o,I.extBut _ _ D.l1z q,r⟩
 refine ZA (pR hh f1 f2 hx λh2 e Y he=>?_);obtain⟨oe,O,Z⟩:=he;have U:IsZip h2 z m n .ellipsis:=Y _ _ D.i1z.symm N;have ne:e≠z:=λx=>by subst x;rw[U]at O;cases O;simp at Z
 refine YK U (by simp) λh3 _ W=>ZA (wpAny_isInstance (T := "StopIteration") (b:=true) ⟨oe,W.extBut _ _ ne O,Z⟩ isSubtype_stop (ZO (k h3 λc o m1 m2 q=>W.extBut _ _ m1 (Y _ _ m2 (I.extBut _ _ m1 q)))))
end
def tE(K:Fg)(a b:Addr):It:=
 ⟨λi H=>ik λxs ys x y=>cP (au K H a xs) (ao K H b ys) (xs[i]? = some x) (ys[i]? = some y),
  λi H x H'=>bR λp u v=>dw (x = .ref p) (H p=none) (H'=upd H p (.tup [u,v])) ((∀ xs,au K H a xs->xs[i]? = some u)) (∀ ys,ao K H b ys->ys[i]? = some v),
  λi H=>aO λxs ys=>aP (au K H a xs) (ao K H b ys) (xs.length<=i)⟩
def Eg{P:Program}{w:World}{K:Fg}{es:List Expr}{x1:Nat}{pos:Pos}(a b z m n M B:Addr)(O:ZipApart z m n M B a b) :
  Turn P w K (.Tuple es x1 pos) (tE K a b) [z,m,n,M,B] z (λi h=>IsZip h z m n .none/\IsPair h m (.ref M) (.ref B)/\(aO λc d=>IsPair h n c d)/\h.IsTupleIter M a i/\h.IsListIter B b i) where
 mem:=by simp
 obj:=λi h st c N=>by
  obtain⟨q1,S,⟨_,_,q3⟩,⟨o4,Z,_,d4⟩,⟨o5,q5,_,d5⟩⟩:=st;have xh:c=z\/c=m\/c=n\/c=M\/c=B:=by simpa using N
  rcases xh with rfl | rfl | rfl | rfl | rfl
  ·exact⟨_,q1,λv y=>by cases y⟩
  ·exact⟨_,S,λv y=>by cases y⟩
  ·exact⟨_,q3,λv y=>by cases y⟩
  ·exact⟨o4,Z,λv y=>by rw[d4]at y;cases y⟩
  ·exact⟨o5,q5,λv y=>by rw[d5]at y;cases y⟩
 keep:=λi h h' st k=>by
  obtain⟨q1,S,⟨c,d,q3⟩,⟨o4,Z,r4⟩,⟨o5,q5,r5⟩⟩:=st;exact⟨k z (by simp) _ q1,k m (by simp) _ S,⟨c,d,k n (by simp) _ q3⟩,⟨o4,k M (by simp) _ Z,r4⟩,⟨o5,k B (by simp) _ q5,r5⟩⟩
 item:=by
  intro X hP hw hK N i pins s σ H E I hf st hg;subst hP hw hK;obtain⟨q1,S,⟨ca,da,q3⟩,Z,q5⟩:=st;obtain⟨xs,ys,x,y,W,UA,hx,hy⟩:=hg;obtain⟨rj,rv,p,hz⟩:=I.tuple W;obtain⟨Zl,Wq,p2,Zn⟩:=I.list UA;obtain⟨u,hu,ru⟩:=rv.get hx;obtain⟨v,hv,Yx⟩:=Wq.get hy;have lz:∀ c∈[z,m,n,M,B],c<s.heap.objs.size:=λc N=>by
   have xh:c=z\/c=m\/c=n\/c=M\/c=B:=by simpa using N
   obtain⟨o4,w4,_⟩:=Z;obtain⟨o5,w5,_⟩:=q5;rcases xh with rfl | rfl | rfl | rfl | rfl
   ·exact ZW q1
   ·exact ZW S
   ·exact ZW q3
   ·exact ZW w4
   ·exact ZW w5
  refine MW O q1 S q3 Z q5 p p2.isList (x:=u) (y:=v) (by simpa using hu) (by simpa using hv) λh1 a1 a2 a3 a4 a5 a7=>⟨_,J,?_⟩
  refine wpAny_letOwnedTupleGo_zip a1 λh2 e2 Y=>?_;replace Y:Heap.SameBut z h1 h2:=Y;have nz:s.heap.objs.size≠z:=Nat.ne_of_gt (lz z (by simp));have t2:h2.get? s.heap.objs.size=some { cls:=.type "tuple", data:=.seq #[u,v] }:=(Y.2 _ nz).trans a5;have U:∀ c o,c ∉ [z,m,n,M,B]->s.heap.get? c=some o->h2.get? c=some o:=λc o w q=>by
   have m':¬(c=z\/c=m\/c=n\/c=M\/c=B):=by simpa using w
   exact(Y.2 c (λy=>m' (.inl y))).trans (a7 c o (λy=>m' (.inl y)) (λy=>m' (.inr (.inr (.inl y)))) (λy=>m' (.inr (.inr (.inr (.inl y))))) (λy=>m' (.inr (.inr (.inr (.inr y))))) q)
  have fr:H s.heap.objs.size=none:=I.aD.fresh (ZF _);have CD:∀ c,H c≠none->c ∉ [z,m,n,M,B]:=λc m N=>m (hf c N).1;have un:Un (gF X.stack) [z,m,n,M,B] H (upd H s.heap.objs.size (.tup [x,y])) s.heap h2:=by
   have np:∀ c o,s.heap.get? c=some o->c≠s.heap.objs.size:=λc o q=>WN (ZW q);exact⟨λc o q _ _ m=>U c o m q,λc o q _ _ m=>⟨o.slots,U c o m q⟩,λc o q m _=>by rw[bC (np c o q)];exact m,λc o q m=>⟨o,U c o m q⟩,
    λc ys q=>by rw[bC (cO q fr)];exact q,λc o v q=>by rw[bC (cO q fr)];exact q,λc ps q=>⟨#[],by rw[bC (cO q fr),q];simp⟩⟩
  have aD:c9 X.prog X.w (upd H s.heap.objs.size (.tup [x,y])) h2:=λc ob e=>by
   by_cases hb:c=s.heap.objs.size
   ·subst hb;rw[ax]at e;cases e;exact⟨aZ J,[u,v],.cons ru (.cons Yx .nil),⟨_,t2,J,_,J⟩⟩
   ·rw[bC hb]at e;refine(I.aD c ob e).dY (λc' v z q=>?_) (λc q=>by rw[bC (cO q fr)];exact q) λc ys q=>by rw[bC (cO q fr)];exact q
    have m:H c'≠none:=by
     rcases z with rfl | z
     ·rw[e];exact λy=>nomatch y
     ·rw[z];exact λy=>nomatch y
    exact U c' v (CD c' m) q
  have JJ:Inv X pins σ (upd H s.heap.objs.size (.tup [x,y])) { s with heap:=h2 }:=by
   refine I.iB (s':={ s with heap:=h2 }) (ch:=[z,m,n,M,B]) J un aD I.bare λc N=>?_;obtain⟨_,g1,_,g3,g4,g5⟩:=hf c N;exact⟨g3,g1,g4,g5⟩
  refine⟨.ref s.heap.objs.size,_,JJ,J,⟨s.heap.objs.size,x,y,J,fr,J,λzs hz=>by rw[I.eV hz W];exact hx,λzs hz=>by rw[I.jH hz UA];exact hy⟩,⟨e2,?_,⟨u,v,(Y.2 n O.TOz).trans a2⟩,?_,?_⟩,λc N=>?_⟩
  ·exact(Y.2 m O.TIz).trans (a7 m _ O.TIz O.TITO O.TIi1 O.TIi2 S)
  ·obtain⟨o,q,r⟩:=a3;exact⟨o,(Y.2 M O.i1z).trans q,r⟩
  ·obtain⟨o,q,r⟩:=a4;exact⟨o,(Y.2 B O.i2z).trans q,r⟩
  ·rw[bC (WN (lz c N))];exact(hf c N).1
 done:=by
  intro X hP hw hK N i pins s σ H E I hf st hg;subst hP hw hK;obtain⟨q1,S,⟨ca,da,q3⟩,Z,q5⟩:=st;obtain⟨xs,ys,W,UA,hx⟩:=hg;obtain⟨rj,rv,p,hz⟩:=I.tuple W;have l1:=rv.length;refine ox (I.ok.hd N) O q1 S Z p (by simp;lia) λh' a7=>⟨J,?_⟩
  have U:∀ c o,c ∉ [z,m,n,M,B]->s.heap.get? c=some o->h'.get? c=some o:=λc o w q=>by
   have m':¬(c=z\/c=m\/c=n\/c=M\/c=B):=by simpa using w
   exact a7 c o (λy=>m' (.inl y)) (λy=>m' (.inr (.inr (.inr (.inl y))))) q
  have CD:∀ c,H c≠none->c ∉ [z,m,n,M,B]:=λc m N=>m (hf c N).1;have un:Un (gF X.stack) [z,m,n,M,B] H H s.heap h':=
   ⟨λc o q _ _ m=>U c o m q,λc o q _ _ m=>⟨o.slots,U c o m q⟩,λc o q m _=>m,λc o q m=>⟨o,U c o m q⟩,λc ys q=>q,λc o v q=>q,λc ps q=>⟨#[],by rw[q];simp⟩⟩
  have aD:c9 X.prog X.w H h':=λc ob e=>by
   refine(I.aD c ob e).dY (λc' v z q=>?_) (λc q=>q) λc ys q=>q;have m:H c'≠none:=by
    rcases z with rfl | z
    ·rw[e];exact λy=>nomatch y
    ·rw[z];exact λy=>nomatch y
   exact U c' v (CD c' m) q
  refine I.iB (s':={ s with heap:=h' }) (ch:=[z,m,n,M,B]) J un aD I.bare λc N=>?_;obtain⟨_,g1,_,g3,g4,g5⟩:=hf c N;exact⟨g3,g1,g4,g5⟩
 self:=λ_ _ _ _ _ st h=>wpAny_pyIter_zip st.1 h
section
variable {es:List Expr}{x1:Nat}{oH:Pos}
noncomputable abbrev KD(h:Heap)(a:Addr):Heap:=h.push { cls:=.type "tuple_iterator", data:=.fields #[.ref a,.int 0 0] }
noncomputable abbrev KC(h:Heap)(a b:Addr):Heap:=(KD h a).push { cls:=.type "list_iterator", data:=.fields #[.ref b,.int 0 0] }
noncomputable abbrev KA(h:Heap)(a b:Addr):Heap:=(KC h a b).push { cls:=.type "tuple", data:=.seq #[.ref h.objs.size,.ref (KD h a).objs.size] }
noncomputable abbrev Kz(h:Heap)(a b:Addr):Heap:=(KA h a b).push { cls:=.type "tuple", data:=.seq #[.none,.none] }
noncomputable abbrev Cr(h:Heap)(a b:Addr):Heap:=(Kz h a b).push { cls:=.type "zip", data:=.fields #[.none,.bool false,.bool false,.ref (KC h a b).objs.size,.ref (KA h a b).objs.size] }
def qS(B I:Addr)(xs ys:Array Value):Meets (Builtin.«zip.__new__» ⟨[.type "zip", .ref B,.ref I],[]⟩) (λ_ R s=>s.heap.IsTuple B xs/\s.heap.IsList I ys/\R (.ok (.ret (.ref (Kz s.heap B I).objs.size))) { s with heap:=Cr s.heap B I }):=
 .of_wp λprog w A R s h=>by
  obtain⟨hp,g,d,tk,os⟩:=s;obtain⟨U,S,h⟩:=h;have M:=sub_zip;have O:Heap.IsTuple (Shared.heap ⟨hp,g,d,tk,os⟩) B xs:=U;have N:Heap.IsList (Shared.heap ⟨hp.push { cls:=.type "tuple_iterator", data:=.fields #[.ref B,.int 0 0] },g,d,tk,os⟩) I ys:=Heap.IsList.push S _
  wp_walk using wpAny_pyIter_tuple O,wpAny_pyIter_list N
  exact⟨_,J,h⟩
def zQ{prog:Program}{w:World}{A:Around}{E:VS}{s:Shared}(h1:s.heap.IsTuple a xs)(h2:s.heap.IsList b ys)
  (k:∀ h',IsZip h' (s.heap.objs.size+4) (s.heap.objs.size+2) (s.heap.objs.size+3) .none->IsPair h' (s.heap.objs.size+2) (.ref s.heap.objs.size) (.ref (s.heap.objs.size+1))->IsPair h' (s.heap.objs.size+3) .none .none->h'.IsTupleIter s.heap.objs.size a 0 ->
   h'.IsListIter (s.heap.objs.size+1) b 0->(∀ c o,s.heap.get? c=some o->h'.get? c=some o)->Q (.ref (s.heap.objs.size+4)) { s with heap:=h' }):wpAny (model prog w) A (call (.type "zip") [.ref a,.ref b]) Q E s:=by
 refine callType_new F.called_zip ∅ (F.typeCall_zip_2 _ _) (F.newCall_zip_2 _ _) (λN=>F.args_object_init_3 N _ _) F.entry_zip_new (qS a b xs ys) ⟨h1,h2,?_⟩;have M:(KD s.heap a).objs.size=s.heap.objs.size+1:=Heap.size_push ..;have I:(KC s.heap a b).objs.size=s.heap.objs.size+2:=by rw[Heap.size_push,M]
 have B:(KA s.heap a b).objs.size=s.heap.objs.size+3:=by rw[Heap.size_push,I]
 have S:(Kz s.heap a b).objs.size=s.heap.objs.size+4:=by rw[Heap.size_push,B]
 have O:(Cr s.heap a b).get? (Kz s.heap a b).objs.size=some _:=ZY _ J;have U:(Cr s.heap a b).get? (KA s.heap a b).objs.size=some _:=ZE _ (ZY _ J);have W:(Cr s.heap a b).get? (KC s.heap a b).objs.size=some _:=ZE _ (ZE _ (ZY _ J));have Y:(Cr s.heap a b).get? (KD s.heap a).objs.size=some _:=ZE _ (ZE _ (ZE _ (ZY _ J)));have Z:(Cr s.heap a b).get? s.heap.objs.size=some _:=ZE _ (ZE _ (ZE _ (ZE _ (ZY _ J))));show _/\_;rw[I,B,S]at O;rw[M,I]at W;rw[B]at U;rw[M]at Y;rw[S];exact⟨⟨_,O,J⟩,k _ O W U ⟨_,Z,J,J⟩ ⟨_,Y,J,J⟩ λc o x=>ZE _ (ZE _ (ZE _ (ZE _ (ZE _ x))))⟩
def Jv(K:Fg)(ta:TA):TI:=λσ H R=>ta σ H λvs H1=>aO λa b=>cP (vs=[.ref a,.ref b]) ((∃ xs,au K H1 a xs)) ((∃ ys,ao K H1 b ys)) (R (tE K a b) H1)
def wm{l M:Expr}{ta:TA}{p pos:Pos}(hg:Gl X "zip") (hm:X.mg "zip" = none) (ha:PA X [l,M] ta) (hs:starEach [l,M] X.env=[(false,eval l X.env),(false,eval M X.env)]:=by rfl) (N:starEach [M] X.env=[(false,eval M X.env)]:=by rfl) :
  PI X (.Tuple es x1 oH) (.Call (.Name "zip" p) [l,M] [] pos) (Jv X.K ta):=by
 intro pins s σ H R I h;refine Call_ (qd I hg hm boot_zip (PyProof.Rows.callWith_type1 (aV (ha pins s σ H _ I h) λus B ⟨vs,H1,S,r1,q1⟩=>?_) (by rw[hs,N]) (by rw[N];rfl)));obtain⟨a,b,e,⟨xs,Y⟩,⟨ys,W⟩,q⟩:=q1;subst e;cases r1 with
 | cons r U=>
  cases U with
  | cons r' U=>
   cases U;cases r;cases r';obtain⟨rj,rv,p,hz⟩:=S.tuple Y;obtain⟨Z,Wq,p2,Zn⟩:=S.list W;have la:a<B.heap.objs.size:=by obtain⟨_,e,_⟩:=p;exact ZW e
   have lb:b<B.heap.objs.size:=by obtain⟨_,e,_⟩:=p2.isList;exact ZW e
   refine zQ p p2.isList λh' e1 e2 e3 e4 e5 k=>wpAny_pyIter_zip e1 ?_;have I2:Inv X pins σ H1 { B with heap:=h' }:=S.kept (t':=B.toks) k;refine⟨B.heap.objs.size+4,_,_,_,H1,J,I2,Eg a b _ _ _ _ _ (zipApart_new la lb),⟨e1,e2,⟨_,_,e3⟩,e4,e5⟩,λc hc=>?_,q⟩;have O:B.heap.objs.size<=c:=by
    have z:c=B.heap.objs.size+4\/c=B.heap.objs.size+2\/c=B.heap.objs.size+3\/c=B.heap.objs.size\/c=B.heap.objs.size+1:=by simpa using hc
    rcases z with z | z | z | z | z
    ·rw[z];exact Nat.le_add_right _ _
    ·rw[z];exact Nat.le_add_right _ _
    ·rw[z];exact Nat.le_add_right _ _
    ·rw[z];exact ZF _
    ·rw[z];exact Nat.le_add_right _ _
   exact S.lu O (S.aD.fresh O)
def Ou{K:Fg}{a b:Addr}{xs zs:List V}{Y:V->Hp->(V->Hp->Prop)->(Hp->Prop)->Prop}{D:Addr}{H1:Hp}{R:Hp->Prop}(hn:xs.length<=sizeLine)(hxz:xs.length=zs.length)(Pv:Nat->List V->Hp->Prop)(h0:Pv 0 [] (upd H1 D (.lst [])))
  (hl:∀ i ys H,Pv i ys H->au K H a xs/\ao K H b zs) (hD:∀ i ys H,Pv i ys H->H D=some (.lst ys)/\ys.length<=i)
  (hs:∀ i x z ys H p,xs[i]? = some x->zs[i]? = some z->Pv i ys H->H p=none->Y (.ref p) (upd H p (.tup [x,z])) (λy B=>B D=some (.lst ys)/\Pv (i+1) (ys++[y]) (upd B D (.lst (ys++[y])))) (Pv (i+1) ys))
  (hd:∀ ys H,Pv xs.length ys H->R H) :
  ∃ W:Nat->Nat->List V->Hp->Prop,(∃ m,W 0 m [] (upd H1 D (.lst []))) /\
   ∀ i m ys H2,W i m ys H2->H2 D=some (.lst ys)/\(((tE K a b).stop i H2/\R H2)\/((tE K a b).go i H2/\ys.length<sizeLine/\aO λ(N:V->Hp->Prop) (Z:Hp->Prop)=>aP ((∀ y B,N y B->B D=some (.lst ys) /\ ∃ M,M<m/\W (i+1) M (ys++[y]) (upd B D (.lst (ys++[y]))))) ((∀ B,Z B -> ∃ M,M<m/\W (i+1) M ys B)) (∀ x H',(tE K a b).fF i H2 x H'->Y x H' N Z))):=by
 exists λi m ys H=>m=xs.length-i/\i<=xs.length/\Pv i ys H,⟨xs.length,by simp,ZX _,h0⟩
 rintro i m ys H2 ⟨rfl,hi,p⟩;obtain⟨d1,d2⟩:=hD i ys H2 p;obtain⟨U,S⟩:=hl i ys H2 p;exists d1;by_cases I:i<xs.length
 ·have O:i<zs.length:={}
  refine .inr ⟨⟨xs,zs,xs[i],zs[i],U,S,by simp[I],by simp[O]⟩,{},λy B=>B D=some (.lst ys)/\Pv (i+1) (ys++[y]) (upd B D (.lst (ys++[y]))),Pv (i+1) ys,λy B ⟨z1,z2⟩=>⟨z1,xs.length-(i+1),{},J,I,z2⟩,λB z=>⟨xs.length-(i+1),{},J,I,z⟩,λx H' y=>?_⟩;obtain⟨pp,u,v,rfl,e2,rfl,y1,y2⟩:=y;exact hs i u v ys _ pp (y1 xs U) (y2 zs S) p e2
 ·have e:i=xs.length:={}
  subst e;exact .inl ⟨⟨xs,zs,U,S,ZF _⟩,hd ys H2 p⟩
end
def bK.m{j k:Nat}(r:bK k A)(h:j<=k:=by decide):bK j A:=r.mono h
def a_{N P:List Str}{sc:Scope}(h1:sc.kind = .function:=by rfl)(h2:sc.isCoroutine=false:=by rfl)(S:sc.isGenerator=false:=by rfl)(O:N.Nodup:=by decide +kernel)(M:N.take P.length=P:=by rfl)(I:∀ x∈P,sc.names.lookup x=some .local\/sc.names.lookup x=some .cell:=by decide +kernel)(B:∀ y∈sc.names,y.2 ≠ .free:=by decide +kernel):aa N P sc:=⟨h1,h2,S,O,M,I,B⟩
def lS.k{P:Program}{w:World}{K:Fg}{mg:Mg}{base:Heap}{x qual:Str}{st:Stmt}{f:Addr}{fd:FuncData}{N ps:List Str}{k:Nat}{sp:Sp}(F:lS K x qual st f fd)(S:aa N ps (aI st))
  (B:∀(I:Value)(A:Around)(outer:List Env)(s:Shared)(H:Hp)(vs:List V)(Q:VK)(E:XK),bK k (A.deeper (envOfC qual (aI st) s.heap.objs.size f I))->sp vs H Q E ->
   ∃ t,jf (jb il P w K mg base N qual (aI st) f I A outer s H E).BJ (kc st) t/\t { nx:=λ_ H'=>Q .bf H',rt:=Q } (start N vs) H)
  (len:∀ vs H Q E,sp vs H Q E->vs.length=ps.length:=by intro _ _ _ _ h;cases h;subst_vars;rfl):cC P w K mg base il (k+1) f fd ps sp:=F.ok S len B
section
variable {pos:Pos}
def aF(i:Nat){pos':Pos}(O:X.N.Nodup)(M:PE X e te)(hi:X.N[i]? = some x:=by rfl)(B:Loc X.env.scope x:=by walk_at "c") (hs:swapsWith e (some (.Name x pos')) pos.line X.env=pure false:=by rfl) (I:X.fn x=true\/X.env.scope.names.lookup x=some .local:=by walk_at "a") :
  PS X (.Assign [.Name x pos'] e pos) (yX te (iA i)):=Br O hi B M hs I
def aG(hr:ow X r)(I:PE X a ta)(B:PE X b tb)(hs:zS b:=by exact λ_ _=>J):PE X (.Subscript a b pos) (tO r ta tb):=yj hr I B hs
def cq(i:Nat)(M:X.N.Nodup)(hi:X.N[i]? = some x:=by rfl)(B:Loc X.env.scope x:=by walk_at "c") (I:X.fn x=true\/X.env.scope.names.lookup x=some .local:=by walk_at "a"):PG X (.Name x pos) (iA i):=kg M hi B I
def dH{p:Pos}(hm:X.mg "len" = none) (N:PA X (e::es) t) (I:Gl X "len" := by rfl) (M:starEach (e::es) X.env=(false,eval e X.env)::starEach es X.env:=by rfl) (B:(backTo pos (starEach es X.env)).any (·.1)=false:=by rfl) :
  PE X (.Call (.Name "len" p) (e::es) [] pos) (L3 (vQ X.K) t):=cK HF I hm Hq N ∅ ∅ M B
end
def eT{x:Str}{N:List Str}(h1:∀ p∈dD scope bB,(p.2 = .cell\/p.2 = .free)->p.1∈cn:=by decide +kernel)(h2:∀ p∈scope.names,p.2 ≠ .cell:=by decide +kernel)(S:∀ p∈scope.names,p.2 = .local->scope.names.lookup p.1=some .local:=by decide +kernel)(O:scope.names.lookup x=some .local:=by decide +kernel)(M:(dD scope bB).lookup x=some .local:=by decide +kernel)(I:(x::N).Nodup:=by decide +kernel)(B:∀ y∈N,(dD scope bB).lookup y=some .cell/\bB.names.lookup y=some .cell/\y∈cn:=by decide +kernel):dv scope bB x N cn:=⟨h1,h2,S,O,M,I,B⟩
def ym{p:List Value->Prop}{n:Nat}(h:∀ a t,t.length=n->p (a::t)):∀ us,us.length=n+1->p us:=λus e=>by
 obtain⟨a,t,rfl⟩:=List.exists_cons_of_length_eq_add_one e;exact h a t (Nat.succ.inj e)
def K_{p:List Value->Prop}(h:∀ a,p [a]):∀ us,us.length=1->p us:=ym λa _ e=>List.eq_nil_of_length_eq_zero e▸h a
def K9{p:List Value->Prop}(h:∀ a b,p [a,b]):∀ us,us.length=2->p us:=ym λa=>K_ (h a)
def wK{p:List Value->Prop}(h:∀ a b c,p [a,b,c]):∀ us,us.length=3->p us:=ym λa=>K9 (h a)
def K8{p:List Value->Prop}(h:∀ a b c d,p [a,b,c,d]):∀ us,us.length=4->p us:=ym λa=>wK (h a)
def Tz{p:List Value->Prop}(h:∀ a b c d e,p [a,b,c,d,e]):∀ us,us.length=5->p us:=ym λa=>K8 (h a)
def aa3(t:TA):TE:=λσ H Q=>t σ H λxs H1=>xs.length<=sizeLine /\ ∀ p,H1 p=none -> ∀ G,ag H1 G->G p=some (.tup xs)->Q (.ref p) G
def aa4(t:TA):TE:=λσ H Q=>t σ H λxs H1=>xs.length<=sizeLine /\ ∀ p,H1 p=none -> ∀ G,ag H1 G->G p=some (.lst xs)->Q (.ref p) G
def tT{X:Cx}{es:List Expr}{t:TA}{pos x1}(h:PA X es t):PE X (.Tuple es x1 pos) (aa3 t):=by intro pins s σ H Q I hq;refine wpAny_Tuple_spliced (aV (h pins s σ H _ I hq) λus B ⟨xs,H1,N,r,z,q⟩=>⟨by rw[<- r.length];exact z,?_⟩);have M:H1 B.heap.objs.size=none:=N.aD.fresh (ZF _);refine⟨.ref B.heap.objs.size,upd H1 B.heap.objs.size (.tup xs),N.laid (t':=B.toks) (λb u e=>ZE _ e) (ZF _) ?_,J,q _ M _ (aM M _) ax⟩;exact⟨z,us,r,⟨_,ZY _ J,J,_,J⟩⟩
def tS{X:Cx}{es:List Expr}{t:TA}{pos}(h:PA X es t):PE X (.List es pos) (aa4 t):=by intro pins s σ H Q I hq;refine wpAny_List_spliced (aV (h pins s σ H _ I hq) λus B ⟨xs,H1,N,r,z,q⟩=>⟨by rw[<- r.length];exact z,?_⟩);have M:H1 B.heap.objs.size=none:=N.aD.fresh (ZF _);refine⟨.ref B.heap.objs.size,upd H1 B.heap.objs.size (.lst xs),N.laid (t':=B.toks) (λb u e=>ZE _ e) (ZF _) ?_,J,q _ M _ (aM M _) ax⟩;exact⟨z,us,0,r,ZY _ J⟩
def dS{b:Bool}{A B:Prop}(e:b=false)(h:B):if b=true then A else B:=by subst e;exact aU h
def d_{b:Bool}{A B:Prop}(e:b=true)(h:A):if b=true then A else B:=by subst e;exact bM h
def bu{P:Program}{w:World}{K:Fg}{mg:Mg}{base:Heap}{N:List Str}{q:Str}{sc:Scope}{f:Addr}{B:Value}{A:Around}{o:List Env}{s:Shared}{H:Hp}{E:XK}:(jb il P w K mg base N q sc f B A o s H E).K=K:=rfl
def cH(h:H q=none)(o:HO):∃ G,aP (upd H q o=G) (ag H G) (G q=some o):= ⟨_,J,aM h o,ax⟩
def mh(B H:Hp):Prop:=∀ b o,B b=some o->H b=some o /\ ∃ xs,o = .tup xs
def mh.no(t:mh H0 H)(h:H b=none):H0 b=none:=by
 cases e:H0 b with
 | none=>rfl
 | some o=>rw[(t b o e).1]at h;cases h
def mh.nil(H:Hp):mh (λ_=>none) H:=λ_ _ z=>nomatch z
noncomputable def xN(K:Fg)(k:Nat)(H:Hp)(f:Addr)(C:List Int->Prop)(φ:List Int->Bool):Prop:=
 aO λ(os:List (Addr×Obj)) (B:Hp)=>mh B H/\(∀ p∈os,H p.1=some (.cx p.2 (.own p.1)))/\(ik λN M fd I=>(f,(⟨N,M,.func fd,I⟩:Obj))∈os) /\
  ∀(P:Program)(w:World)(mg:Mg)(base:Heap)(A:Around)(outer:List Env)(s:Shared)(us:List Value)(ns:List Int),
   bK k A->fc P w K mg base A outer s B->(∀ p∈os,s.heap.get? p.1=some p.2)->Vals (ns.map V.int) us->C ns ->
    codeAny (model P w) A (.call (.ref f) ⟨us,[]⟩) (CR il outer P w B s (λv _=>v = .bl (φ ns)) E0) s
def xN.same{K:Fg}{k:Nat}{H H':Hp}{f:Addr}{C:List Int->Prop}{φ:List Int->Bool}(L:xN K k H f C φ)(s:ag H H'):xN K k H' f C φ:=
 by obtain⟨os,H0,t,a,b⟩:=L;exact⟨os,H0,λb o e=>⟨s _ _ (t b o e).1,(t b o e).2⟩,λp hp=>s _ _ (a p hp),b⟩
def ui(t:mh H0 H)(u:Un fs [] H0 H' h h'):Un fs [] H H h h':=
 ⟨λb o e n I B=>u.keep b o e (t.no n) I B,λb o e n I B=>u.slot b o e (t.no n) I B,λ_ _ _ n _=>n,λb o e B=>u.there b o e B,λ_ _ q=>q,λ_ _ _ q=>q,λ_ ps q=>⟨#[],by rw[q];simp⟩⟩
def rC(t:mh H0 H)(ok:c9 P w H h)(M:c9 P w H' h')(u:Un fs [] H0 H' h h')(N:∀ b∈fs,H b=none):c9 P w H h':=λa o e=>by
 cases O:H0 a with
 | some o'=>obtain⟨I,xs,rfl⟩:=t a o' O;rw[e]at I;cases I;exact M a _ (u.fJ a xs O)
 | none=>
  refine(ok a o e).dY (λb v B q=>u.keep b v q ?_ (λz=>?_) (by simp)) (λ_ q=>q) λ_ _ q=>q
  ·rcases B with rfl | B
   ·exact O
   ·cases z:H0 b with
    | none=>rfl
    | some o'=>obtain⟨I,xs,rfl⟩:=t b o' z;rw[B]at I;cases I
  ·have n:=N b z;rcases B with rfl | B
   ·rw[n]at e;cases e
   ·rw[n]at B;cases B
def fc.sub{P:Program}{w:World}{K:Fg}{mg:Mg}{base:Heap}{A:Around}{outer:List Env}{s:Shared}{H B:Hp}(e:fc P w K mg base A outer s H)(t:mh B H):fc P w K mg base A outer s B:=
 ⟨e.frames,e.mod,λb o z=>⟨(e.bs b o z).1,t.no (e.bs b o z).2⟩,e.oo,e.dN,λb I=>t.no (e.rM b I),λa o z=>by
  obtain⟨M,xs,rfl⟩:=t a o z;exact e.aD a _ M,e.bare⟩
inductive yV(K:Fg)(k i:Nat)(t:TA)(σ:St)(H:Hp)(Q:VK):Prop
 |mk(f C φ)(_:σ[i]? = some (some (.ref f)))(_:xN K k H f C φ)(_:t σ H λvs H1=>∃ ns:List Int,cP (vs=ns.map V.int) (xN K k H1 f C φ) (C ns) (Q (.bl (φ ns)) H1))
def qF(i:Nat){k:Nat}{p pos:Pos}(hr:bK k X.A)(ha:PA X (e::es) t)(hN:X.N[i]? = some x:=by rfl)
  (hv:Kn X.env.scope x:=by walk_at "b") (hd:(x==("__debug__" : Str))=false:=by decide) (CW:(x==("__classdict__" : Str))=false:=by decide)
  (he:starEach (e::es) X.env=(false,eval e X.env)::starEach es X.env:=by rfl) (Y:(backTo pos (starEach es X.env)).any (·.1)=false:=by rfl) :
  PE X (.Call (.Name x p) (e::es) [] pos) (yV X.K k i t):=by
 intro pins s σ H Q I h;obtain⟨f,C,φ,hσ,⟨os0,_,_,B,⟨oc,od,fd,sl,Z⟩,_⟩,h⟩:=h;refine wpAny_Call_Name_kw (aV (ND hN hv hd CW s σ H (λv H'=>v = .ref f/\H'=H) I ⟨_,hσ,J,J⟩) λu s1 ⟨v,H',I',r,e1,e2⟩=>?_);subst e1 e2;cases r;refine PySem.W.callWith_F ⟨_,_,_,_,(I'.aD _ _ (B _ Z)).1⟩ (aV (ha pins s1 σ H' _ I' h) λus s2 ⟨vs,H1,O,r,q⟩=>?_) he Y;obtain⟨ns,rfl,⟨os,H0,tp,M,⟨oc,od,fd,sl,hm⟩,S⟩,hC,q⟩:=q;exists⟨_,_,_,_,(O.aD _ _ (M _ hm)).1⟩;have e0:=O.xq;refine wpAny_call (codeAny_mono (S X.prog X.w X.mg X.base X.A X.stack s2 us ns hr (e0.sub tp) (λp hp=>(O.aD _ _ (M p hp)).1) r hC) λrr s' hq=>?_);cases rr with
 | error e=>exact False.elim hq
 | ok fl=>
  cases fl with
  | ret u=>obtain⟨v,H',U,bare,un,aD,rv,qv⟩:=hq;subst qv;exact O.after ⟨_,H1,U,bare,ui tp un,rC tp O.aD aD un e0.rM,rv,q⟩
  | next=>exact False.elim hq
  | brk=>exact False.elim hq
  | cont=>exact False.elim hq
noncomputable def l_(P:Program)(w:World)(K:Fg)(mg:Mg)(base:Heap)(N:List Str)(qual:Str)(scope:Scope)(f:Addr)(B:Value)(cl:List (Str×Addr))(A:Around)(outer:List Env)(s:Shared)(I:Hp):Cx where
 prog:=P
 w:=w
 K:=K
 mg:=mg
 base:=base
 A:=A.deeper (PySem.W.envX qual scope s.heap.objs.size f B cl)
 N:=N
 s₀:=s
 H₀:=I
 env:=PySem.W.envX qual scope s.heap.objs.size f B cl
 outer:=outer
 stack:=PySem.W.envX qual scope s.heap.objs.size f B cl::outer
 ex:=[]
 calm:=true
 fn:=λ_=>false
 pn:=[]
 xe:=λe s'=>wpAny (model P w) (A.deeper (PySem.W.envX qual scope s.heap.objs.size f B cl)) (leaving (PySem.W.envX qual scope s.heap.objs.size f B cl) e) (λ_ _=>False) (λ_ _=>False) s'
def II(H:Hp):List (Str×Addr)->List V->Prop
 | [],[]=>True
 | (_,c)::cl,v::vs=>(aO λo u=>H c=some (.cx o (.own c))/\o.data = .cell (some u)/\RelV v u)/\II H cl vs
 | _,_=>False
def iU(h:Heap):List (Str×Addr)->List V->Prop
 | [],[]=>True
 | (_,c)::cl,v::vs=>(∃ u,h.IsCell c (some u)/\RelV v u)/\iU h cl vs
 | _,_=>False
theorem iU.get{h:Heap}{cl:List (Str×Addr)}{vs:List V}(k:iU h cl vs){i:Nat}{v:V}(e:vs[i]? = some v):bR λy c u=>aP (cl[i]? = some (y,c)) (h.IsCell c (some u)) (RelV v u):=by
 induction cl generalizing vs i with
 | nil=>
  obtain _ | _:=vs
  ·simp at e
  ·cases k
 | cons p cl q=>
  obtain _ | _:=vs
  ·cases k
  obtain _ | i:=i
  ·cases e;obtain⟨⟨u,h1,h2⟩,_⟩:=k;exact⟨_,_,u,J,h1,h2⟩
  ·exact q k.2 (by simpa using e)
theorem iU.len{h:Heap}{cl:List (Str×Addr)}{vs:List V}(k:iU h cl vs):cl.length=vs.length:=by
 induction cl generalizing vs with
 | nil=>
  obtain _ | _:=vs
  ·rfl
  ·cases k
 | cons p cl q=>
  obtain _ | _:=vs
  ·cases k
  ·exact congrArg (· + 1) (q k.2)
theorem iU.of{h:Heap}{cl:List (Str×Addr)}{vs:List V}(k:iU h cl vs){y:Str}{c:Addr}(m:(y,c)∈cl):∃ v,h.IsCell c v:=by
 induction cl generalizing vs with
 | nil=>cases m
 | cons p cl q=>
  obtain _ | _:=vs
  ·cases k
  obtain⟨⟨u,h1,_⟩,t⟩:=k;rcases ad m with rfl | m
  ·exact⟨_,h1⟩
  ·exact q t m
theorem iU.keeps{h h':Heap}(k:∀ b o,h.get? b=some o->h'.get? b=some o){cl:List (Str×Addr)}{vs:List V}(e:iU h cl vs):iU h' cl vs:=by
 induction cl generalizing vs with
 | nil=>
  obtain _ | _:=vs
  ·trivial
  ·cases e
 | cons p cl q=>
  obtain _ | _:=vs
  ·cases e
  ·obtain⟨⟨u,h1,h2⟩,t⟩:=e;exact⟨⟨u,h1.keeps k,h2⟩,q t⟩
structure eJ(ps ys:List Str)(sc:Scope):Prop where
 kind:sc.kind = .function
 co:sc.isCoroutine=false
 gen:sc.isGenerator=false
 kY:∀ x∈sc.names,x.2 ≠ .cell
 nd:(ps++ys).Nodup
 par:∀ x∈ps,sc.names.lookup x=some .local
 fre:∀ x∈ys,sc.names.lookup x=some .free
 has:∀ p∈sc.names,p.2 = .free->p.1∈ys
def Jh{ps ys:List Str}{sc:Scope}(h1:sc.kind = .function:=by rfl)(h2:sc.isCoroutine=false:=by rfl)(S:sc.isGenerator=false:=by rfl)(O:∀ x∈sc.names,x.2 ≠ .cell:=by decide +kernel)(N:(ps++ys).Nodup:=by decide +kernel)(M:∀ x∈ps,sc.names.lookup x=some .local:=by decide +kernel)(I:∀ x∈ys,sc.names.lookup x=some .free:=by decide +kernel)(B:∀ p∈sc.names,p.2 = .free->p.1∈ys:=by decide +kernel):eJ ps ys sc:=⟨h1,h2,S,O,N,M,I,B⟩
def Ot{ps:List Str}{us:List Value}{i:Nat}{y:Str}{u:Value}(N:ps.Nodup)(h1:ps[i]? = some y)(h2:us[i]? = some u):(ps.zip us).reverse.lookup y=some u:=by
 have S:(ps.zip us)[i]? = some (y,u):=by rw[List.getElem?_zip_eq_some];exact⟨h1,h2⟩
 have hm:(y,u)∈(ps.zip us).reverse:=List.mem_reverse.mpr (List.mem_of_getElem? S);have I:∀(l:List (Str×Value)),(y,u)∈l->(∀ v,(y,v)∈l->v=u)->l.lookup y=some u:=by
  intro l
  induction l with
  | nil=>intro m;cases m
  | cons a l O=>
   intro m un;obtain⟨b,v⟩:=a;by_cases e:y=b
   ·subst e;rw[List.lookup_cons_self,un v (List.mem_cons_self ..)]
   ·rw[List.lookup_cons,show(y==b)=false from beq_eq_false_iff_ne.mpr e];refine O ?_ λv M=>un v (List.mem_cons_of_mem _ M);rcases ad m with h | h
    ·cases h;exact absurd J e
    ·exact h
 refine I _ hm λv M=>?_;obtain⟨j,B⟩:=List.mem_iff_getElem?.mp (List.mem_reverse.mp M);rw[List.getElem?_zip_eq_some]at B;have e:i=j:=(List.getElem?_inj (ac h1).1 N).mp (h1.trans B.1.symm);subst e;rw[h2]at B;exact(am B.2).symm
def Ef{P:Program}{w:World}{K:Fg}{mg:Mg}{base:Heap}{ps ys:List Str}{qual:Str}{scope:Scope}{f:Addr}{cd:Value}{cl:List (Str×Addr)}{A:Around}{outer:List Env}{s:Shared}{h₁:Heap}{tk:Tok}{us:List Value}{vs cv:List V}{H0:Hp}
  (S:eJ ps ys scope) (M:cl.map (·.1)=ys) (U4:(cl.map (·.2)).Nodup) (hd:A.handled=none) (N:fc P w K mg base A outer s H0) (eQ:∀ y c,(y,c)∈cl->H0 c=none) (hl:vs.length=ps.length) (r:Vals vs us) (hc:iU h₁ cl cv)
  (rD:h₁.Ns s.heap.objs.size (λx=>(ps.zip us).reverse.lookup x)) (hk:∀ b o,s.heap.get? b=some o->h₁.get? b=some o) :
  Inv (l_ P w K mg base (ps++ys) qual scope f cd cl A outer s H0) [] ((vs++cv).map some) H0 { s with heap:=h₁,toks:=tk }:=by
 have U:∀ b:Addr,b ∉ (l_ P w K mg base (ps++ys) qual scope f cd cl A outer s H0).ex:=λb z=>absurd (show b∈([]:List Addr)from z) (by simp);have Y6:ys.Nodup:=(List.nodup_append.mp S.nd).2.1;have Y7:ps.Nodup:=(List.nodup_append.mp S.nd).1;have Y:∀{i:Nat}{y:Str}{c:Addr},cl[i]? = some (y,c)->cl.lookup y=some c:=fun {i y c} h=>by
  have key:∀(l:List (Str×Addr)),(l.map (·.1)).Nodup->(y,c)∈l->l.lookup y=some c:=by
   intro l
   induction l with
   | nil=>intro _ m;cases m
   | cons a l ih=>
    intro nd m;obtain⟨b,d⟩:=a;rcases ad m with h | h
    ·cases h;exact List.lookup_cons_self
    ·have eP:y≠b:=λe=>(List.nodup_cons.mp nd).1 (e▸List.mem_map_of_mem (f:=(·.1)) h);rw[List.lookup_cons,show(y==b)=false from beq_eq_false_iff_ne.mpr eP];exact ih (List.nodup_cons.mp nd).2 h
  exact key cl (by rw[M];exact Y6) (List.mem_of_getElem? h)
 refine⟨⟨N.mod,S.kind,J,J,ZF _,λy z c h1 h2=>?_,λy O=>?_,λy c z _=>Bool.noConfusion z,λ_=>hd,Around.frames_deeper N.frames,.inr ⟨J,J⟩,λb z=>absurd z (U b),N.bs,N.oo,λb _ _=>U b,λb z=>absurd z (U b),N.dN,N.rM⟩,
  rfl,N.bare,Un.kept hk,⟨_,rD,λi y v h1 h2 h3=>?_⟩,λy c h=>hc.of (PySem.mem_of_lookup h),N.aD.fresh (ZF _),λy c h=>eQ y c (PySem.mem_of_lookup h),λp hp=>absurd (show p∈([]:List (Addr×Obj))from hp) (by simp),λa o z=>(N.aD a o z).dY (λb u _ q=>hk b u q) (λ_ q=>q) (λ_ _ q=>q),?_⟩
 ·obtain⟨i,hi⟩:=List.mem_iff_getElem?.mp (PySem.mem_of_lookup h1);obtain⟨j,Z⟩:=List.mem_iff_getElem?.mp (PySem.mem_of_lookup h2);replace hi:cl[i]? = some (y,c):=hi;replace Z:cl[j]? = some (z,c):=Z;have e1:(cl.map (·.2))[i]? = some c:=by rw[List.getElem?_map,hi];rfl
  have e2:(cl.map (·.2))[j]? = some c:=by rw[List.getElem?_map,Z];rfl
  have e:i=j:=(List.getElem?_inj (ac e1).1 U4).mp (e1.trans e2.symm);subst e;rw[hi]at Z;cases Z;rfl
 ·have Uc:scope.names.lookup y=some .cell\/scope.names.lookup y=some .free:=O;rcases Uc with O | O
  ·exact absurd J (S.kY _ (PySem.mem_of_lookup O))
  ·have hm:=S.has _ (PySem.mem_of_lookup O) J;rw[<- M]at hm;obtain⟨⟨y',c⟩,UP,rfl⟩:=eE hm;obtain⟨i,hi⟩:=List.mem_iff_getElem?.mp UP;exact⟨c,Y hi⟩
 ·have B:(ps++ys)[i]? = some y:=h1;rw[List.getElem?_map]at h2;obtain⟨v',I,e⟩:=Option.map_eq_some_iff.mp h2;cases e;by_cases hi:i<ps.length
  ·rw[List.getElem?_append_left hi]at B;rw[List.getElem?_append_left {}]at I;obtain⟨u,hu,rv⟩:=r.get I;exact⟨u,rv,.inl ⟨S.par y (List.mem_of_getElem? B),Ot Y7 B hu⟩⟩
  ·rw[List.getElem?_append_right {}]at B I;rw[hl]at I;obtain⟨y',c,u,O,W,rv⟩:=hc.get I;have e:ys[i-ps.length]? = some y':=by rw[<- M,List.getElem?_map,O];rfl
   rw[B]at e;cases e;exact⟨u,rv,.inr ⟨.inr (S.fre y (List.mem_of_getElem? B)),c,Y O,W⟩⟩
 ·show _=(ps++ys).length;have:=hc.len;have:=congrArg List.length M;rw[List.length_map]at this;rw[List.length_map,List.length_append,List.length_append];lia
theorem II.os{cl:List (Str×Addr)}{vs:List V}(k:II H cl vs):∃ os:List (Addr×Obj),(∀ p∈os,H p.1=some (.cx p.2 (.own p.1))) /\ ∀ h:Heap,(∀ p∈os,h.get? p.1=some p.2)->iU h cl vs
:=by
 induction cl generalizing vs with
 | nil=>
  obtain _ | _:=vs
  ·exact⟨[],(λ_ z=>nomatch z),λ_ _=>trivial⟩
  ·cases k
 | cons p cl q=>
  obtain _ | _:=vs
  ·cases k
  obtain⟨⟨o,u,h1,h2,h3⟩,t⟩:=k;obtain⟨os,a,b⟩:=q t;refine⟨(p.2,o)::os,λp hp=>?_,λh B=>⟨⟨u,⟨o,B _ (List.mem_cons_self ..),h2⟩,h3⟩,b h λp hp=>B p (List.mem_cons_of_mem _ hp)⟩⟩;rcases ad hp with rfl | hp
  ·exact h1
  ·exact a p hp
theorem mh.cells(t:mh H0 H){cl:List (Str×Addr)}{vs:List V}(k:II H cl vs)(y c)(hm:(y,c)∈cl):H0 c=none:=by
 induction cl generalizing vs with
 | nil=>cases hm
 | cons p cl q=>
  obtain _ | _:=vs
  ·cases k
  obtain⟨⟨o,u,h1,_⟩,r⟩:=k
  rcases ad hm with h | h
  ·cases h;cases e:H0 c with
   | none=>rfl
   | some o'=>obtain⟨B,xs,rfl⟩:=t c o' e;rw[h1]at B;cases B
  ·exact q r h
def zP{K:Fg}{k:Nat}{H:Hp}{f c:Addr}{Y:Obj}{name qual:Str}{params:Arguments}{body:Expr}{scope:Scope}{cl:List (Str×Addr)}{U I:Value}{ps ys:List Str}{cv:List V}{C:List Int->Prop}{φ:List Int->Bool}{vs:Array Value}{tq:Tok}
  (H0:Hp) (tp:mh H0 H) (S:eJ ps ys scope) (eR:cl.map (·.1)=ys) (O:(cl.map (·.2)).Nodup) (hf:H f=some (.cx (PySem.W.kla_obj name qual params body scope cl U c I) (.own f)))
  (hc:H c=some (.cx Y (.own c))) (hd:Y.data = .fields vs) (hv:vs[1]? = some (.str qual tq)) (B:II H cl cv)
  (hb:∀ us:List Value,us.length=ps.length->bindArgs (PySem.W.kla_fn name qual params body scope cl U (.ref c) I) ⟨us,[]⟩=pure (ps.zip us)) (hlen:∀ ns,C ns->ns.length=ps.length)
  (N:∀(P:Program)(w:World)(mg:Mg)(base:Heap)(A:Around)(outer:List Env)(s:Shared),∃ t,PE (l_ P w K mg base (ps++ys) qual scope f (.ref c) cl A outer s H0) body t /\ ∀ ns,C ns->t ((ns.map V.int++cv).map some) H0 (λv _=>v = .bl (φ ns))) :
  xN K (k+1) H f C φ:=by
 obtain⟨os,a,b⟩:=B.os;have eQ:=tp.cells B;refine⟨(f,PySem.W.kla_obj name qual params body scope cl U c I)::(c,Y)::os,H0,tp,λp hp=>?_,⟨_,_,_,_,List.mem_cons_self ..⟩,λP w mg base A outer s us ns hr e0 M r hC=>?_⟩
 ·rcases ad hp with rfl | hp
  ·exact hf
  ·rcases ad hp with rfl | hp
   ·exact hc
   ·exact a p hp
 have gf:=M _ (List.mem_cons_self ..);have gc:=M _ (List.mem_cons_of_mem _ (List.mem_cons_self ..));have hl:(ns.map V.int).length=ps.length:=by rw[List.length_map];exact hlen ns hC
 have lim:s.heap.NoLimit:=e0.mod.nolimit.keeps λb o e=>(e0.bs b o e).1;refine PySem.W.kla_callFunE hr.depth gf J S.co S.gen J ⟨c,Y,vs,tq,J,gc,hd,hv⟩ ?_;show wpAny _ _ (bindArgs (PySem.W.kla_fn name qual params body scope cl U (.ref c) I) ⟨us,[]⟩) _ _ s;rw[hb us (by rw[<- r.length];exact hl)];refine ZO (wpAny_newFunctionEnv S.kY (λy hy=>S.par y.1 (List.of_mem_zip hy).1) (λh₁ rD CM=>?_) S.kind);have hk:∀ b o,s.heap.get? b=some o->h₁.get? b=some o:=λb o e=>CM.extBut b o (WN (ZW e)) (ZE _ e);exists lim.keeps hk;obtain⟨t,ht,hq⟩:=N P w mg base A outer s;show codeAny _ _ (.expr body (PySem.W.envX qual scope s.heap.objs.size f (.ref c) cl)) _ _;refine PySem.W.kla_codeExpr (WX (ht _ _ _ _ (Ef S eR O hr.hd e0 eQ hl r ((b s.heap λp hp=>M p (List.mem_cons_of_mem _ (List.mem_cons_of_mem _ hp))).keeps hk) rD hk) (hq ns hC)) (λu s' h=>?_) λe s' h=>h);obtain⟨v,H',Z,r',q'⟩:=h;exact⟨v,H',Z.os,Z.bare,Z.base,Z.aD,r',q'⟩
theorem Ee{K:Fg}{k:Nat}{H:Hp}{f c:Addr}{Z:Obj}{name qual:Str}{params:Arguments}{body:List Stmt}{scope:Scope}{cl:List (Str×Addr)}{I Y M:Value}{ps ys:List Str}{cv:List V}{C:List Int->Prop}{φ:List Int->Bool}{vs:Array Value}{tq:Tok}
  (H0:Hp) (tp:mh H0 H) (S:eJ ps ys scope) (eR:cl.map (·.1)=ys) (U:(cl.map (·.2)).Nodup) (hf:H f=some (.cx (PySem.W.fnMade name qual params body scope cl I Y c M) (.own f)))
  (hc:H c=some (.cx Z (.own c))) (hd:Z.data = .fields vs) (hv:vs[1]? = some (.str qual tq)) (B:II H cl cv)
  (hb:∀ us:List Value,us.length=ps.length->bindArgs (PySem.W.fnX name qual params body scope cl .none .none I Y none (.ref c) M) ⟨us,[]⟩=pure (ps.zip us)) (hlen:∀ ns,C ns->ns.length=ps.length)
  (O:∀(P:Program)(w:World)(mg:Mg)(base:Heap)(A:Around)(outer:List Env)(s:Shared),∃ t,jf (l_ P w K mg base (ps++ys) qual scope f (.ref c) cl A outer s H0) body t /\ ∀ ns,C ns->t { nx:=λ_ _=>False,rt:=λv _=>v = .bl (φ ns) } ((ns.map V.int++cv).map some) H0) :
  xN K (k+1) H f C φ:=by
 obtain⟨os,a,b⟩:=B.os;have eQ:=tp.cells B;refine⟨(f,PySem.W.fnMade name qual params body scope cl I Y c M)::(c,Z)::os,H0,tp,λp hp=>?_,⟨_,_,_,_,List.mem_cons_self ..⟩,λP w mg base A outer s us ns hr e0 N r hC=>?_⟩
 ·rcases ad hp with rfl | hp
  ·exact hf
  ·rcases ad hp with rfl | hp
   ·exact hc
   ·exact a p hp
 have gf:=N _ (List.mem_cons_self ..);have gc:=N _ (List.mem_cons_of_mem _ (List.mem_cons_self ..));have hl:(ns.map V.int).length=ps.length:=by rw[List.length_map];exact hlen ns hC
 have lim:s.heap.NoLimit:=e0.mod.nolimit.keeps λb o e=>(e0.bs b o e).1;refine codeAny_call_function hr.depth gf J S.co S.gen J ⟨c,Z,vs,tq,J,gc,hd,hv⟩ ?_;show wpAny _ _ (bindArgs (PySem.W.fnX name qual params body scope cl .none .none I Y none (.ref c) M) ⟨us,[]⟩) _ _ s;rw[hb us (by rw[<- r.length];exact hl)];refine ZO (wpAny_newFunctionEnv S.kY (λy hy=>S.par y.1 (List.of_mem_zip hy).1) (λh₁ rD CM=>?_) S.kind);have hk:∀ b o,s.heap.get? b=some o->h₁.get? b=some o:=λb o e=>CM.extBut b o (WN (ZW e)) (ZE _ e);exists lim.keeps hk;obtain⟨t,ht,hq⟩:=O P w mg base A outer s;show codeAny _ _ (.func body (PySem.W.envX qual scope s.heap.objs.size f (.ref c) cl)) _ _;refine codeAny_func (WX (ht _ _ _ _ (Ef S eR U hr.hd e0 eQ hl r ((b s.heap λp hp=>N p (List.mem_cons_of_mem _ (List.mem_cons_of_mem _ hp))).keeps hk) rD hk) (hq ns hC)) (λfl s' h=>?_) λe s' h=>h);cases fl with
 | ret u=>obtain⟨v,σ',H',I',r',q'⟩:=h;exact⟨v,H',I'.os,I'.bare,I'.base,I'.aD,r',q'⟩
 | next=>obtain⟨_,_,_,q⟩:=h;exact False.elim q
 | brk=>obtain⟨_,_,_,q⟩:=h;exact False.elim q
 | cont=>obtain⟨_,_,_,q⟩:=h;exact False.elim q
def Tab(H:Hp)(T:Addr)(pos:Pos)(qual:Str):Prop:=
 ∃ ps,H T=some (.fG ps)/\TriplesOk ps.toList/\(codeAmong pos ps.toList=none\/ik λc B vs I=>codeAmong pos ps.toList=some (.ref c)/\H c=some (.cx B (.own c))/\B.data = .fields vs/\vs[1]? = some (.str qual I))
def Tab.same(x:Tab H T pos qual)(s:ag H H'):Tab H' T pos qual:=by
 obtain⟨ps,h1,h2,M⟩:=x;exists ps,s _ _ h1,h2;rcases M with h | ⟨c,I,vs,B,a,b,d⟩
 ·exact .inl h
 ·exact .inr ⟨c,I,vs,B,a,s _ _ b,d⟩
theorem IC{a b:Int}:∀{l:List Value},TriplesOk l->TriplesOk (l++[.int a t,.int b u,v])
 | [],_=>trivial
 | .int _ _ :: .int _ _::_::rest,h=>IC (l:=rest) h
def Inv.oN{s:Shared}{h':Heap}{tk:Tok}{c f:Addr}{more:Array Value}{U Y:Obj}(I:Inv X pins σ H s)(N:H T=some (.fG ps))
  (Z:∀ b o,b≠T->s.heap.get? b=some o->h'.get? b=some o) (gT:h'.get? T=some { cls:=.none,data:=.fields (ps++more) }) (gc:h'.get? c=some U) (gf:h'.get? f=some Y) (W:s.heap.objs.size<=c) (S:c<f) :
  Inv X pins σ (upd (upd (upd H T (.fG (ps++more))) c (.cx U (.own c))) f (.cx Y (.own f))) { s with heap:=h',toks:=tk }:=by
 have nc:H c=none:=I.aD.fresh W;have nf:H f=none:=I.aD.fresh (ZT W (Nat.le_of_lt S));have M:∀{b:Addr}{o:HO},H b=some o->b≠T->upd (upd (upd H T (.fG (ps++more))) c (.cx U (.own c))) f (.cx Y (.own f)) b=some o:=fun {b o} e n=>by
  rw[bC (cO e nf),bC (cO e nc),bC n];exact e
 have atT:upd (upd (upd H T (.fG (ps++more))) c (.cx U (.own c))) f (.cx Y (.own f)) T=some (.fG (ps++more)):=by rw[bC (cO N nf),bC (cO N nc),ax]
 have O:∀{b:Addr}{o:HO},H b=some o->(∀ qs,o ≠ .fG qs)->b≠T:=λe n z=>by subst z;rw[N]at e;cases e;exact n _ J
 have kept:∀ b o,s.heap.get? b=some o->H b=none->h'.get? b=some o:=λb o e n=>Z b o (λz=>by subst z;rw[N]at n;cases n) e;refine I.iB (ch:=[]) J ⟨λb o e n _ _=>kept b o e n,λb o e n _ _=>⟨o.slots,kept b o e n⟩,λb o e n _=>?_,λb o e _=>?_,λb xs e=>M e (O e (by intro _ z;cases z)),λb o u e=>M e (O e (by intro _ z;cases z)),λb qs e=>?_⟩ (λa o e=>?_) I.bare λb z=>absurd z (by simp)
 ·have B:=ZW e;rw[bC (WN (Nat.lt_trans (WG B W) S)),bC (WN (WG B W)),bC λz=>by subst z;rw[N]at n;cases n];exact n
 ·by_cases B:b=T
  ·subst B;exact⟨_,gT⟩
  ·exact⟨o,Z b o B e⟩
 ·by_cases B:b=T
  ·subst B;rw[N]at e;cases e;exact⟨more,atT⟩
  ·exact⟨#[],by rw[M e B];simp⟩
 ·by_cases h1:a=f
  ·subst h1;rw[ax]at e;cases e;exact⟨gf,_,gf⟩
  ·rw[bC h1]at e;by_cases h2:a=c
   ·subst h2;rw[ax]at e;cases e;exact⟨gc,_,gc⟩
   ·rw[bC h2]at e;by_cases h3:a=T
    ·subst h3;rw[ax]at e;cases e;exact gT
    ·rw[bC h3]at e;refine(I.aD a o e).dY (λb u B q=>Z b u ?_ q) (λb q=>M q (O q (by intro _ z;cases z))) λb xs q=>M q (O q (by intro _ z;cases z));rcases B with rfl | B
     ·exact h3
     ·exact O B (by intro _ z;cases z)
def BMain(mg:Mg)(base:Heap):Prop:=aO λI B=>gB (mg "__builtins__" = some (.ref I)) (I≠builtinsNs) (base.get? I=some B) (B.cls = .type "module") (B.dict=some builtinsNs) (B.data = .plain)
def LZ(T:Addr)(pos:Pos)(qual:Str)(params:Arguments)(body:Expr)(scope:Scope)(cl:List (Str×Addr)):TE:=λ_ H Q=>Tab H T pos qual /\ ∀ f c I vs M N B H1,H f=none->H1 f=some (.cx (PySem.W.kla_obj "<lambda>" qual params body scope cl N c B) (.own f)) ->
 H1 c=some (.cx I (.own c))->I.data = .fields vs->vs[1]? = some (.str qual M)->Tab H1 T pos qual->(∀ b o,b≠T->H b=some o->H1 b=some o)->Q (.ref f) H1
def MV{X:Cx}(M:X.env.code = .ref c)(hC:PySem.W.codeHdIn X.K c T=true)(hb:BMain X.mg X.base)(eR:closureFor scope X.env=pure cl)(hq:X.env.qual ++ "<lambda>" = qual) (Ve:defaultsOf params X.env=([],[])) :
  PE X (.Lambda params body scope pos) (LZ T pos qual params body scope cl):=by
 intro pins s σ H Q I h;obtain⟨⟨ps,U,ht,S⟩,h⟩:=h;subst hq;have gP:s.heap.get? T=some (PySem.W.tabObj ps):=I.aD T _ U;have hg:s.heap.Ns mainGlobals X.mg:=I.mod.glob.keeps I.bk;obtain⟨bm,ob,b1,b2,b3,b4,b5,b6⟩:=hb;have Vi:bm≠T:=λz=>by
  have:=(I.bs bm ob b3).2;rw[z,U]at this;cases this
 have Va:mainGlobals≠T:=λz=>by
  obtain⟨o,es,ep,e,hd,_⟩:=hg;rw[z,gP]at e;cases e;cases hd
 have Vj:bm≠mainGlobals:=λz=>by
  obtain⟨o,es,ep,e,hd,_⟩:=hg;have e3:=I.bk bm ob b3;rw[z,e]at e3;cases e3;rw[hd]at b6;cases b6
 have CH:=PySem.W.codeHd_of_K I.d8 hC;have BA:s.heap.BuiltinsAt X.mg T:=⟨bm,ob,b1,b2,Vj,Vi,I.bk _ _ b3,b4,b5,b6⟩
 refine PySem.W.kla_eval Ve ?_;rcases S with hn | ⟨c1,Z,vs,Y,hf,Ca,hd,hv⟩
 ·refine PySem.W.kla_makeFunction eR I.ok.glob hg M CH gP ht hn Va BA λc' B h' tk hx O N B2 Um=>?_;obtain⟨c2,Z,vs,Y,e2,CS,hd,hv⟩:=B2;cases e2;have I':=I.oN (tk:=tk) (h':=h'.push (PySem.W.kla_obj "<lambda>" (X.env.qual ++ "<lambda>") params body scope cl ((X.mg "__name__").getD .none) c' B)) U (λb o hb e=>ZE _ (hx b o hb e)) (ZE _ Um) (ZE _ CS) (ZY _ J) O N;have nc:H c'=none:=I.aD.fresh O;have nf:H h'.objs.size=none:=I.aD.fresh (ZT O (Nat.le_of_lt N));have J0:c'≠h'.objs.size:=WN N;refine⟨.ref _,_,I',J,h _ c' Z vs Y _ B _ nf ax (by rw[bC J0,ax]) hd hv ⟨_,by rw[bC (cO U nf),bC (cO U nc),ax],?_,.inr ⟨c',Z,vs,Y,?_,by rw[bC J0,ax],hd,hv⟩⟩ λb o hb e=>by rw[bC (cO e nf),bC (cO e nc),bC hb];exact e⟩
  ·rw[WQ];exact IC ht
  ·rw[WQ];exact codeAmong_snoc _ ht hn
 ·refine PySem.W.kla_makeFunctionHit eR I.ok.glob hg M CH gP ht hf BA λB h' tk hk hsz=>?_;have nf:H h'.objs.size=none:=I.aD.fresh hsz;have I':=I.laid (t':=tk) (h':=h'.push (PySem.W.kla_obj "<lambda>" (X.env.qual ++ "<lambda>") params body scope cl ((X.mg "__name__").getD .none) c1 B)) (o:=.cx (PySem.W.kla_obj "<lambda>" (X.env.qual ++ "<lambda>") params body scope cl ((X.mg "__name__").getD .none) c1 B) (.own h'.objs.size)) (λb u e=>ZE _ (hk b u e)) hsz ⟨ZY _ J,_,ZY _ J⟩;have s1:=aM nf (.cx (PySem.W.kla_obj "<lambda>" (X.env.qual ++ "<lambda>") params body scope cl ((X.mg "__name__").getD .none) c1 B) (.own h'.objs.size));exact⟨.ref _,_,I',J,h _ c1 Z vs Y _ B _ nf ax (s1 _ _ Ca) hd hv (Tab.same ⟨ps,U,ht,.inr ⟨c1,Z,vs,Y,hf,Ca,hd,hv⟩⟩ s1) λb o _ e=>s1 _ _ e⟩
def Di(T:Addr)(pos:Pos)(name qual:Str)(params:Arguments)(body:List Stmt)(scope:Scope)(cl:List (Str×Addr))(i:Nat):TS:=λD σ H=>Tab H T pos qual /\ ∀ f c M vs N B O I H1,H f=none->H1 f=some (.cx (PySem.W.fnMade name qual params body scope cl B O c I) (.own f)) ->
 H1 c=some (.cx M (.own c))->M.data = .fields vs->vs[1]? = some (.str qual N)->Tab H1 T pos qual->(∀ b o,b≠T->H b=some o->H1 b=some o)->D.nx (σ.set i (some (.ref f))) H1
def MU{X:Cx}{params:Arguments}{i:Nat}(O:X.env.code = .ref c)(hC:PySem.W.codeHdIn X.K c T=true)(hb:BMain X.mg X.base)(eR:closureFor scope X.env=pure cl)(hq:qualnameIn X.env name name=qual)
  (hd0:params.defaults=[]) (U2:params.kw_defaults=[]) (han:annTrees params none X.env=[]) (hN:X.N.Nodup) (hi:X.N[i]? = some name) (hx:Loc X.env.scope name) (hf:X.fn name=true\/X.env.scope.names.lookup name=some .local) :
  PS X (.FunctionDef name params body [] none [] scope none name pos) (Di T pos name qual params body scope cl i):=by
 intro pins s σ H D I h;obtain⟨⟨ps,Z,ht,Y⟩,h⟩:=h;subst hq;have gP:s.heap.get? T=some (PySem.W.tabObj ps):=I.aD T _ Z;have hg:s.heap.Ns mainGlobals X.mg:=I.mod.glob.keeps I.bk;obtain⟨bm,ob,b1,b2,b3,b4,b5,b6⟩:=hb;have Vi:bm≠T:=λz=>by
  have:=(I.bs bm ob b3).2;rw[z,Z]at this;cases this
 have Va:mainGlobals≠T:=λz=>by
  obtain⟨o,es,ep,e,hd,_⟩:=hg;rw[z,gP]at e;cases e;cases hd
 have Vj:bm≠mainGlobals:=λz=>by
  obtain⟨o,es,ep,e,hd,_⟩:=hg;have e3:=I.bk bm ob b3;rw[z,e]at e3;cases e3;rw[hd]at b6;cases b6
 have CH:=PySem.W.codeHd_of_K I.d8 hC;have BA:s.heap.BuiltinsAt X.mg T:=⟨bm,ob,b1,b2,Vj,Vi,I.bk _ _ b3,b4,b5,b6⟩
 refine PySem.W.nestDef_K hd0 U2 han ?_;rcases Y with hn | ⟨c1,oc,vs,tq,JY,Ca,hd,hv⟩
 ·refine PySem.W.makeFunction_K eR I.ok.glob hg O CH gP ht hn Va BA λc' M B h' tk CJ U S B2 Um=>?_;obtain⟨c2,oc,vs,tq,e2,CS,hd,hv⟩:=B2;cases e2;have I':=I.oN (tk:=tk) (h':=h'.push (PySem.W.fnMade name (qualnameIn X.env name name) params body scope cl B ((X.mg "__name__").getD .none) c' M)) Z (λb o hb e=>ZE _ (CJ b o hb e)) (ZE _ Um) (ZE _ CS) (ZY _ J) U S;have nc:H c'=none:=I.aD.fresh U;have nf:H h'.objs.size=none:=I.aD.fresh (ZT U (Nat.le_of_lt S));have J0:c'≠h'.objs.size:=WN S;refine mV I' hN hi hx (v:=.ref h'.objs.size) J (λs' I2=>⟨_,_,I2,h _ c' oc vs tq B _ M _ nf ax (by rw[bC J0,ax]) hd hv ⟨_,by rw[bC (cO Z nf),bC (cO Z nc),ax],?_,.inr ⟨c',oc,vs,tq,?_,by rw[bC J0,ax],hd,hv⟩⟩ λb o hb e=>by rw[bC (cO e nf),bC (cO e nc),bC hb];exact e⟩) hf
  ·rw[WQ];exact IC ht
  ·rw[WQ];exact codeAmong_snoc _ ht hn
 ·refine PySem.W.makeFunction_hit eR I.ok.glob hg O CH gP ht JY BA λM B h' tk hk hsz=>?_;have nf:H h'.objs.size=none:=I.aD.fresh hsz;have I':=I.laid (t':=tk) (h':=h'.push (PySem.W.fnMade name (qualnameIn X.env name name) params body scope cl B ((X.mg "__name__").getD .none) c1 M)) (o:=.cx (PySem.W.fnMade name (qualnameIn X.env name name) params body scope cl B ((X.mg "__name__").getD .none) c1 M) (.own h'.objs.size)) (λb u e=>ZE _ (hk b u e)) hsz ⟨ZY _ J,_,ZY _ J⟩;have s1:=aM nf (.cx (PySem.W.fnMade name (qualnameIn X.env name name) params body scope cl B ((X.mg "__name__").getD .none) c1 M) (.own h'.objs.size));exact mV I' hN hi hx (v:=.ref h'.objs.size) J (λs' I2=>⟨_,_,I2,h _ c1 oc vs tq B _ M _ nf ax (s1 _ _ Ca) hd hv (Tab.same ⟨ps,Z,ht,.inr ⟨c1,oc,vs,tq,JY,Ca,hd,hv⟩⟩ s1) λb o _ e=>s1 _ _ e⟩) hf
noncomputable def iF(X:Cx):List (Str×Addr)->List Nat->Prop
 | [],[]=>True
 | (y,c)::cl,i::is=>(X.N[i]? = some y/\X.env.scope.names.lookup y=some .cell/\X.fn y=true/\X.env.cells.lookup y=some c)/\iF X cl is
 | _,_=>False
theorem iF.mem{X:Cx}{cl:List (Str×Addr)}{is:List Nat}(k:iF X cl is){c:Addr}(m:c∈cl.map (·.2)):∃ y,X.fn y=true/\X.env.cells.lookup y=some c:=by
 induction cl generalizing is with
 | nil=>cases m
 | cons p cl q=>
  obtain _ | _:=is
  ·cases k
  obtain⟨⟨_,_,h1,h2⟩,t⟩:=k;rcases ad m with rfl | m
  ·exact⟨_,h1,h2⟩
  ·exact q t m
def Back(H1 H' I:Hp):Prop:=∀ b o,H' b=some o->(H1 b≠none \/ ∀ B u,o ≠ .cx B u)->I b=some o
noncomputable def jN(h:Heap)(cs:List Addr)(H:Hp):Hp:=λb=>if b∈cs then(h.get? b).map λo=>.cx o (.own b)else H b
noncomputable def yW(sp:Sp)(cl:List (Str×Addr))(is:List Nat)(E:XK)(t:TA):TE:=λσ H Q=>t σ H λvs H1=>∃ B:List V,(is.map λi=>σ[i]?)=B.map (λv=>some (some v)) /\ ∀ H2,ag H1 H2->II H2 cl B->sp vs H2 (λv H'=>∀ I,Back H1 H' I->Q v I) E
def Qp{X:Cx}{k:Nat}{p pos:Pos}(c:yD X.prog X.w X.K X.mg X.base k x ps sp)(hr:bK k X.A)(hg:Gl X x)(J1:iF X cl is)(ha:PA X (e::es) t)(hdb:(x==("__debug__" : Str))=false:=by decide)
  (he:starEach (e::es) X.env=(false,eval e X.env)::starEach es X.env:=by rfl) (Li:(backTo pos (starEach es X.env)).any (·.1)=false:=by rfl) :
  PE X (.Call (.Name x p) (e::es) [] pos) (yW sp cl is E0 t):=by
 obtain⟨f,fd,F,B,kp,m⟩:=c.ex;intro pins s σ H Q I h;refine wpAny_Call_Name_kw (AK I hg m ?_ hdb);refine PySem.W.callWith_K (h₀:=X.base) I.ok.mod.CI kp (aV (ha pins s σ H _ I h) λus s1 ⟨vs,H1,Y,r,q⟩=>⟨Y.d8,?_⟩) he Li;obtain⟨cv,hcv,q⟩:=q;have Jt:∀ b∈cl.map (·.2),∃ y,X.fn y=true/\X.env.cells.lookup y=some b:=λb M=>J1.mem M;have K6:∀{b:Addr}{o:HO},H1 b=some o->b ∉ cl.map (·.2):=fun {b o} e M=>by
  obtain⟨y,_,hy⟩:=Jt b M;rw[Y.cZ y b hy]at e;cases e
 have IY:∀{b:Addr}{o:Obj},X.s₀.heap.get? b=some o->b ∉ cl.map (·.2):=fun {b o} e M=>by
  obtain⟨y,h1,hy⟩:=Jt b M;exact absurd (WG (ZW e) (Y.ok.C3 y b h1 hy)) (Nat.lt_irrefl _)
 have yA:∀ b∈cl.map (·.2),∃ o,s1.heap.get? b=some o:=λb M=>by
  obtain⟨y,_,hy⟩:=Jt b M;obtain⟨v,o,ho,_⟩:=Y.cell y b hy;exact⟨o,ho⟩
 have T_:∀{b:Addr},b∈cl.map (·.2) -> ∀{o:Obj},s1.heap.get? b=some o->jN s1.heap (cl.map (·.2)) H1 b=some (.cx o (.own b)):=fun {b} M {o} e=>by
  unfold jN;rw[ZL M,e];rfl
 have O:∀{b:Addr},b ∉ cl.map (·.2)->jN s1.heap (cl.map (·.2)) H1 b=H1 b:=λM=>by unfold jN;rw[ZJ M]
 have sm:ag H1 (jN s1.heap (cl.map (·.2)) H1):=λb o e=>by rw[O (K6 e)];exact e
 have XB:∀ b∈gF X.stack,b ∉ cl.map (·.2):=λb M=>by
  rcases ad (Y.iG b M)with z | M
  ·intro hc;obtain⟨y,_,hy⟩:=Jt b hc;exact Y.yz y b hy z
  ·obtain⟨_,o,ho,_⟩:=Y.ok.dN.mem M;exact IY ho
 have cells:II (jN s1.heap (cl.map (·.2)) H1) cl cv:=by
  obtain⟨m,hn,hl⟩:=Y.loc;have key:∀(Z:List (Str×Addr)) (S:List Nat) (U:List V),iF X Z S->(S.map λi=>σ[i]?)=U.map (λv=>some (some v))->(∀ b∈Z.map (·.2),b∈cl.map (·.2))->II (jN s1.heap (cl.map (·.2)) H1) Z U:=by
   intro Z
   induction Z with
   | nil=>
    intro S U h1 h2 _;cases S with
    | nil=>cases U with
     | nil=>trivial
     | cons v U=>cases h2
    | cons i S=>exact h1.elim
   | cons a Z ih=>
    intro S U h1 h2 h3;obtain⟨y,c⟩:=a;cases S with
    | nil=>exact h1.elim
    | cons i S=>
     cases U with
     | nil=>cases h2
     | cons v U=>
      obtain⟨⟨e1,e2,_,e4⟩,t⟩:=h1;have VD:=List.cons.inj h2;obtain⟨u,rv,l⟩:=hl i y v e1 VD.1 (.inr (.inl e2));refine⟨?_,ih S U t VD.2 λb M=>h3 b (List.mem_cons_of_mem _ M)⟩;rcases l with ⟨hk,_⟩ | ⟨_,c',xh,o,ho,hd⟩
      ·have Lm:X.env.scope.names.lookup y=some .local:=hk;rw[e2]at Lm;cases Lm
      ·rw[e4]at xh;cases xh;exact⟨o,u,T_ (h3 c (List.mem_cons_self ..)) ho,hd,rv⟩
  exact key cl is cv J1 hcv λ_ h=>h
 have e1:=Y.xq;have e0:fc X.prog X.w X.K X.mg X.base X.A X.stack s1 (jN s1.heap (cl.map (·.2)) H1):=by
  refine⟨e1.frames,e1.mod,λb o z=>⟨(e1.bs b o z).1,?_⟩,e1.oo,e1.dN,λb M=>?_,λa o z=>?_,e1.bare⟩
  ·rw[O (IY (Y.ok.bs b o z).1)];exact(e1.bs b o z).2
  ·rw[O (XB b M)];exact e1.rM b M
  ·by_cases ha:a∈cl.map (·.2)
   ·obtain⟨ob,ho⟩:=yA a ha;rw[T_ ha ho]at z;cases z;exact⟨ho,_,ho⟩
   ·rw[O ha]at z;exact(Y.aD a o z).dY (λ_ _ _ q=>q) (λb q=>sm _ _ q) λb xs q=>sm _ _ q
 have hl:us.length=ps.length:=by rw[<- r.length];exact F.len _ _ _ _ (q _ sm cells)
 refine wpAny_call (codeAny_mono (F.run X.A X.stack s1 _ ⟨us,[]⟩ us vs _ E0 hr e0 (by have:=B s1 us Y.d8 (by rw[List.append_nil];exact hl);rw[List.append_nil]at this;exact this) r (q _ sm cells)) λrr s' hq=>?_);cases rr with
 | error e=>exact False.elim hq
 | ok fl=>
  cases fl with
  | next=>exact False.elim hq
  | brk=>exact False.elim hq
  | cont=>exact False.elim hq
  | ret u=>
   obtain⟨v,H',Y2,bare,un,aD,rv,qv⟩:=hq;have fz:∀{b:Addr},b∈cl.map (·.2) -> ∃ o,aP (s1.heap.get? b=some o) (H' b=some (.cx o (.own b))) (s'.heap.get? b=some o):= fun {b} M=>by
    obtain⟨o,ho⟩:=yA b M;have z:=un.fx b o _ (T_ M ho);exact⟨o,ho,z,(aD b _ z).1⟩
   obtain⟨H3,Lr⟩:∃ H3:Hp,H3=λb=>if b∈cl.map (·.2)then none else H' b:=⟨_,J⟩
   have Kb:∀{b:Addr},b∈cl.map (·.2)->H3 b=none:=λM=>by rw[Lr];exact ZL M
   have N:∀{b:Addr},b ∉ cl.map (·.2)->H3 b=H' b:=λM=>by rw[Lr];exact ZJ M
   have bk:Back H1 H' H3:=λb o e z=>by
    have M:b ∉ cl.map (·.2):=λM=>by
     rcases z with z | z
     ·obtain⟨y,_,hy⟩:=Jt b M;exact z (Y.cZ y b hy)
     ·obtain⟨ob,_,h2,_⟩:=fz M;rw[e]at h2;cases h2;exact z _ _ J
    rw[N M];exact e
   have nz:∀{b:Addr}{o:HO},H' b=some o->(∀ ob u,o ≠ .cx ob u)->H3 b=some o:=λe n=>bk _ _ e (.inr n);refine⟨v,H3,Y.iB (ch:=[]) Y2 ⟨λb o e n M hx=>?_,λb o e n M hx=>?_,λb o e n hx=>?_,λb o e hx=>un.there b o e hx,λb xs e=>?_,λb o u e=>?_,λb qs e=>?_⟩ (λa o e=>?_) bare (λb z=>absurd z (by simp)),rv,qv H3 bk⟩
   ·by_cases hc:b∈cl.map (·.2)
    ·obtain⟨o',h1,_,h2⟩:=fz hc;rw[e]at h1;cases h1;exact h2
    ·exact un.keep b o e (by rw[O hc];exact n) M hx
   ·exact un.slot b o e (by rw[O (XB b M)];exact n) M hx
   ·by_cases hc:b∈cl.map (·.2)
    ·exact Kb hc
    ·rw[N hc];exact un.free b o e (by rw[O hc];exact n) hx
   ·rw[N (K6 e)];exact un.fJ b xs (sm _ _ e)
   ·rw[N (K6 e)];exact un.fx b o u (sm _ _ e)
   ·obtain⟨more,z⟩:=un.fK b qs (sm _ _ e);exact⟨more,by rw[N (K6 e)];exact z⟩
   ·by_cases hc:a∈cl.map (·.2)
    ·rw[Kb hc]at e;cases e
    ·rw[N hc]at e;exact(aD a o e).dY (λ_ _ _ q=>q) (λb q=>nz q (by intro _ _ z;cases z)) λb xs q=>nz q (by intro _ _ z;cases z)
structure j7(K:Fg)(mg:Mg)(x:Str)(st:Stmt)(ps:List Str)(c T:Addr):Prop where
 ex:Cn λ(f:Addr) (oc:Value) (od an:Option Addr) (kV doc pm ct:Value) (IU:Array (Option Value))=>dw (K.lookup f=some ⟨oc,od,.func (PySem.W.fnOf x x (vP st) (kc st) (aI st) .none kV doc pm an (.ref c) ct),IU⟩) (PySem.W.codeIn K (.ref c) x=true) (PySem.W.keepIn K (.ref f)=true) ((∀ us:List Value,us.length=ps.length->bindArgs (PySem.W.fnOf x x (vP st) (kc st) (aI st) .none kV doc pm an (.ref c) ct) ⟨us,[]⟩=pure (ps.zip us))) (mg x=some (.ref f))
 hd:PySem.W.codeHdIn K c T=true
def Q14{K:Fg}{h:Heap}{mg:Mg}{x:Str}{st:Stmt}{ps:List Str}{f c T:Addr}{U:Value}{S N:Option Addr}{M:Array (Option Value)}{kV B I ct:Value}
  (Z:K.In h) (G:h.Ns mainGlobals mg) (a:PySem.W.nsIn K mainGlobals x=some (some (.ref f)))
  (l:K.lookup f=some ⟨U,S,.func (PySem.W.fnOf x x (vP st) (kc st) (aI st) .none kV B I N (.ref c) ct),M⟩)
  (Y:PySem.W.codeIn K (.ref c) x=true) (k:PySem.W.keepIn K (.ref f)=true) (hd:PySem.W.codeHdIn K c T=true)
  (b:∀(kV B I:Value)(N:Option Addr)(O ct:Value)(us:List Value),us.length=ps.length->bindArgs (PySem.W.fnOf x x (vP st) (kc st) (aI st) .none kV B I N O ct) ⟨us,[]⟩=pure (ps.zip us)) :
  j7 K mg x st ps c T:=⟨⟨f,U,S,N,kV,B,I,ct,M,l,Y,k,b kV B I N (.ref c) ct,PySem.W.mg_of Z G a⟩,hd⟩
def j7.jd{P:Program}{w:World}{K:Fg}{mg:Mg}{base:Heap}{k:Nat}{x:Str}{st:Stmt}{N ps:List Str}{c T:Addr}{sp:Sp}(d:j7 K mg x st ps c T)(S:aa N ps (aI st))(len:∀ vs H Q E,sp vs H Q E->vs.length=ps.length)
  (B:∀(f:Addr)(A:Around)(outer:List Env)(s:Shared)(H:Hp)(vs:List V)(Q:VK)(E:XK),bK k (A.deeper (envOfC x (aI st) s.heap.objs.size f (.ref c)))->sp vs H Q E ->
   ∃ t,jf (jb il P w K mg base N x (aI st) f (.ref c) A outer s H E).BJ (kc st) t/\t { nx:=λ_ H'=>Q .bf H',rt:=Q } (start N vs) H):yD P w K mg base (k+1) x ps sp:=by
 obtain⟨f,oc,od,an,kV,Y,Z,ct,O,U,M,kp,W,hm⟩:=d.ex;refine⟨f,_,yv U M S len λA outer s H vs Q E hr I=>?_,.all W,kp,hm⟩;obtain⟨t,h,q⟩:=B f A outer s H vs Q E hr I;exact⟨t,h.BJ,q⟩
def FW(K:Fg)(ts:List Addr):Sp:=λvs H Q _=>∃(a:Addr)(ns:List Int),vs=[.ref a]/\ao K H a (ns.map V.int)/\ns.length<=63/\(∀ T∈ts,H T=some (.fG #[]))/\(∀ b ys,H b≠some (.lst ys)) /\ ∀ H',Q (.bl true) H'
theorem MT{P:Program}{w:World}{K:Fg}{k:Nat}{fa:Addr}{fd:FuncData}{s₁:Shared}{vs:List Value}{ns:List Int}{ts:List (Addr×Addr)}
  (KX:K.In s₁.heap) (rD:s₁.heap.Ns mainGlobals mg) (B:s₁.heap.Ns builtinsNs mb) (hbb:∀ x:Str,x ≠ "__name__" -> mb x=bootBuiltins x) (UT:s₁.heap.NoLimit) (hbm:BMain mg s₁.heap) (hg:s₁.gens = #[])
  (ha:s₁.heap.get? a=some { cls:=.type "list", data:=.seq vs.toArray }) (hi:IntsAre vs ns) (hl:ns.length<=63) (hr:bK k callerA)
  (CL:∀ q∈ts,PySem.W.codeHdIn K q.1 q.2=true/\K.lookup q.2=none) (hT:∀ T∈ts.map (·.2),s₁.heap.get? T=some (PySem.W.tabObj #[]))
  (F:∀ base:Heap,K.In base->base.Ns mainGlobals mg->BMain mg base->cC P w K mg base il k fa fd [x] (FW K (ts.map (·.2)))) (U:∀(s:Shared)(u:Value),BindsTo s fd ⟨[u],[]⟩ [(x,u)]) :
  codeAny (model P w) callerA (.call (.ref fa) ⟨[.ref a],[]⟩) (λr s'=>r = .ok (.ret (.bool true))/\OldK s₁.heap s'.heap/\s'.os=s₁.os/\AllBare s'.gens) s₁:=by
 have rv:=kH hi;have TQ:=hi.length;have ua:ns.length<=sizeLine:=ZT hl ∅;have Y8:a ∉ ts.map (·.2):=λz=>by
  have:=hT a z;rw[ha]at this;cases this
 have core:∀ H:Hp,ao K H a (ns.map V.int)->c9 P w H s₁.heap->(∀ T∈ts.map (·.2),H T=some (.fG #[]))->(∀ b u,H b=some u->b∈ts.map (·.2)\/(b=a/\K.lookup a=none/\aO λo v=>u = .cx o v)) ->
   codeAny (model P w) callerA (.call (.ref fa) ⟨[.ref a],[]⟩) (λr s'=>r = .ok (.ret (.bool true))/\OldK s₁.heap s'.heap/\s'.os=s₁.os/\AllBare s'.gens) s₁:=by
  intro H hS aD Y hA;have I:∀{b:Addr}{o:Obj},s₁.heap.get? b=some o->H b=none->(gO s₁.heap H).get? b=some o:=λe n=>rF e n;have free:∀{b:Addr}{o:Obj},s₁.heap.get? b=some o->(∀ ys n,o.data ≠ .seq ys n)->(∀ ys,o.data ≠ .fields ys)->H b=none:=fun {b o} e d1 d2=>by
   cases q:H b with
   | none=>rfl
   | some u=>
    rcases hA b u q with z | ⟨z,_⟩
    ·have:=hT b z;rw[e]at this;cases this;exact absurd J (d2 _)
    ·subst z;rw[ha]at e;cases e;exact absurd J (d1 _ _)
  have O:∀{b:Addr}{m:Mg},s₁.heap.Ns b m->(gO s₁.heap H).Ns b m:=fun {b m} ⟨o,es,ep,e,d,r⟩=>⟨o,es,ep,I e (free e (by rw[d];intro _ _ z;cases z) (by rw[d];intro _ z;cases z)),d,r⟩
  have Xu:K.In (gO s₁.heap H):=λb o e=>I (KX b o e) (by
   cases q:H b with
   | none=>rfl
   | some u=>
    rcases hA b u q with z | ⟨z,h2,_⟩
    ·obtain⟨⟨c,T⟩,hq,rfl⟩:=eE z;rw[(CL _ hq).2]at e;cases e
    ·subst z;rw[h2]at e;cases e)
  have hM:Mod K mg (gO s₁.heap H):=⟨Xu,O rD,⟨mb,O B,hbb⟩,let ⟨mc,h1,h2⟩:=UT;⟨mc,O h1,h2⟩⟩
  have hBM:BMain mg (gO s₁.heap H):=by obtain⟨bm,ob,b1,b2,b3,b4,b5,b6⟩:=hbm;exact⟨bm,ob,b1,b2,I b3 (free b3 (by rw[b6];intro _ _ z;cases z) (by rw[b6];intro _ z;cases z)),b4,b5,b6⟩
  have e0:fc P w K mg (gO s₁.heap H) callerA [] s₁ H:=⟨J,hM,λb o e=>wJ e,Nat.le_of_eq (NF _ _),trivial,λb B=>absurd (show b∈([]:List Addr)from B) (by simp),aD,.of_eq hg⟩
  refine codeAny_mono ((F _ Xu (O rD) hBM).run callerA [] s₁ H ⟨[.ref a],[]⟩ [.ref a] [.ref a] (λv _=>v = .bl true) (λ_ _ _=>False) hr e0 (U s₁ (.ref a)) (.cons J .nil) ⟨a,ns,J,hS,hl,Y,λb ys e=>(hA b _ e).elim (λz=>by rw[Y b z]at e;cases e) (λ⟨_,_,_,_,z⟩=>nomatch z),λ_=>J⟩) λr s' h=>?_;cases r with
  | error e=>exact False.elim h
  | ok fl=>
   cases fl with
   | next=>exact False.elim h
   | brk=>exact False.elim h
   | cont=>exact False.elim h
   | ret u=>
    obtain⟨v,H',os,bare,un,S,r',q⟩:=h;have q':v = .bl true:=q;subst q';obtain rfl:u=Value.bool true:=r';have tab:∀ b∈ts.map (·.2),∃ ps,s'.heap.get? b=some (PySem.W.tabObj ps):=λb B=>by
     obtain⟨more,z⟩:=un.fK b _ (Y b B);exact⟨_,S b _ z⟩
    have keep:∀ b o,b ∉ ts.map (·.2)->s₁.heap.get? b=some o->s'.heap.get? b=some o:=λb o B e=>by
     cases q:H b with
     | none=>exact un.keep b o e q (by intro z;exact absurd (show b∈([]:List Addr)from z) (by simp)) (by simp)
     | some u=>
      rcases hA b u q with z | ⟨_,_,ob,v,rfl⟩
      ·exact absurd z B
      ·obtain⟨e1,_⟩:=aD b _ q;obtain⟨e2,_⟩:=S b _ (un.fx b ob _ q);rw[e]at e1;cases e1;exact e2
    refine⟨J,⟨λb o e=>?_,λb o e=>?_⟩,os,bare⟩
    ·by_cases B:b∈ts.map (·.2)
     ·obtain⟨ps,hP⟩:=tab b B;have e2:=hT b B;rw[e]at e2;cases e2;obtain⟨⟨c,T⟩,hq,rfl⟩:=eE B;exact .inr (.inl ⟨((PySem.W.codeHd_of_K KX (CL _ hq).1).tab (hT _ B)).isCodeTable,J,#[],ps,J,by rw[Array.empty_append];exact hP⟩)
     ·exact .inl (keep b o B e)
    ·by_cases B:b∈ts.map (·.2)
     ·obtain⟨ps,hP⟩:=tab b B;exact⟨_,hP⟩
     ·exact⟨o,keep b o B e⟩
 have N:∀{H:Hp}{T:Addr},T∈ts.map (·.2)->bg P w H s₁.heap T (.fG #[]):=λh=>hT _ h;cases hk:K.lookup a with
 | some o=>
  have e:=KX a o hk;rw[ha]at e;cases e;refine core (λb=>if b∈ts.map (·.2)then some (.fG #[])else none) (.inr ⟨_,vs.toArray,_,hk,J,J,J,by rw[List.size_toArray,TQ];exact ua,by simpa using rv⟩) (λb u z=>?_) (λT h=>ZL h) λb u z=>?_
  ·by_cases B:b∈ts.map (·.2)
   ·have M:=(ZL B).symm.trans z;cases M;exact N B
   ·have M:=(ZJ B).symm.trans z;cases M
  ·by_cases B:b∈ts.map (·.2)
   ·exact .inl B
   ·have M:=(ZJ B).symm.trans z;cases M
 | none=>
  refine core (λb=>if b=a then some (.cx { cls:=.type "list", data:=.seq vs.toArray } (.lst (ns.map V.int)))else if b∈ts.map (·.2)then some (.fG #[])else none) (.inl (.inr ⟨{ cls:=.type "list", data:=.seq vs.toArray },ZL J⟩)) (λb u z=>?_) (λT h=>?_) λb u z=>?_
  ·by_cases B:b=a
   ·have M:=(ZL B).symm.trans z;cases M;subst B;exact⟨ha,by rw[List.length_map];exact ua,vs,_,rv,ha⟩
   ·have M:=(ZJ B).symm.trans z;by_cases Z:b∈ts.map (·.2)
    ·have z2:=(ZL Z).symm.trans M;cases z2;exact N Z
    ·have z2:=(ZJ Z).symm.trans M;cases z2
  ·have eP:¬ T=a:=λz=>Y8 (z▸h);show(if T=a then _ else if T∈ts.map (·.2)then some (HO.fG #[])else none)=_;rw[ZJ eP];exact ZL h
  ·by_cases B:b=a
   ·have M:=(ZL B).symm.trans z;cases M;exact .inr ⟨B,hk,_,_,J⟩
   ·have M:=(ZJ B).symm.trans z;by_cases Z:b∈ts.map (·.2)
    ·exact .inl Z
    ·have z2:=(ZJ Z).symm.trans M;cases z2
def C9{l:PySem.W.OpenLaw}{k:Nat}{q:Program}{loose:List Str}{XP:(Mg)->Heap->Prop}{U:World->Heap->Prop}{d:DefRec}{K:Params->Fg}(ts:List (Addr×Addr))(hr:bK k callerA)(hn:l.most=some 63)(O:d.params.defaults=[])
  (hY:∀(w:World)(h:Heap),U w h->(K w.params).In h) (S:∀(w:World)(h:Heap),U w h -> ∀ T∈ts.map (·.2),h.get? T=some (PySem.W.tabObj #[]))
  (F:∀(w:World)(mg:Mg)(I:Addr)(h:Heap),(K w.params).In h->h.Ns mainGlobals mg->mg d.name=some (.ref I)->(∀ q∈ts,PySem.W.codeHdIn (K w.params) q.1 q.2=true/\(K w.params).lookup q.2=none) /\
   ∃ fd:FuncData,(∀(s:Shared)(u:Value),BindsTo s fd ⟨[u],[]⟩ [("_law_script", u)]) /\ ∀ base:Heap,(K w.params).In base->base.Ns mainGlobals mg->BMain mg base->cC l.prog w (K w.params) mg base il k I fd ["_law_script"] (FW (K w.params) (ts.map (·.2)))) :
  PySem.W.WalkO q loose XP U l.row.toRowW d [] (λf vs=>PySem.call f vs):=by
 refine Att.fL hn O λw s₀ s₁ mg mb I o pm cd doc a vs ns G Y ho hd CW N B hints hlen hg=>?_;have Z:=hY w _ Y;obtain⟨M,fd,hb,hF⟩:=F w mg I _ Z G.T.g N;obtain⟨bm,ob,b1,b2,b3,b4,b5,b6⟩:=G.T.bmain;exact MT Z G.T.g G.T.b G.T.builtins G.T.nolimit ⟨bm,ob,b1,b2,b3,b4,b5,b6⟩ hg B hints hlen hr M (S w _ Y) hF hb
def wX{P:Program}{w:World}{K:Fg}{mg:Mg}{k:Nat}{st:Stmt}{I:Addr}{ts:List Addr}(d:Def K mg "law" st ["_law_script"])
  (F:∀(base:Heap)(f:Addr)(fd:FuncData),BMain mg base->lS K "law" "law" st f fd->cC P w K mg base il k f fd ["_law_script"] (FW K ts)) (B:mg "law" = some (.ref I)) :
  ∃ fd:FuncData,(∀(s:Shared)(u:Value),BindsTo s fd ⟨[u],[]⟩ [("_law_script", u)]) /\ ∀ base:Heap,K.In base->base.Ns mainGlobals mg->BMain mg base->cC P w K mg base il k I fd ["_law_script"] (FW K ts):=by
 obtain⟨f,fd,h1,h2,M⟩:=d.ex;have e:=B.symm.trans M;cases e;exact⟨fd,λs u=>.of_eq (h2 [u] J),λbase _ _ N=>F base _ _ N h1⟩
def ay{b:Bool}{A B:Prop}(h1:b=true->A)(h2:¬ b=true->B):if b=true then A else B:=by
 cases b
 ·exact h2 fnt
 ·exact h1 J
def KJ(i:Nat):TE:=λσ H Q=>match σ[i]? with
 | some (some v)=>Q v H
 | _=>False
def mI(g:Int->Int->V):R2:=λx y H Q=>match x,y with
 | .int i,.int j=>Q (g i j) H
 | _,_=>False
def l8(t:TE):TT:=λσ H Q=>t σ H λx H'=>match x with
 | .bl k=>Q k H'
 | _=>False
def yP{i:Nat}(h:KJ i σ H Q):yQ i σ H Q:=by
 unfold KJ at h;cases e:σ[i]? with
 | none=>rw[e]at h;cases h
 | some o=>
  rw[e]at h;cases o with
  | none=>cases h
  | some v=>exact⟨v,e,h⟩
def pr(i:Nat){pos:Pos}(O:X.N[i]? = some x:=by rfl)(M:Kn X.env.scope x:=by walk_at "b") (hd:(x==("__debug__" : Str))=false:=by decide)
  (B:(x==("__classdict__" : Str))=false:=by decide):PE X (.Name x pos) (KJ i):=λpins s σ H Q I h=>ND O M hd B s σ H Q I (yP h)
def kb{pos:Pos}(O:X.N[0]? = some x:=by rfl)(M:Kn X.env.scope x:=by walk_at "b") (hd:(x==("__debug__" : Str))=false:=by decide)  (B:(x==("__classdict__" : Str))=false:=by decide):PE X (.Name x pos) (KJ 0):=pr 0 O M hd B
def kv{pos:Pos}(O:X.N[1]? = some x:=by rfl)(M:Kn X.env.scope x:=by walk_at "b") (hd:(x==("__debug__" : Str))=false:=by decide)  (B:(x==("__classdict__" : Str))=false:=by decide):PE X (.Name x pos) (KJ 1):=pr 1 O M hd B
def bv{pos:Pos}(O:X.N[2]? = some x:=by rfl)(M:Kn X.env.scope x:=by walk_at "b") (hd:(x==("__debug__" : Str))=false:=by decide)  (B:(x==("__classdict__" : Str))=false:=by decide):PE X (.Name x pos) (KJ 2):=pr 2 O M hd B
def bi{pos:Pos}(O:X.N[3]? = some x:=by rfl)(M:Kn X.env.scope x:=by walk_at "b") (hd:(x==("__debug__" : Str))=false:=by decide)  (B:(x==("__classdict__" : Str))=false:=by decide):PE X (.Name x pos) (KJ 3):=pr 3 O M hd B
def Jf(h:mI g x y H Q):tR g x y H Q:=by
 cases x with
 | int i=>
  cases y with
  | int j=>exact⟨_,_,J,J,h⟩
  | _=>exact h.elim
 | _=>exact h.elim
def cy.m(o:cy X op (tR g)):cy X op (mI g):=λpins s σ H x y v u Q I M B h=>o pins s σ H x y v u Q I M B (Jf h)
def dk:cy X (binaryOp .Add) (mI λi j=>.int (i+j)):=IA.m
def lW:cy X (binaryOp .Sub) (mI λi j=>.int (i-j)):=Eu.m
def bS:cy X (compareOp .Lt) (mI λi j=>.bl (decide (i<j))):=jF.m
def dq:cy X (compareOp .LtE) (mI λi j=>.bl (decide (i<=j))):=ix.m
def cD:cy X (compareOp .Gt) (mI λi j=>.bl (decide (j<i))):=jG.m
def qX(t:TE):l8 t=jl t:=by
 funext σ H Q;show t σ H _=t σ H _;congr 1;funext x H';apply propext;constructor
 ·intro h;cases x with
  | bl k=>exact⟨k,J,h⟩
  | _=>exact h.elim
 ·rintro ⟨k,rfl,h⟩;exact h
section
variable{a b:Expr}{ta tb:TE}{pos:Pos}
def A4(B:cy X (compareOp op) r)(M:PE X a ta)(I:PE X b tb)(hm:behindInMarks op b=false):PT X (.Compare a [op] [b] pos) (l8 (tO r ta tb)):=by rw[qX];exact A6 B M I hm
end
def wR(K:Fg):R2:=λx y H Q=>match x,y with
 | .ref p,.int i=>aO λxs v=>aP (au K H p xs) (fC xs i=some v) (Q v H)
 | _,_=>False
def wV(K:Fg):R2:=λx y H Q=>match x,y with
 | .ref p,.int i=>aO λxs v=>aP (ao K H p xs) (fC xs i=some v) (Q v H)
 | _,_=>False
def wQ{K:Fg}{x y:V}{H:Hp}{Q:VK}(h:wR K x y H Q):zp K x y H Q:=by
 cases x with
 | ref p=>
  cases y with
  | int i=>obtain⟨xs,v,h1,h2,B⟩:=h;exact⟨_,xs,_,v,J,J,h1,h2,B⟩
  | _=>exact h.elim
 | _=>exact h.elim
def wU{K:Fg}{x y:V}{H:Hp}{Q:VK}(h:wV K x y H Q):DA K x y H Q:=by
 cases x with
 | ref p=>
  cases y with
  | int i=>obtain⟨xs,v,h1,h2,B⟩:=h;exact⟨_,xs,_,v,J,J,h1,h2,B⟩
  | _=>exact h.elim
 | _=>exact h.elim
section
variable {K:Fg}
def bh:ow X (wR X.K):=λB M pins s σ H x y v u Q I O N h hs=>HG B M pins s σ H x y v u Q I O N (wQ h) hs
def cS:ow X (wV X.K):=λB M pins s σ H x y v u Q I O N h hs=>vB B M pins s σ H x y v u Q I O N (wU h) hs
def kW(B:X.K=K):ow X (wR K):=B▸bh
def AG(B:X.K=K):ow X (wV K):=B▸cS
end
end L2
namespace L2
open PySem PySem.Spec PyProof.Rows PyProof.Rows.KTD
variable {X:Cx}
def oW:Value->Option Str
 | .str x _=>some x
 | _=>none
def sW(K:Fg)(a:Addr)(D:List (Str×Str)):Prop:=tabLook (λ(d:Str) (v:Value)=>decide (oW v=some d)) (λb=>List.lookup b K) a D=true
def Ec(h:oW v=some d):RelV (.str d) v:=by
 cases v with
 | str x t=>cases h;exact⟨t,J⟩
 | _=>cases h
def sW.at{s:Shared}(I:Inv X pins σ H s)(t:sW X.K a D):TabOf (λ(d:Str) (v:Value)=>RelV (.str d) v) s.heap a D:=
 tab_of_look (L:=λ(d:Str) (v:Value)=>decide (oW v=some d)) (λd v h=>Ec (ZI h)) (λb o h=>I.d8 b o h) t
inductive Oq(K:Fg)(x:V)(y:V)(H:Hp)(Q:VK):Prop
 |mk(k:Str)(a:Addr)(D:List (Str×Str))(_:x = .str k)(_:y = .ref a)(_:sW K a D)(_:Q (.bl (!inKeys k D)) H)
def zO:cy X (compareOp .NotIn) (Oq X.K):=by intro pins s σ H x y v u Q I M B h;obtain⟨k,a,D,rfl,rfl,t,q⟩:=h;obtain⟨tk,rfl⟩:=M;cases B;exact pP (t.at I) (λ_ _ z=>z) ⟨.bl (!inKeys k D),H,I.tok _,J,q⟩
inductive tu(K:Fg)(x:V)(y:V)(H:Hp)(Q:VK):Prop
 |mk(a:Addr)(k:Str)(D:List (Str×Str))(d:Str)(_:x = .ref a)(_:y = .str k)(_:sW K a D)(_:datumAt k D=some d)(_:Q (.str d) H)
def xa:ow X (tu X.K):=by intro value slice pins s σ H x y v u Q I M B h hs;obtain⟨a,k,D,d,rfl,rfl,t,hd,q⟩:=h;cases M;obtain⟨tk,rfl⟩:=B;exact tail_any (vr (t.at I) (λ_ _ z=>z)) slot_dict_getitem.lookup (AU (t.at I) (λ_ _ z=>z) hd λv N=>⟨.str d,H,I.tok _,N,q⟩) hs
noncomputable def zk(scope bB:Scope):Scope:={ scope with names:=dD scope bB }
def qE{X:Cx}{B uL:Scope}{M:List (Str×Addr)}{C0:Addr}{U:Str}{N0:List Str}{W:Shared}{H0:Hp}{I:List Addr}{Z O:Expr}{x:Str}{px pos:Pos}{scope:Scope}{wi:TI}{te:TE}
  (Y:X.env.scope=uL) (hc:X.calm=true) (hi:PI (dz X B M C0 U N0 W H0 I) (.Name x px) O wi) (he:∀(C:Addr)(s₂:Shared)(H₂:Hp)(fp:List Addr),PE (dz (dz X B M C0 U N0 W H0 I) scope [] C x [] s₂ H₂ fp) Z te)
  (S:closureFor scope (dz X B M C0 U N0 W H0 I).env=pure []) (hk:scope.kind = .function) (aD:dv scope (zk B uL) x [] [])
  (hs:∀ v,foldedSetIterable O (dz X B M C0 U N0 W H0 I).env v=pure v:=by intro _;rfl) :
  PE (dz X B M C0 U N0 W H0 I) (.ListComp Z [⟨.Name x px,O,[],0⟩] scope pos) (oR wi te []):=by
 refine kf (cl:=[]) (cn:=[]) (N:=[]) (fr:=[]) (bB:=zk B uL) hc hi he S trivial J ?_ hk aD J hs;show relabel B X.env=_;unfold relabel zk dD Env.kindOf;rw[Y]
def wq{X:Cx}{tg l:Expr}{tl:TE}{K:Fg}(I:X.K=K)(B:PE X l tl):PI X tg l (Jw K tl):=by subst I;exact mE B
def qT{X:Cx}{K:Fg}(B:X.K=K):xM X "str.join" (uX K):=by subst B;exact Ba
end L2
namespace TS
set_option autoImplicit false
open PySem PySem.W PyProof.Rows List
section
variable {n:Nat}{f:Nat->Nat->Bool}{p:Array Nat}
def kw(f:Nat->Nat->Bool)(n:Nat){α:Type}:KasT α->(α->Prop)->Prop
 | .ret a,Q=>Q a
 | .ask i j k,Q=>i<n/\j<n/\kw f n (k (f i j)) Q
theorem q_{B:Nat->Nat->(Bool->Shared->Prop)->Shared->Prop}{s:Shared}(I:∀ i j C,i<n->j<n->C (f i j) s->B i j C s){α:Type}{Q:α->Prop}{G:α->Shared->Prop}(M:∀ a,Q a->G a s):∀ t:KasT α,kw f n t Q->t.kasWp B G s
 | .ret a,h=>M a h
 | .ask i j k,⟨h1,h2,h⟩=>I i j _ h1 h2 (q_ I M _ h)
theorem A_{α:Type}{Q R:α->Prop}(hq:∀ a,Q a->R a):∀ t:KasT α,kw f n t Q->kw f n t R
 | .ret a,h=>hq a h
 | .ask i j k,⟨h1,h2,h⟩=>⟨h1,h2,A_ hq _ h⟩
theorem A3{α β:Type}{g:α->KasT β}{Q:β->Prop}:∀ t:KasT α,kw f n t (λa=>kw f n (g a) Q)->kw f n (t.bind g) Q
 | .ret a,h=>h
 | .ask i j k,⟨h1,h2,h⟩=>⟨h1,h2,A3 _ h⟩
def Od(f:Nat->Nat->Bool)(u:Bool)(p:Array Nat)(a b:Nat):Prop:=∀ i j,a<=i->i<j->j<b->(if u=true then f (p.getD j 0) (p.getD i 0)else f (p.getD i 0) (p.getD j 0))=false
structure Pm(n:Nat)(p:Array Nat):Prop where
 z:p.size=n
 lt:∀ i,p.getD i 0<n
 pm:p.toList.Perm (List.range n)
structure Ord(n:Nat)(f:Nat->Nat->Bool):Prop where
 tr:∀ x y z,x<n->y<n->z<n->f y x=false->f z y=false->f z x=false
 VR:∀ x y,x<n->y<n->f x y=true->f y x=false
def E5{u:Bool}{a:Nat}:Od f u p a (a+1):=λi j h1 h2 B=>(by omega)
def Pm.perm{q:Array Nat}(h:Pm n p)(I:0<n)(e:q.Perm p):Pm n q:=by
 have B:=Array.perm_iff_toList_perm.mp e;have z:q.size=n:=by rw[<- WY,B.length_eq,WY,h.z]
 refine⟨z,λi=>?_,B.trans h.pm⟩;rw[Array.getD_eq_getD_getElem?];cases c:q[i]? with
 | none=>exact I
 | some x=>exact List.mem_range.mp (h.pm.mem_iff.mp (B.mem_iff.mp (ZV (by rw[YC];exact c))))
def Pm.rev(h:Pm n p)(B:0<n)(a b:Nat):Pm n (kas_rev p a b):=h.perm B (mirror_perm ..)
def GN{a b:Nat}(B:b<=p.size)(k:Nat):(kas_rev p a b).getD k 0=p.getD (if a<=k/\k<b then a+b-1-k else k) 0:=by rw[Array.getD_eq_getD_getElem?,Array.getD_eq_getD_getElem?];unfold kas_rev;rw[getElem?_mirror_all B];split <;> rfl
def iy(O:Ord n f)(hp:Pm n p){u:Bool}{a b:Nat}(h:Od f u p a b)(B:a<b)(e:(if u=true then f (p.getD b 0) (p.getD (b-1) 0)else f (p.getD (b-1) 0) (p.getD b 0))=false):Od f u p a (b+1):=λi j h1 h2 I=>by
 by_cases c:j<b
 ·exact h i j h1 h2 c
 obtain rfl:j=b:={}
 by_cases c:i=j-1
 ·rw[c];exact e
 have z:=h i (j-1) h1 {} {};cases u with
 | true=>exact O.tr _ _ _ (hp.lt _) (hp.lt _) (hp.lt _) z e
 | false=>exact O.tr _ _ _ (hp.lt _) (hp.lt _) (hp.lt _) e z
def qN(hp:Pm n p){a k m:Nat}(h:Od f false p 0 m)(I:Od f true p a k)(N:k<=m)(hm:m<=n):Od f false (kas_rev p a k) 0 m:=λi j h1 h2 M=>by
 have B:k<=p.size:=by rw[hp.z];omega
 rw[GN B,GN B];show f _ _=false;split <;> split
 ·exact I _ _ (by omega) (by omega) (by omega)
 ·exact h _ _ (by omega) (by omega) (by omega)
 ·exact h _ _ (by omega) (by omega) (by omega)
 ·exact h _ _ (by omega) h2 M
def Eb(hp:Pm n p){k:Nat}{u:Bool}(h:Od f u p 0 k)(N:k<=n):Od f (!u) (kas_rev p 0 k) 0 k:=λi j h1 h2 O=>by
 have B:k<=p.size:=by rw[hp.z];omega
 have M:=GN (p:=p) (a:=0) B i;have I:=GN (p:=p) (a:=0) B j;rw[ZL ⟨ZX _,(by omega)⟩]at M I;rw[M,I];have:=h (0+k-1-j) (0+k-1-i) (by omega) (by omega) (by omega);cases u <;> exact this
theorem MS(O:Ord n f)(hp:Pm n p)(m k)(B:0<k)(h:Od f true p 0 k):kw f n (kas_asc p m k) λr=>k<=r/\r<=k+m/\Od f true p 0 r/\(r<k+m->f (p.getD r 0) (p.getD (r-1) 0)=true)
:=by
 induction m generalizing k with
 | zero=>exact⟨ZF _,ZF _,h,λc=>absurd c (Nat.lt_irrefl _)⟩
 | succ m i=>
  exists hp.lt _,hp.lt _;cases c:f (p.getD k 0) (p.getD (k-1) 0) with
  | true=>exact⟨ZF _,{},h,λ_=>c⟩
  | false=>exact A_ (by rintro r ⟨a,b,d,e⟩;exact⟨{},{},d,λz=>e {}⟩) _ (i (k+1) {} (iy O hp h B c))
theorem QR(O:Ord n f):∀ m p k q,Pm n p->0<k->k+m<=n->q<k->Od f false p 0 k->Od f true p (k-(q+1)) k->kw f n (kas_desc m p k q) λr=>Pm n r.1/\0<r.2.1/\r.2.1<=n/\r.2.2<r.2.1/\Od f false r.1 0 r.2.1/\Od f true r.1 (r.2.1-(r.2.2+1)) r.2.1
 | 0,p,k,q,hp,I,N,hq,h,B=>⟨hp,I,N,hq,h,B⟩
 | m+1,p,k,q,hp,I,N,hq,h,B=>⟨hp.lt _,hp.lt _,by
  have one:∀ M:Array Nat,Od f true M (k+1-(0+1)) (k+1):=λM=>E5;cases c:f (p.getD k 0) (p.getD (k-1) 0) with
  | true=>
   have h':=iy O hp h I (O.VR _ _ (hp.lt _) (hp.lt _) c);show kw f n (if q > 0 then _ else _) _;split
   ·exact QR O m _ _ _ (hp.rev (by lia) _ _) (by lia) (by lia) (by lia) (qN hp h' B (by lia) (by lia)) (one _)
   ·exact QR O m _ _ _ hp (by lia) (by lia) (by lia) h' (one _)
  | false=>
   exists hp.lt _,hp.lt _;cases d:f (p.getD (k-1) 0) (p.getD k 0) with
   | true=>exact⟨hp,I,by show k<=n;lia,hq,h,B⟩
   | false=>exact QR O m _ _ _ hp (by lia) (by lia) (by lia) (iy O hp h I d) (by rw[show k+1-(q+1+1)=k-(q+1) by lia];exact iy O hp B (by lia) c)⟩
abbrev Run(n:Nat)(f:Nat->Nat->Bool)(r:Nat×Array Nat):Prop:=Pm n r.2/\1<=r.1/\r.1<=n/\Od f true r.2 0 r.1
def E4(O:Ord n f)(hp:Pm n p){k:Nat}(M:0<k)(I:k<=n)(h:Od f false p 0 k):kw f n (kas_tail3 k n p) (Run n f):=
 have B:=hp.rev (by omega) 0 k
 A3 _ (A_ (λm ⟨a,b,d,_⟩=>⟨B,(by omega),(by omega),d⟩) _ (MS O B (n-k) k M (Eb hp h I)))
def Ea(O:Ord n f)(hp:Pm n p){k:Nat}(Z:0<k)(Y:k<n)(h:Od f false p 0 (k+1)):kw f n (kas_descPart k n p) (Run n f):=by
 refine A3 _ (A_ ?_ _ (QR O (n-(k+1)) p (k+1) 0 hp {} {} {} h E5));rintro ⟨U,W,q'⟩ ⟨I,N,B,g4,M,S⟩;show kw f n (if q' > 0 then _ else _) _;split
 ·exact E4 O (I.rev {} _ _) N B (qN I M S (ZF _) B)
 ·exact E4 O I N B M
def rb(O:Ord n f)(hp:Pm n p)(S:0<n):kw f n (kas_count n p) (Run n f):=by
 refine A3 _ (A_ ?_ _ (MS O hp (n-1) 1 (by lia) E5));rintro r ⟨N,W,I,U⟩;show kw f n (if(r==n)=true then _ else _) _;split
 ·exact⟨hp,N,by show r<=n;lia,I⟩
 rename_i c;have hr:r<n:=by have:¬ r=n:=λe=>c (by rw[e];exact beq_self_eq_true n);lia
 have e:=O.VR _ _ (hp.lt _) (hp.lt _) (U (by lia));split
 ·exists hp.lt _,hp.lt _;cases d:f (p.getD 0 0) (p.getD (r-1) 0) with
  | true=>exact⟨hp,N,by show r<=n;lia,I⟩
  | false=>
   have B:=hp.rev S 0 r;refine Ea O B (by lia) hr (iy O B (Eb hp I (by lia)) (by lia) ?_);have M:r<=p.size:=by rw[hp.z];lia
   show f _ _=false;rw[GN M,GN M,ZL ⟨ZX _,(by lia)⟩,ZJ (by lia),show 0+r-1-(r-1)=0 by lia];exact O.tr _ _ _ (hp.lt _) (hp.lt _) (hp.lt _) e d
 ·refine Ea O hp (by lia) hr (iy O hp ?_ (by lia) e);rw[show r=0+1 by lia];exact E5
theorem QQ(O:Ord n f)(hp:Pm n p){k:Nat}(h:Od f true p 0 k):∀ m l r,l<=r->r<=k->r-l<=m->(∀ i,i<l->f (p.getD k 0) (p.getD i 0)=false)->(∀ i,r<=i->i<k->f (p.getD i 0) (p.getD k 0)=false) ->
  kw f n (kas_place p k m l r) λx=>x<=k/\(∀ i,i<x->f (p.getD k 0) (p.getD i 0)=false) /\ ∀ i,x<=i->i<k->f (p.getD i 0) (p.getD k 0)=false
 | 0,l,r,h1,h2,M,I,B=>⟨(by omega),I,λi c=>B i (by omega)⟩
 | m+1,l,r,h1,h2,M,I,B=>by
  show kw f n (if l>=r then _ else _) _;split
  ·exact⟨(by omega),I,λi c=>B i (by omega)⟩
  exists hp.lt _,hp.lt _;cases c:f (p.getD k 0) (p.getD ((l+r)/2) 0) with
  | true=>
   have e:=O.VR _ _ (hp.lt _) (hp.lt _) c;refine QQ O hp h m _ _ (by omega) (by omega) (by omega) I λi a b=>?_;by_cases z:(l+r)/2=i
   ·rw[<- z];exact e
   ·exact O.tr _ _ _ (hp.lt _) (hp.lt _) (hp.lt _) e (h _ _ (ZX _) (by omega) b)
  | false=>
   refine QQ O hp h m _ _ (by omega) (by omega) (by omega) (λi a=>?_) B;by_cases z:i=(l+r)/2
   ·rw[z];exact c
   ·exact O.tr _ _ _ (hp.lt _) (hp.lt _) (hp.lt _) (h _ _ (ZX _) (show i<(l+r)/2 by omega) (by omega)) c
def sO{k l:Nat}(B:k<p.size)(I:l<=k)(i:Nat):(bubble p k (k-l)).getD i 0=p.getD (if i=l then k else if l<i/\i<=k then i-1 else i) 0:=by
 rw[Array.getD_eq_getD_getElem?,Array.getD_eq_getD_getElem?,getElem?_bubble B _ {},show k-(k-l)=l by lia]
 repeat' split
 all_goals rfl
theorem rd(O:Ord n f):∀ m p k,Pm n p->k+m=n->0<k->Od f true p 0 k->kw f n (kas_bin m p k) λq=>Pm n q/\Od f true q 0 n
 | 0,p,k,hp,e,_,h=>⟨hp,by rw[<- e];exact h⟩
 | m+1,p,k,hp,e,M,h=>by
  refine A3 _ (A_ ?_ _ (QQ O hp h k 0 k (ZX _) (ZF _) (by lia) (λi c=>(by lia)) (λi c d=>(by lia))));rintro l ⟨h1,h2,I⟩;refine rd O m _ (k+1) (hp.perm (by lia) (bubble_perm ..)) (by lia) (by lia) λi j a b c=>?_;have B:k<p.size:=by rw[hp.z];lia
  rw[sO B h1,sO B h1];clear B;show f _ _=false
  repeat' split
  all_goals first | (exfalso;lia) | exact h2 _ (by lia) | exact I _ (by lia) (by lia) | exact h _ _ (ZX _) (by lia) (by lia)
def wY(O:Ord n f)(B:0<n):kw f n (kas_sort n) λq=>Pm n q/\Od f true q 0 n:=by
 have hp:Pm n (List.toArray (List.range n)):=by
  refine⟨by simp,λi=>?_,List.Perm.refl _⟩;rw[Array.getD_eq_getD_getElem?,List.getElem?_toArray];cases c:(List.range n)[i]? with
  | none=>exact B
  | some x=>exact List.mem_range.mp (ZV c)
 refine A3 _ (A_ ?_ _ (rb O hp B));rintro ⟨r,q⟩ ⟨M,S,N,I⟩;show kw f n (if r<n then _ else _) _;rw[Nat.max_eq_left S];split
 ·exact rd O _ q r M {} {} I
 ·exact⟨M,by rw[show n=r by show n=r;have:r<=n:=N;lia];exact I⟩
end
section
variable {prog:Program}{w:World}{A:Around}{E:VS}{κ:SortKind}{P:Keyed->Prop}{lt:Keyed->Keyed->Bool}
def D_{s:Shared}(G:∀(x y:Keyed)(C:Bool->Shared->Prop),P x->P y->C (lt x y) s->wpAny (model prog w) A (keyLt' κ x.1 y.1) C (λ_ _=>False) s)(T:XR P lt){Q:Unit->SortSt->Shared->Prop}{B:Array Keyed}(hp:∀ x∈B.toList,P x)(h2:2<=B.size)(h64:B.size<64)
  (h:∀ I:SortSt,failedOf I=none->(arrOf I).toList.Perm B.toList->((arrOf I).toList.Pairwise λx y=>lt y x=false)->Q () I s):kasC (model prog w) A E sortRuns' Q (SortSt.mk' κ B #[] 7 none) s:=by
 have hm:∀ i,i<B.size->P (kas_item B i):=λi hi=>hp _ (rk hi);have O:Ord B.size λi j=>lt (kas_item B i) (kas_item B j):=⟨λx y z a b c=>T.trans _ _ _ (hm x a) (hm y b) (hm z c),λx y a b=>T.VQ _ _ (hm x a) (hm y b)⟩
 have W:=kas_range B;have N:SortSt.mk' κ B #[] 7 none=kas_st κ B (List.toArray (List.range B.size)):=by show _=SortSt.mk' κ ((List.toArray (List.range B.size)).map (kas_item B)) #[] 7 none;rw[W]
 rw[N];refine kas_runs h2 h64 (G:=λp s'=>s'=s/\Pm B.size p/\Od (λi j=>lt (kas_item B i) (kas_item B j)) true p 0 B.size) ?_ (q_ (λi j C a b c=>G _ _ _ (hm i a) (hm j b) c) (λp hp=>⟨J,hp⟩) _ (wY O {}));rintro p I s' hz U Z ⟨rfl,hq,Y⟩;refine h I Z ?_ ?_
 ·rw[U,Array.toList_map];have e:=hq.pm.map (kas_item B);rw[show(List.range B.size).map (kas_item B)=B.toList by rw[<- congrArg Array.toList W];simp]at e;exact e
 ·rw[U,Array.toList_map,pairwise_map,List.pairwise_iff_getElem];intro i j hi S M;rw[WY]at hi S;have:=Y i j (ZX _) M {};rw[Array.getElem_toList,Array.getElem_toList];simpa [Array.getD,hi,S] using this
end
section
variable {prog:Program}{w:World}{A:Around}{E:VS}{s:Shared}
def FV{a:Addr}{vs:List Value}{n:Nat}{ts:Value->I3}{Q:PySem.Fin->Shared->Prop}(h64:vs.length<64)(U:s.heap.get? a=some (seqObj "list" vs.toArray n)) (hT:∀ v∈vs,cW s.heap v (ts v)) (hz:vs.length<=sizeLine)
  (h:∀ out:Array Value,out.toList.Perm vs->(out.toList.Pairwise λx y=>dJ (ts y) (ts x)=false)->Q (.done (.ret .none)) { s with heap:=sortedHeap s.heap a vs out }):wpAny (model prog w) A (Builtin.«list.sort» ⟨[.ref a],[]⟩) Q E s:=by
 have ha:a<s.heap.objs.size:=ZW U;have S:vs.toArray.size=vs.length:=WC ..;obtain⟨e1,W_⟩:∃ e1,(s.heap.update a (Obj.mapSeq λ_=>(#[]:Array Value))).get? a=some (seqObj "list" #[] e1):=⟨_,get?_update_seq U λ_=>#[]⟩
 rw[list_sort_plain];refine ZA (listItems_at U J (ZA (listUpdate_at U J ?_ (by rw[S];exact hz) (ZX _))));refine ZA (seqEpoch_at W_ J (ZA (wpAny_newTuple (ZA (wpAny_newList (YU ?_) (ZX _))) (by show vs.length<=_;exact hz))));obtain⟨I,e6⟩:∃ I,I=((s.heap.update a (Obj.mapSeq λ_=>(#[]:Array Value))).push (seqObj "tuple" vs.toArray 0)).push (seqObj "list" #[] 0):=⟨_,J⟩
 have M:I.get? a=some (seqObj "list" #[] e1):=by rw[e6];exact ZE _ (ZE _ W_)
 have W:∀ v∈vs,cW I v (ts v):=λv hv=>(hT v hv).keep λb o hb hc=>by
  have nb:b≠a:=λz=>by
   rw[z,U]at hb;cases hb;exact absurd (Value.type.inj hc) ∅
  rw[e6];exact ZE _ (ZE _ (((Heap.SameBut.update s.heap a (Obj.mapSeq λ_=>(#[]:Array Value))).2 b nb).trans hb))
 show wpAny (model prog w) A _ Q E { s with heap:=((s.heap.update a (Obj.mapSeq λ_=>(#[]:Array Value))).push (seqObj "tuple" vs.toArray 0)).push (seqObj "list" #[] 0) };have N:∀ out:Array Value,out.toList.Perm vs->(out.toList.Pairwise λx y=>dJ (ts y) (ts x)=false)->Q (.done (.ret .none)) { s with heap:=I.update a (Obj.mapSeq λ_=>out) }:=λout p1 p2=>by
  rw[e6];exact h out p1 p2
 rw[<- e6];dsimp only;by_cases h2:vs.toArray.size<2
 ·rw[ZL h2,ZL h2];refine ZA (ZO ?_);rw[StateT.run_pure];refine ZA (ZO ?_);dsimp only;have eo:((arrOf (SortSt.mk' general' (vs.toArray.zip vs.toArray) #[] 7 none)).map (·.2))=vs.toArray:=by show(vs.toArray.zip vs.toArray).map (·.2)=vs.toArray;apply Array.toList_inj.mp;simp[map_snd_zip]
  rw[eo];refine ZA (seqEpoch_at M J (ZA (listUpdate_at M J ?_ (ZX _) (by rw[S];lia))));simp only[bne_self_eq_false,Bool.false_eq_true,if_false];refine ZO (N vs.toArray (List.Perm.refl _) ?_)
  match vs,h2 with
  | [],_=>exact .nil
  | [x],_=>exact pairwise_singleton _ _
  | x::y::l,h2=>exact absurd h2 (by simp)
 ·rw[ZJ h2,ZJ h2];obtain⟨fs,k1,k2,k3⟩:=rh vs W;refine ZA (kat_kind (T:=.type "int") (s:={ s with heap:=I }) k1 {} (λv hv=>?_) (by rfl) ?_)
  ·obtain⟨i,t,rfl⟩:=k3 v hv;exact Looks.of_pure J
  have zl:(vs.toArray.zip vs.toArray).toList=vs.zip vs:=by simp
  have pz:∀ x∈(vs.toArray.zip vs.toArray).toList,cW I x.1 (ts x.1):=λx O=>by
   rw[zl]at O;exact W _ (mem_zip_self O).2
  have Y:=D_ (prog:=prog) (w:=w) (A:=A) (E:=E) (s:={ s with heap:=I }) (κ:=tuples' true) (P:=λx=>cW I x.1 (ts x.1)) (lt:=λx y=>dJ (ts x.1) (ts y.1)) (λx y C O hy hc=>VO O hy hc) (LQ ts) (Q:=λ_ B s'=>s' = { s with heap:=I }/\failedOf B=none/\(arrOf B).toList.Perm (vs.zip vs)/\((arrOf B).toList.Pairwise λx y=>dJ (ts y.1) (ts x.1)=false)) pz (by simp;lia) (by simp;lia) (λB f1 f2 f3=>⟨J,f1,zl▸f2,f3⟩);refine ZA (WX Y ?_ λ_ _ e=>e);rintro ⟨⟨⟩,B⟩ s' ⟨rfl,f1,p0,sr⟩;dsimp only;have Z:((arrOf B).map (·.2)).size=vs.length:=by rw[Array.size_map,<- WY,p0.length_eq];simp
  refine ZA (seqEpoch_at M J (ZA (listUpdate_at M J ?_ (ZX _) (ZT (Nat.le_of_eq Z) {}))));rw[f1];simp only[bne_self_eq_false,Bool.false_eq_true,if_false];refine ZO (N _ ?_ ?_)
  ·rw[Array.toList_map];refine(p0.map _).trans (List.Perm.of_eq ?_);exact map_snd_zip (ZF _)
  ·rw[Array.toList_map,pairwise_map];refine List.Pairwise.imp_of_mem ?_ sr;intro x y O hy Zq;have ex:=(mem_zip_self (p0.mem_iff.mp O)).1;have ey:=(mem_zip_self (p0.mem_iff.mp hy)).1;rw[<- ex,<- ey];exact Zq
def VW{l:Addr}{vs:List Value}{ts:Value->I3}{Q:VS}(h64:vs.length<64)(U:s.heap.IsList l vs.toArray)(W:∀ v∈vs,cW s.heap v (ts v))(I:vs.length<=sizeLine)
  (h:∀ out:Array Value,out.toList.Perm vs->(out.toList.Pairwise λx y=>dJ (ts y) (ts x)=false)->Q (.ref (s.heap.objs.size+1)) { s with heap:=sortedAll s.heap vs out }):wpAny (model prog w) A (call (.builtin "sorted") [.ref l]) Q E s:=by
 refine Calls.call_function_entry kind_sorted plain_sorted entry_sorted (args_sorted1 _) ?_;unfold Builtin.«sorted»;refine ZA (m:=checkCount "sorted" 1 1 _) (ZO (ZA (collect_list U (ZA (wpAny_newList ?_ (by show vs.length<=_;exact I))) I)));have hsz:((s.heap.push (seqObj "list" #[] 0)).update s.heap.objs.size (Obj.mapSeq (· ++ vs.toArray))).objs.size=s.heap.objs.size+1:=by rw[Heap.size_update,size_push']
 have B:(((s.heap.push (seqObj "list" #[] 0)).update s.heap.objs.size (Obj.mapSeq (· ++ vs.toArray))).push (seqObj "list" vs.toArray 0)).get? (s.heap.objs.size+1)=some (seqObj "list" vs.toArray 0):=by rw[<- hsz];exact ZY _ J
 have M:∀ v∈vs,cW (((s.heap.push (seqObj "list" #[] 0)).update s.heap.objs.size (Obj.mapSeq (· ++ vs.toArray))).push (seqObj "list" vs.toArray 0)) v (ts v):=λv S=>(W v S).keep λb o N hc=>by
  have O:b≠s.heap.objs.size:=WN (ZW N);exact ZE _ (((Heap.SameBut.update (s.heap.push (seqObj "list" #[] 0)) s.heap.objs.size (Obj.mapSeq (· ++ vs.toArray))).2 b O).trans (ZE _ N))
 show wpAny _ _ _ _ _ { s with heap:=((s.heap.push (seqObj "list" #[] 0)).update s.heap.objs.size (Obj.mapSeq (· ++ vs.toArray))).push (seqObj "list" vs.toArray 0) };rw[hsz];exact ZA (YU (YJ slot_list_sort ⟨_,B,J⟩ entry_list_sort (FV h64 B M I λout Z Y=>⟨_,J,ZO ⟨_,J,h out Z Y⟩⟩) (args_list_sort _)))
end
end TS
namespace L2
open PySem PySem.Spec PyProof.Rows List
variable {X:Cx}
inductive RO(K:Fg)(xs:List V)(H:Hp)(Q:VK):Prop
 |mk(p:Addr)(ys:List V)(us:List TS.I3)(_:xs=[.ref p])(_:ys.length<64)(_:ao K H p ys)(_:Paired (fN K H) ys us)(_:∀(l:Addr)(zs:List V)(vs:List TS.I3),H l=none->(zs.zip vs).Perm (ys.zip us)->Paired (fN K H) zs vs->(vs.Pairwise λx y=>TS.dJ y x=false)->Q (.ref l) (upd H l (.lst zs)))
def AF{K:Fg}(Y:X.K=K):b8 X (.builtin "sorted") (RO K):=by
 subst Y;intro pins s σ H xs us Q I r h;obtain⟨p,ys,ts,rfl,h64,hq,hp,q⟩:=h;obtain⟨u,rfl,S⟩:=vals1 r;cases S;obtain⟨B,O,pl,hz⟩:=I.list hq;have hl:=O.length;obtain⟨h1,h2,Z⟩:=E9 I hp O;refine TS.VW {} (ts:=TS.ku s.heap) pl.isList (λv M=>(h1 v M).1) {} λout N a2=>?_;obtain⟨e,W⟩:=PyProof.Rows.sortedAll_at s.heap B out;have U:out.toList.length=B.length:=N.length_eq;have hm:∀ v∈out.toList,v∈B:=λv M=>N.mem_iff.mp M;refine⟨.ref (s.heap.objs.size+1),_,I.laid (t':=s.toks) (a:=s.heap.objs.size+1) (o:=.lst (out.toList.map nV)) (λb ob z=>PyProof.Rows.sortedAll_old z) (Nat.le_succ _) ?_,J,q _ (out.toList.map nV) (out.toList.map (TS.ku s.heap)) (I.aD.fresh (Nat.le_succ _)) ?_ ?_ ?_⟩
 ·exists by rw[ZK];lia,out.toList,e,?_
  ·have z:=mN (R:=RelV) (f:=nV) (g:=id) out.toList λv M=>(h1 v (hm v M)).2.2;rw[map_id]at z;exact z
  ·rw[W]
 ·rw[h2,Z,zip_map',zip_map'];exact N.map _
 ·exact mN out.toList λv M=>(h1 v (hm v M)).2.1
 ·rw[pairwise_map];exact a2
end L2
namespace TS
set_option autoImplicit false
open PySem PySem.W PyProof.Rows List
section
variable {prog:Program}{w:World}{A:Around}{E:VS}{s:Shared}
theorem E3{vs:List Value}{ns:List Int}(h:IntsAre vs ns):vs.map nu=ns:=by
 induction h with
 | nil=>rfl
 | cons n t h i=>rw[YA,i];rfl
def Md{K:Type}[DecidableEq K]{knd:KeyKind prog w K}{d:Addr}{kvs:List (K×Value)}{ep:Nat}{ks:List Int}{Q:VS}(hh:A.handled=none)(lo:(d==sysModules)=false)(da:s.heap.DictAt knd d kvs ep)(h64:ks.length<64)(U:ks.length<=sizeLine)(hl:ks.length=kvs.length)
  (hk:∀(j:Nat)(k:K)(x v:Value),kvs[j]? = some (k,x)->knd.is k v=true->aO λi t=>ks[j]? = some i/\v = .int i t)
  (h:∀(Y:Heap)(tk:Nat)(l:Addr)(e:Nat)(out:List Value),(∀ b o,s.heap.get? b=some o->Y.get? b=some o)->(∃ h1:Heap,(∀ b o,s.heap.get? b=some o->h1.get? b=some o)/\h1.objs.size<=l)->Y.get? l=some (seqObj "list" out.toArray e)->out.length<=sizeLine->xS out->(out.map nu).Perm ks->((out.map nu).Pairwise (· <= ·)) ->
   Q (.ref l) { s with heap:=Y,toks:=tk }):wpAny (model prog w) A (call (.builtin "sorted") [.ref d]) Q E s:=by
 refine Calls.call_function_entry kind_sorted plain_sorted entry_sorted (args_sorted1 _) ?_;unfold Builtin.«sorted»;refine ZA (m:=checkCount "sorted" 1 1 _) (ZO (ZA (kdu_collect (A:=A.in1) (kdl_dict (knd:=knd) (kvs:=kvs) (ep:=ep) lo) (show A.in1.handled=none from hh) da (by rw[<- hl];exact U) λh' tk B S I=>?_)));have hj:∀(j:Nat)(v:Value),B[j]? = some v->aO λi t=>ks[j]? = some i/\v = .int i t:=λj v e=>by
  obtain⟨k,x,h1,h2⟩:=I.2 j v e;exact hk j k x v h1 h2
 have ai:xS B.toList:=λv W=>by
  obtain⟨j,e⟩:=mem_iff_getElem?.mp W;obtain⟨i,t,_,e2⟩:=hj j v (by rw[<- YC];exact e);exact⟨i,t,e2⟩
 have O:B.toList.map nu=ks:=by
  apply ext_getElem?;intro j;rw[WE,YC];cases ej:B[j]? with
  | none=>have:=Array.getElem?_eq_none_iff.mp ej;have e2:B.size=kvs.length:=I.1;rw[getElem?_eq_none {}];rfl
  | some v=>obtain⟨i,t,g1,rfl⟩:=hj j v ej;rw[g1];rfl
 generalize B.toList=us at ai O;have lz:us.length<=sizeLine:=by rw[<- ZK (f:=nu),O];exact U
 refine ZA (wpAny_newList ?_ lz);have M:(h'.push (seqObj "list" us.toArray 0)).get? h'.objs.size=some (seqObj "list" us.toArray 0):=ZY _ J;show wpAny _ _ _ _ _ { s with heap:=h'.push (seqObj "list" us.toArray 0),toks:=tk };refine ZA (YU (YJ slot_list_sort ⟨_,M,J⟩ entry_list_sort (list_sort_tree M (E8 us ai) (by rw[<- ZK (f:=nu),O];exact h64) λout ns a0 Z a2=>⟨_,J,ZO ⟨_,J,?_⟩⟩) (args_list_sort _)));have hn:=E3 a0;rw[O,<- hn]at Z;obtain⟨e,he⟩:=sortedHeap_at (h:=h'.push (seqObj "list" us.toArray 0)) (a:=h'.objs.size) (vs:=us) (out:=out) M;refine h _ tk h'.objs.size e out.toList (λb o hb=>?_) ⟨h',S,ZF _⟩ (by rw[Array.toArray_toList];exact he) (by rw[<- ZK (f:=nu),Z.length_eq];exact U) (λv W=>a0.all v W) Z (by rw[hn];exact a2);have N:=ZW (S b o hb);rw[sortedHeap_old (WN N) (by rw[size_push'];exact Nat.lt_succ_of_lt N)];exact ZE _ (S b o hb)
end
end TS
namespace L2
open PySem PySem.Spec PyProof.Rows List
variable {X:Cx}
inductive RN  (xs:List V) (H:Hp) (Q:VK):Prop
 |mk(d:Addr)(ks:List TS.I2)(_:xs=[.ref d])(_:H d=some (.dK (ks.map λp=>((Sum.inl p.1:Key),V.int p.2))))(_:ks.length<64)(_:(ks.map (·.1)).Nodup)(_:∀(l:Addr)(ms:List Int),H l=none->ms.Perm (ks.map (·.1))->ms.Pairwise (·<·)->Q (.ref l) (upd H l (.lst (ms.map V.int))))
def QP(hc:X.calm=true):b8 X (.builtin "sorted") RN:=by
 intro pins s σ H xs us Q I r h;obtain⟨d,ks,rfl,hd,h64,nd,q⟩:=h;obtain⟨u,rfl,Z⟩:=vals1 r;cases Z;obtain⟨z,lo,vs,B,dd⟩:=yx I.aD hd;obtain⟨ep,da⟩:=dd.dictAt;have O:ks.length=vs.length:=by have:=B.length;rw[ZK]at this;exact this
 rw[ZK]at z;refine TS.Md (h64:=by rw[ZK];exact h64) (knd:=KQ X.prog X.w) (ks:=ks.map (·.1)) (I.ok.hd hc) lo da (by rw[ZK];exact z) (by rw[ZK];exact O) (λj k x v h1 h2=>?_) λhF tk l e out kp W hL oz ai U le=>?_
 ·obtain⟨p,_,g1,rfl,_⟩:=M8 B h1;obtain⟨t',rfl⟩:=wZ h2;exact⟨p.1,t',by rw[WE,g1];rfl,J⟩
 have ne:(out.map TS.nu).Nodup:=U.nodup_iff.mpr nd;have lt:=(List.pairwise_and_iff.mpr ⟨le,ne⟩).imp fun {x y:Int} q=>(show x<y by lia)
 have M:H l=none:=by
  cases q:H l with
  | none=>rfl
  | some v=>obtain⟨h1,k1,N⟩:=W;exact absurd ((I.aD l v q).dY (H':=H) (λc u _ z=>k1 c u z) (λc z=>z) λc ys z=>z).lt (Nat.not_lt_of_le N)
 refine⟨.ref l,upd H l (.lst ((out.map TS.nu).map V.int)),I.Jl (t':=tk) kp (λb u e=>?_) (λb u Y S=>?_) (λb u e S=>?_),J,q l (out.map TS.nu) M U lt⟩
 ·rw[bC (cO e M)];exact e
 ·obtain⟨h1,k2,N⟩:=W;rw[bC (λz=>by rw[z]at Y;exact absurd (ZW (k2 _ _ Y)) (Nat.not_lt_of_le N))];exact S
 ·by_cases c:b=l
  ·subst c;rw[ax]at e;cases e;exact⟨by rw[ZK,ZK];exact oz,out,_,E7 out ai,hL⟩
  ·rw[bC c,S]at e;cases e
section
variable{a b:Expr}{ta tb:TE}{pos:Pos}
def tV(B:cy X (compareOp op) r)(M:PE X a ta)(I:PE X b tb)(h:op ≠ .In:=by decide)(h2:op ≠ .NotIn:=by decide):PT X (.Compare a [op] [b] pos) (jl (tO r ta tb)):=A6 B M I (uZ _ h h2)
def aN(B:cy X (compareOp op) r)(M:PE X a ta)(I:PE X b tb)(h:op ≠ .In:=by decide)(h2:op ≠ .NotIn:=by decide):PT X (.Compare a [op] [b] pos) (l8 (tO r ta tb)):=A4 B M I (uZ _ h h2)
def ki(B:cy X (compareOp op) r)(M:PE X a ta)(I:PE X b tb)(h:op ≠ .In:=by decide)(h2:op ≠ .NotIn:=by decide):PE X (.Compare a [op] [b] pos) (tO r ta tb):=Ai B M I (uZ _ h h2)
def az(h:PE X e te):jf X [.Return (some e) pos] (Dg te):=bF (Bs h)
def aW(B:PT X c tc)(I:jf X l t):PS X (.If c l [] pos) (Dk tc t xW):=qo B I vT
end
def aC(c:yD X.prog X.w X.K X.mg X.base k x ps sp)(hr:bK j X.A)(S:PA X (e::es) t)(M:k<=j:=by decide)(N:Gl X x:=by rfl)(I:(x==("__debug__":Str))=false:=by decide)(O:starEach (e::es) X.env=(false,eval e X.env)::starEach es X.env:=by rfl)(B:(backTo pos (starEach es X.env)).any (·.1)=false:=by rfl):PE X (.Call (.Name x p) (e::es) [] pos) (oT sp [] E0 t):=aQ c (hr.m M) N S I O B
def ar(I:PE X e t0)(B:starEach [e] X.env=(false,eval e X.env)::starEach [] X.env:=by rfl):PA X [e] (dh t0 oP):=dA I fU B
def aY(M:PE X e t0)(h1:PE X f t1)(I:starEach [e,f] X.env=(false,eval e X.env)::starEach [f] X.env:=by rfl)(B:starEach [f] X.env=(false,eval f X.env)::starEach [] X.env:=by rfl):PA X [e,f] (dh t0 (dh t1 oP)):=dA M (dA h1 fU B) I
def bW(N:PE X e t0)(h1:PE X f t1)(h2:PE X g t2)(M:starEach [e,f,g] X.env=(false,eval e X.env)::starEach [f,g] X.env:=by rfl)(I:starEach [f,g] X.env=(false,eval f X.env)::starEach [g] X.env:=by rfl)(B:starEach [g] X.env=(false,eval g X.env)::starEach [] X.env:=by rfl):PA X [e,f,g] (dh t0 (dh t1 (dh t2 oP))):=dA N (dA h1 (dA h2 fU B) I) M
def dI(S:PE X e t0)(h1:PE X f t1)(h2:PE X g t2)(O:PE X h t3)(N:starEach [e,f,g,h] X.env=(false,eval e X.env)::starEach [f,g,h] X.env:=by rfl)(M:starEach [f,g,h] X.env=(false,eval f X.env)::starEach [g,h] X.env:=by rfl)(I:starEach [g,h] X.env=(false,eval g X.env)::starEach [h] X.env:=by rfl)(B:starEach [h] X.env=(false,eval h X.env)::starEach [] X.env:=by rfl):PA X [e,f,g,h] (dh t0 (dh t1 (dh t2 (dh t3 oP)))):=dA S (dA h1 (dA h2 (dA O fU B) I) M) N
end L2
namespace My
set_option hygiene false in
local macro_rules|`(tactic|specialize $t)=>`(tactic|refine ($t).jd λf fd F=>F.k sc λ_ _ _ s H _ Q _ hr h=>?_)
local macro_rules|`(tactic|ac_rfl)=>`(tactic|with_unfolding_all rfl)
local macro_rules(kind:=Lean.Parser.Term.tuple)|`(())=>`(by rfl)
open PySem L2 List
local macro_rules|`(tactic|symm)=>`(tactic|dsimp only[bu])
set_option genInjectivity false
noncomputable abbrev lX:List Str:=["bounds", "gathering", "number"]
noncomputable abbrev K3:List Str:=["_law_desk", "_law_pen_here", "_law_word_here", "_law_bounds_here", "_law_things_here"]
noncomputable abbrev K2:List Str:=["_law_desk", "_law_pen_here", "_law_words", "_law_bounds_here", "_law_things_here"]
noncomputable abbrev yh:List Str:=["bounds", "gathering", "name", "values"]
noncomputable abbrev c_:List Str:=["word"]
noncomputable abbrev K1:List Str:=["_law_pen_here", "_law_bounds_here", "_law_things_here", "_law_parts"]
noncomputable abbrev qx:List Str:=["bounds", "gathering", "k"]
noncomputable abbrev qw:List Str:=["bounds", "gathering"]
noncomputable abbrev K0:List Str:=["_law_pen_here", "_law_bounds_here", "_law_things_here"]
noncomputable abbrev KZ:List Str:=["_law_pen_here", "_law_bounds_here", "_law_longest"]
noncomputable abbrev wk:List Str:=["bounds", "gathering", "paper", "number", "many"]
noncomputable abbrev wj:List Str:=["bounds", "gathering", "paper", "number", "told"]
noncomputable abbrev wh:List Str:=["bounds", "gathering", "paper", "worth", "many"]
noncomputable abbrev wg:List Str:=["bounds", "gathering", "lead", "name", "values"]
noncomputable abbrev we:List Str:=["bounds", "gathering", "paper", "part", "told"]
noncomputable abbrev wc:List Str:=["bounds", "gathering", "paper", "k", "worth"]
noncomputable abbrev v_:List Str:=["_law_pen_here", "_law_rows", "_law_longest"]
noncomputable abbrev vZ:List Str:=["least", "many", "parts", "part", "floor"]
noncomputable abbrev vY:List Str:=["_law_worths", "_law_low", "_law_levels"]
noncomputable abbrev jE:List Str:=["bounds", "number"]
noncomputable abbrev jD:List Str:=["gathering", "way"]
noncomputable abbrev vX:List Str:=["least", "many", "parts", "must_split"]
noncomputable abbrev vW:List Str:=["bounds", "gathering", "must_split"]
noncomputable abbrev jC:List Str:=["self", "bounds"]
noncomputable abbrev jB:List Str:=["_law_pen_here"]
noncomputable abbrev jA:List Str:=["self", "make"]
noncomputable abbrev jz:List Str:=["self", "row"]
def top(i:Nat):Stmt:=PySem.Challenge.pw_manyleast_k61_papers_at_a_desk.main.body.getD i (.Pass ⟨0,0,0,0⟩)
section
open PySem.W
def strOf:Value->Option Str
 | .str x _=>some x
 | _=>none
noncomputable def mj(K:Fg)(a:Addr):List (Str×Addr):=match List.lookup a K with
 | some o=>(match o.data with
  | .dict es _=>es.toList.filterMap λe=>match e.key,e.val with
   | .str x _,.ref d=>some (x,d)
   | _,_=>none
  | _=>[])
 | none=>[]
noncomputable def yM(K:Fg)(d:Addr)(ks:List Str):Bool:=match List.lookup d K with
 | some o=>o.cls == .type "tuple" && (match o.data with
  | .seq B _=>decide (B.size<=10)&&decide (B.toList.map strOf=ks.map some)
  | _=>false)
 | none=>false
noncomputable def f9:List (Str×List Str):=[("put", ["count", "count", "number"]),("take", ["count", "count"]),("set", ["count", "count", "number"]),("cut", ["count", "count", "count"]),("join", ["count", "count"]),("turn", ["count"]),("flip", ["count"]),("show", ["count"]),("least", ["gathering", "count"]),("below", ["gathering", "number"]),("between", ["gathering", "number", "number"]),("falls", ["stretch"]),("up", ["gathering", "number"]),("down", ["gathering", "number"]),("most", ["gathering"]),("often", ["gathering", "part"])]
noncomputable def yu(K:Fg)(D:List (Str×Addr))(f:Str×List Str):Bool:=match PyProof.Rows.KTD.datumAt f.1 D with
 | some d=>yM K d f.2
 | none=>false
noncomputable def Cc(K:Fg)(a:Addr):Bool:=decide ((mj K a).map (·.1)=f9.map (·.1))&&PyProof.Rows.KTD.tabLook (λ(d:Addr) (v:Value)=>v == .ref d) (λb=>List.lookup b K) a (mj K a)&&f9.all (yu K (mj K a))
noncomputable def told:List (Str×Str):=[("least", "number"),("below", "count"),("most", "counted"),("often", "list"),("up", "next")]
noncomputable def Dc(K:Fg)(a:Addr):Bool:=PyProof.Rows.KTD.tabLook (λ(d:Str) (v:Value)=>decide (strOf v=some d)) (λb=>List.lookup b K) a told
theorem FU:∀{B:List Value}{ks:List Str},B.map strOf=ks.map some->Vals (ks.map V.str) B
 | [],[],_=>.nil
 | [],k::ks,h=>by cases h
 | v::B,[],h=>by cases h
 | v::B,k::ks,h=>by
  obtain⟨h1,h2⟩:=List.cons.inj h;refine .cons ?_ (FU h2);cases v with
  | str x t=>obtain rfl:x=k:=am h1;exact⟨t,J⟩
  | _=>cases h1
def yL{ks:List Str}(h:yM K d ks=true)(H:Hp):au K H d (ks.map V.str):=by
 unfold yM at h;split at h
 ·rename_i o ho;rw[WZ]at h;obtain⟨h1,h2⟩:=h;split at h2
  ·rename_i rj n hd;rw[WZ,decide_eq_true_iff,decide_eq_true_iff]at h2;exact .inr ⟨o,rj,n,ho,eq_of_beq h1,hd,ZT h2.1 ∅,FU h2.2⟩
  ·cases h2
 ·cases h
def xn(h:Cc K a=true){f:Str×List Str}(B:f∈f9):sX K a (mj K a) /\ ∃ d,aP (PyProof.Rows.KTD.datumAt f.1 (mj K a)=some d) (PyProof.Rows.KTD.inKeys f.1 (mj K a)=true) (∀ H,au K H d (f.2.map V.str)):= by
 unfold Cc at h;rw[WZ,WZ]at h;exists h.1.2;have z:=List.all_eq_true.mp h.2 f B;unfold yu at z;split at z
 ·rename_i d hd;exact⟨d,hd,by rw[<- PyProof.Rows.KTD.isSome_datumAt,hd];rfl,yL z⟩
 ·cases z
end
def Bo(s:Stmt):List Stmt:=if h:s.ctorIdx=2 then Stmt.ClassDef.elim s h λ_ _ _ b _ _ _ _ _ _ _=>b else[]
abbrev GL:Stmt:=top 9
abbrev Ig:Stmt:=top 10
abbrev E2:Stmt:=top 11
abbrev DZ:Stmt:=top 12
abbrev FT:Stmt:=top 13
abbrev E1:Stmt:=top 14
abbrev DY:Stmt:=top 16
abbrev GK:Stmt:=top 17
abbrev FR:Stmt:=top 20
abbrev Hl:Stmt:=top 21
abbrev FQ:Stmt:=top 22
abbrev FP:Stmt:=top 23
abbrev FO:Stmt:=top 24
abbrev Hk:Stmt:=top 30
abbrev QO:Stmt:=top 31
abbrev pC:Stmt:=top 32
abbrev Ie:Stmt:=top 33
abbrev EZ:Stmt:=top 34
abbrev Hj:Stmt:=top 36
abbrev HE:Stmt:=top 37
abbrev Hi:Stmt:=top 38
abbrev Ic:Stmt:=top 39
abbrev MR:Stmt:=top 40
abbrev Hh:Stmt:=top 43
abbrev pB:Stmt:=top 44
abbrev Bf:Stmt:=top 46
abbrev MQ:Stmt:=top 48
abbrev FN:Stmt:=top 49
abbrev AS:Stmt:=top 50
abbrev GJ:Stmt:=top 51
abbrev Iy:Stmt:=top 52
abbrev Ib:Stmt:=top 53
abbrev Ia:Stmt:=top 54
abbrev H_:Stmt:=top 55
abbrev Bk:Stmt:=top 56
abbrev HD:Stmt:=top 57
abbrev HZ:Stmt:=top 58
abbrev mS:Stmt:=top 59
abbrev FL:Stmt:=top 61
abbrev HY:Stmt:=top 63
abbrev HX:Stmt:=top 65
abbrev HW:Stmt:=top 66
abbrev HC:Stmt:=top 67
abbrev HV:Stmt:=top 68
abbrev GI:Stmt:=top 69
abbrev aa2:Stmt:=top 70
abbrev Hz:Stmt:=top 71
abbrev HU:Stmt:=top 74
abbrev Hy:Stmt:=top 76
abbrev HS:Stmt:=top 77
abbrev vO:Stmt:=top 78
abbrev Hx:Stmt:=top 79
abbrev mZ:Stmt:=top 80
abbrev Tg:Stmt:=top 81
abbrev EY:Stmt:=top 83
abbrev Be:Stmt:=top 87
abbrev GH:Stmt:=top 88
abbrev AR:Stmt:=top 116
abbrev GG:Stmt:=top 117
abbrev FK:Stmt:=top 118
abbrev Hg:Stmt:=top 119
abbrev SE:Stmt:=top 120
abbrev SD:Stmt:=top 121
abbrev FJ:Stmt:=top 122
abbrev Hf:Stmt:=top 123
abbrev GF:Stmt:=top 124
abbrev He:Stmt:=top 128
abbrev Gz:Stmt:=top 129
abbrev A9:Stmt:=top 130
abbrev Gy:Stmt:=top 131
abbrev Rc:Stmt:=top 135
abbrev SA:Stmt:=top 136
abbrev Hd:Stmt:=top 137
abbrev SU:Stmt:=top 138
abbrev A2:Stmt:=top 139
abbrev kP:Stmt:=top 140
abbrev Bj:Stmt:=top 141
abbrev iM:Stmt:=top 142
abbrev fS:Stmt:=top 143
abbrev iR:Stmt:=top 144
abbrev Bi:Stmt:=top 145
abbrev j_:Stmt:=top 146
abbrev vG:Stmt:=top 147
abbrev Sf:Stmt:=top 148
abbrev ya:Stmt:=top 149
abbrev fT:Stmt:=top 150
abbrev fR:Stmt:=top 151
abbrev iq:Stmt:=top 152
abbrev Qo:Stmt:=(Bo (top 109)).getD 0 (.Pass ⟨0,0,0,0⟩)
abbrev Gx:Stmt:=(Bo (top 109)).getD 1 (.Pass ⟨0,0,0,0⟩)
abbrev EX:Stmt:=(Bo (top 109)).getD 10 (.Pass ⟨0,0,0,0⟩)
abbrev Se:Stmt:=(Bo (top 109)).getD 13 (.Pass ⟨0,0,0,0⟩)
abbrev Qn:Stmt:=(Bo (top 109)).getD 14 (.Pass ⟨0,0,0,0⟩)
abbrev EW:Stmt:=(Bo (top 109)).getD 15 (.Pass ⟨0,0,0,0⟩)
abbrev O2:Stmt:=(Bo (top 133)).getD 0 (.Pass ⟨0,0,0,0⟩)
abbrev Pt:Stmt:=(Bo (top 133)).getD 1 (.Pass ⟨0,0,0,0⟩)
abbrev Tf:Stmt:=(Bo (top 133)).getD 2 (.Pass ⟨0,0,0,0⟩)
abbrev EV:Stmt:=(Bo (top 133)).getD 3 (.Pass ⟨0,0,0,0⟩)
def Pr:aa ["thing"] ["thing"] (aI GL):=a_
def RM:aa ["levels", "many", "level"] ["levels"] (aI Ig):=a_
def MP:aa ["bounds"] ["bounds"] (aI E2):=a_
def pf:aa jE jE (aI DZ):=a_
def Oo:aa ["bounds", "way", "least", "many", "turn"] ["bounds", "way"] (aI FT):=a_
def MO:aa (jE.append ["least", "many", "way", "level"]) jE (aI E1):=a_
def pw:aa ["marks", "mark", "place"] ["marks", "mark", "place"] (aI DY):=a_
def Pq:aa ["marks", "mark", "number", "left", "place", "other"] ["marks", "mark", "number"] (aI GK):=a_
def Om:aa ["bounds", "row", "number"] ["bounds", "row"] (aI FR):=a_
def pj:aa ["least", "many", "row", "half", "middle", "marks", "lower", "upper"] ["least", "many", "row"] (aI Hl):=a_
def Ol:aa ["thing", "word"] ["thing", "word"] (aI FQ):=a_
def Oj:aa ["tree", "mark"] ["tree", "mark"] (aI FP):=a_
def Oi:aa ["tree"] ["tree"] (aI FO):=a_
def Oh:aa ["gathering"] ["gathering"] (aI Hk):=a_
def MN:aa ["gathering"] ["gathering"] (aI QO):=a_
def zd:aa jD jD (aI pC):=a_
def RL:aa ["stretch", "way", "part", "start", "end", "turn", "half"] ["stretch", "way"] (aI Ie):=a_
def MM:aa ["tree", "way", "place", "inner"] ["tree", "way", "place"] (aI EZ):=a_
def Qm:aa (qx.append ["way", "alike"]) qx (aI Hj):=a_
def QN:aa ["levels", "gathering", "k", "way", "parts", "left", "level", "lower", "turn"] ["levels", "gathering", "k"] (aI HE):=a_
def Ql:aa ["gathering", "way", "number", "parts", "left", "j"] ["gathering", "way", "number"] (aI Hi):=a_
def RK:aa (jD.append ["many", "parts", "turn"]) jD (aI Ic):=a_
def pq:aa (lX.append ["side"]) lX (aI MR):=a_
def Qk:aa qw qw (aI Hh):=a_
def uK:aa (qw.append ["best", "counted"]) qw (aI pB):=a_
def Sl:aa (vZ.append ["things", "half", "lower", "upper"]) vZ (aI Bf):=a_
def ph:aa ["levels", "gathering", "paper"] ["levels", "gathering", "paper"] (aI MQ):=a_
def Og:aa ["levels", "parts", "thing", "turn"] ["levels", "parts", "thing"] (aI FN):=a_
def Qj:aa ["thing"] ["thing"] (aI AS):=a_
def Po:aa ["thing"] ["thing"] (aI GJ):=a_
def Sd:aa ["bounds", "paper"] ["bounds", "paper"] (aI Iy):=a_
def RJ:aa ["least", "many", "paper", "half"] ["least", "many", "paper"] (aI Ib):=a_
def RI:aa ["closed", "worth", "least", "greatest", "many"] ["closed", "worth"] (aI Ia):=a_
def RH:aa (wk.append ["together", "least", "greatest", "things"]) wk (aI H_):=a_
def RG:aa (wc.append ["closed", "alike", "lesser"]) wc (aI Bk):=a_
def QM:aa (wh.append ["closed", "least", "greatest", "things"]) wh (aI HD):=a_
def RF:aa (we.append ["found", "least", "greatest", "things"]) we (aI HZ):=a_
def Pn:aa (wj.append ["closed", "above", "worth"]) wj (aI mS):=a_
def Of:aa (lX.append ["k"]) lX (aI FL):=a_
def RE:aa (qx.append ["way"]) qx (aI HY):=a_
def RD:aa lX lX (aI HX):=a_
def RC:aa (qx.append ["worth"]) qx (aI HW):=a_
def QL:aa (qw.append ["found", "worth", "many", "must_split"]) qw (aI HC):=a_
def RB:aa ["bounds", "gathering", "part", "whole"] ["bounds", "gathering", "part"] (aI HV):=a_
def Pl:aa (lX.append ["found", "must_split"]) lX (aI GI):=a_
def QK:aa vW vW (aI aa2):=a_
def QJ:aa (vX.append ["things", "half", "lower", "upper"]) vX (aI Hz):=a_
def RA:aa ["number"] ["number"] (aI HU):=a_
def QI:aa ["paper", "many", "lower", "upper"] ["paper"] (aI Hy):=a_
def Rz:aa ["text", "figures"] ["text"] (aI HS):=a_
def Ry:aa ["text"] ["text"] (aI vO):=a_
def QH:aa ["text", "told"] ["text"] (aI Hx):=a_
def vF:aa ["text", "start", "depth", "end", "many", "lower", "upper"] ["text", "start", "depth"] (aI mZ):=a_
def kE:aa ["text", "place", "sign"] ["text", "place", "sign"] (aI Tg):=a_
def ML:aa wg wg (aI EY):=a_
def Sk:aa yh yh (aI Be):=a_
def Pk:aa (yh.append ["told", "paper"]) yh (aI GH):=a_
def Qi:aa c_ c_ (aI AR):=a_
def Pj:aa (c_.append ["number"]) c_ (aI GG):=a_
def Oe:aa (c_.append ["number"]) c_ (aI FK):=a_
def Oc:aa (c_.append ["pieces"]) c_ (aI Hg):=a_
def Ph:aa (c_.append ["pieces"]) c_ (aI SE):=a_
def QG:aa (c_.append ["pieces"]) c_ (aI SD):=a_
def Ob:aa c_ c_ (aI FJ):=a_
def Oa:aa c_ c_ (aI Hf):=a_
def Pg:aa c_ c_ (aI GF):=a_
def Qh:aa ["row", "words", "lead", "name"] ["row"] (aI He):=a_
def Pf:aa ["lead", "name", "many"] ["lead", "name", "many"] (aI Gz):=a_
def Qg:aa ["kinds", "words"] ["kinds", "words"] (aI A9):=a_
def Pe:aa ["kind", "word"] ["kind", "word"] (aI Gy):=a_
def Pd:aa ["_law_script", "_law_k", "_law_cell"] ["_law_script", "_law_k"] (aI Rc):=a_
def QF:aa (jB.append ["_law_number_here"]) jB (aI SA):=a_
def Qf:aa ["_law_pen_here", "_law_size", "_law_found", "_law_wide"] ["_law_pen_here", "_law_size"] (aI Hd):=a_
def Rx:aa (jB.append ["_law_levels", "_law_way", "_law_low"]) jB (aI SU):=a_
def Pc:aa (KZ.append ["_law_low", "_law_levels", "_law_size", "_law_way", "_law_few", "_law_row_here", "_law_k", "_law_spot"]) KZ (aI A2):=a_
def Qe:aa (v_.append ["_law_some_here", "_law_k", "_law_make", "_law_size", "_law_start", "_law_end"]) v_ (aI kP):=a_
def Rw:aa ["_law_rows", "_law_some_here", "_law_found", "_law_j", "_law_make", "_law_start", "_law_end"] ["_law_rows", "_law_some_here"] (aI Bj):=a_
def Qd:aa ["_law_some_here"] ["_law_some_here"] (aI iM):=a_
def QE:aa ["_law_things_here", "_law_found", "_law_worth", "_law_j", "_law_place"] ["_law_things_here"] (aI fS):=a_
def Rv:aa (vY.append ["_law_half", "_law_lower", "_law_upper"]) vY (aI iR):=a_
def Ru:aa ["_law_pen_here", "_law_text", "_law_spots", "_law_start", "_law_end"] ["_law_pen_here", "_law_text"] (aI Bi):=a_
def A1:aa ["_law_told"] ["_law_told"] (aI j_):=a_
def Rt:aa (K0.append ["_law_top"]) K0 (aI vG):=a_
def Qc:aa ["_law_told", "_law_best_here", "_law_pair"] ["_law_told"] (aI Sf):=a_
def AE:aa (K1.append ["_law_told", "_law_way", "_law_number_here", "_law_k", "_law_worth", "_law_many", "_law_wrong", "_law_part", "_law_right_here"]) K1 (aI ya):=a_
def Sj:aa (K3.append ["_law_finest_here", "_law_k", "_law_worth", "_law_due", "_law_ask"]) K3 (aI fT):=a_
def AD:aa (K2.append ["_law_word_here", "_law_ask", "_law_right_here", "_law_wrong", "_law_due", "_law_text", "_law_finest_here", "_law_others", "_law_paper", "_law_told"]) K2 (aI fR):=a_
def ze:aa ["_law_script", "_law_pen_here", "_law_bounds_here", "_law_desk", "_law_rows", "_law_k", "_law_trees", "_law_deed", "_law_some_here", "_law_things_here", "_law_parts", "_law_word_here", "_law_more", "_law_right_here", "_law_wrong", "_law_due", "_law_ask", "_law_words"] ["_law_script"] (aI iq):=a_
def NZ:aa jC jC (aI Qo):=a_
def Pb:aa jz jz (aI Gx):=a_
def MK:aa jA jA (aI EX):=a_
def FI:aa ["self", "make", "start", "end", "tree"] ["self", "make", "start", "end"] (aI Se):=a_
def NY:aa jA jA (aI Qn):=a_
def MJ:aa ["self", "tree", "sources"] ["self", "tree", "sources"] (aI EW):=a_
def MI:aa jC jC (aI O2):=a_
def pA:aa (jz.append ["said", "lead", "name", "values", "gathering"]) jz (aI Pt):=a_
def Hc:aa ["self", "spot"] ["self", "spot"] (aI Tf):=a_
def MH:aa ["self", "name", "values"] ["self", "name", "values"] (aI EV):=a_
structure Bz(K:Fg)(mg:Mg)(base:Heap)(uA uB uC uD uE uF uG uH:Addr):Prop where
 Km:mg "all" = none
 Kk:mg "bool" = none
 lx:mg "enumerate" = none
 BW:mg "int" = none
 bp:mg "isinstance" = none
 bE:mg "len" = none
 Ji:mg "list" = none
 TH:mg "max" = none
 TF:mg "min" = none
 cz:mg "range" = none
 iH:mg "sorted" = none
 cj:mg "str" = none
 Dr:mg "sum" = none
 eW:mg "tuple" = none
 LG:mg "zip" = none
 wO:mg "LeastError" = some (.ref uA)
 Je:mg "Beyond" = some (.ref uB)
 Jd:mg "NoSuch" = some (.ref uC)
 CF:mg "TooMany" = some (.ref uD)
 Jc:mg "NoText" = some (.ref uE)
 La:mg "NoRow" = some (.ref uF)
 wN:mg "Makes" = some (.ref uG)
 BM:mg "Desk" = some (.ref uH)
 nB:Iz K uG "bounds"
 nK:Iz K uG "kept"
 dB:Iz K uH "bounds"
 dM:Iz K uH "makes"
 XD:aO λx t=>mg "FIGURES" = some (.str x t)/\x = "0123456789"
 frm:∃ a,mg "FORMS" = some (.ref a)/\Cc K a=true
 X7:∃ a,mg "TOLD" = some (.ref a)/\Dc K a=true
 dr:nX K uH
 bU:nX K uG
 nU:xO K uG "Makes.__init__" Qo jC
 lL:ig K uG "of_row" "Makes.of_row" Gx jz
 su:ig K uG "tree" "Makes.tree" EX jA
 j3:ig K uG "stretch" "Makes.stretch" Se ["self", "make", "start", "end"]
 nT:ig K uG "found" "Makes.found" Qn jA
 sD:ig K uG "keep" "Makes.keep" EW ["self", "tree", "sources"]
 sE:xO K uH "Desk.__init__" O2 jC
 xB:ig K uH "say" "Desk.say" Pt jz
 gn:ig K uH "stretch_at" "Desk.stretch_at" Tf ["self", "spot"]
 sv:ig K uH "made" "Desk.made" EV ["self", "name", "values"]
 lF:Def K mg "is_whole" GL ["thing"]
 gY:Def K mg "many_worths" Ig ["levels"]
 si:Def K mg "top_of" E2 ["bounds"]
 xv:Def K mg "where" DZ jE
 nI:Def K mg "span_of" FT ["bounds", "way"]
 sf:Def K mg "way_of" E1 jE
 xA:Def K mg "ahead" DY ["marks", "mark", "place"]
 lC:Def K mg "place_of" GK ["marks", "mark", "number"]
 nG:Def K mg "tree_of" FR ["bounds", "row"]
 xx:Def K mg "grown" Hl ["least", "many", "row"]
 nQ:Def K mg "is_word" FQ ["thing", "word"]
 nS:Def K mg "half_of" FP ["tree", "mark"]
 nJ:Def K mg "size_of" FO ["tree"]
 nO:Def K mg "many_in" Hk ["gathering"]
 sk:Def K mg "filled" QO ["gathering"]
 Kh:Def K mg "led" pC jD
 g9:Def K mg "led_stretch" Ie ["stretch", "way"]
 sj:Def K mg "lifted" EZ ["tree", "way", "place"]
 jU:Def K mg "nth_least" Hj qx
 iX:Def K mg "way_of_nth" HE ["levels", "gathering", "k"]
 jV:Def K mg "nth_alike" Hi ["gathering", "way", "number"]
 gZ:Def K mg "many_lesser" Ic jD
 xy:Def K mg "below" MR lX
 jQ:Def K mg "worths_in" Hh qw
 Cf:Def K mg "most" pB qw
 fA:Def K mg "counted_above" Bf vZ
 xw:Def K mg "keeps" MQ ["levels", "gathering", "paper"]
 nR:Def K mg "is_kept" FN ["levels", "parts", "thing"]
 jW:Def K mg "is_closed" AS ["thing"]
 lG:Def K mg "is_split" GJ ["thing"]
 gj:Def K mg "closed_parts" Iy ["bounds", "paper"]
 hJ:Def K mg "closed_from" Ib ["least", "many", "paper"]
 g8:Def K mg "many_closed" Ia ["closed", "worth"]
 gU:Def K mg "shows_below" H_ wk
 gS:Def K mg "shows_least" Bk wc
 iZ:Def K mg "shows_most" HD wh
 gR:Def K mg "shows_often" HZ we
 lB:Def K mg "shows_up" mS wj
 nM:Def K mg "next_up" FL lX
 g_:Def K mg "counted_nth" HY qx
 dX:j7 K mg "paper_below" HX ["bounds", "gathering", "number"] 431 427
 dW:j7 K mg "paper_least" HW ["bounds", "gathering", "k"] 438 434
 eI:j7 K mg "paper_most" HC ["bounds", "gathering"] 445 441
 dU:j7 K mg "paper_often" HV ["bounds", "gathering", "part"] 452 448
 gg:j7 K mg "paper_up" GI ["bounds", "gathering", "number"] 459 455
 iY:Def K mg "told_paper" aa2 vW
 i6:Def K mg "paper_from" Hz vX
 gW:Def K mg "show_number" HU ["number"]
 i4:Def K mg "show_paper" Hy ["paper"]
 gX:Def K mg "read_number" HS ["text"]
 hU:Def K mg "are_figures" vO ["text"]
 i5:Def K mg "read_paper" Hx ["text"]
 eH:Def K mg "read_paper_from" mZ ["text", "start", "depth"]
 gb:Def K mg "place_behind" Tg ["text", "place", "sign"]
 so:Def K mg "answer" EY wg
 fy:Def K mg "told_paper_of" Be yh
 lH:Def K mg "is_shown" GH yh
 jT:Def K mg "number_of" AR c_
 lI:Def K mg "count_of" GG c_
 nL:Def K mg "part_of" FK c_
 nH:Def K mg "spot_of" Hg c_
 lA:Def K mg "spots_of" SE c_
 i7:Def K mg "counted_of" SD c_
 nN:Def K mg "next_of" FJ c_
 nP:Def K mg "list_of" Hf c_
 lD:Def K mg "paper_of" GF c_
 jS:Def K mg "read_said" He ["row"]
 lE:Def K mg "kinds_of" Gz ["lead", "name", "many"]
 jR:Def K mg "values_of" A9 ["kinds", "words"]
 ly:Def K mg "value_of" Gy ["kind", "word"]
 lK:Def K mg "_law_pen" Rc ["_law_script", "_law_k"]
 i9:Def K mg "_law_mixed" SA jB
 jY:Def K mg "_law_take" Hd ["_law_pen_here", "_law_size"]
 h_:Def K mg "_law_bounds" SU jB
 lJ:Def K mg "_law_row" A2 KZ
 jZ:Def K mg "_law_some" kP v_
 hV:Def K mg "_law_things" Bj ["_law_rows", "_law_some_here"]
 jX:Def K mg "_law_word" iM ["_law_some_here"]
 i_:Def K mg "_law_manys" fS ["_law_things_here"]
 hZ:Def K mg "_law_finest" iR vY
 hW:Def K mg "_law_spoilt" Bi ["_law_pen_here", "_law_text"]
 e_:Def K mg "_law_of_worths" j_ ["_law_told"]
 hX:Def K mg "_law_number" vG K0
 j2:Def K mg "_law_best" Sf ["_law_told"]
 ja:Def K mg "_law_asked" ya K1
 fB:Def K mg "_law_any_told" fT K3
 i8:Def K mg "_law_right" fR K2
 Kl:BMain mg base
variable{uA uB uC uD uE uF uG uH:Addr}
def bz(low:Int)(L:Nat)(ns:List Int):Prop:=∀ x∈ns,low<=x/\x<low+2^L
def bz.snoc{low:Int}{L:Nat}{y:Int}(h:bz low L ns)(I:low<=y)(h1:y<low+2^L):bz low L (ns++[y]):=λx B=>by
 rcases eC B with h' | h'
 ·exact h x h'
 ·cases eD h';exact⟨I,h1⟩
inductive Iw(u0:Fg)(vs:List V)(H:Hp)(Q:VK)(E:XK):Prop
 |mk(L:Nat)(_:vs=[.int (L:Int)])(_:L<=40)(_:Q (.int (2^L)) H)
inductive FH(K:Fg)(vs:List V)(H:Hp)(Q:VK)(E:XK):Prop
 |mk(b:Addr)(low:Int)(L:Nat)(_:vs=[.ref b])(_:au K H b [.int low,.int (L:Int)])(_:L<=40)(_:Q (.int (low+2^L-1)) H)
variable {P:Program}{w:World}{K:Fg}{mg:Mg}{base:Heap}
abbrev Bz.C(_:Bz K mg base uA uB uC uD uE uF uG uH)(P:Program)(w:World):=yD P w K mg base
variable (z:Bz K mg base uA uB uC uD uE uF uG uH)
def tU:z.C P w 1 "many_worths" ["levels"] (Iw K):=by
 have sc:=RM;specialize z.gY;obtain⟨L,rfl,hL,q⟩:=h;refine⟨_,(aj (aF 1 sc.nd ah)
 (aj (pO bn J (jo J z.cz (ar kb)) (cq 2 sc.nd)
 (bF (aF 1 sc.nd (ae m5 kv ah))))
 (az kv))),?_⟩
 refine⟨(L:Int),J,{},{},Ed (n:=L) (λi σ H2=>∃ v:Option V,σ=[some (.int (L:Int)),some (.int (2^i)),v]/\H2=H) ⟨none,J,J⟩ ?_ ?_⟩
 ·rintro i σ H2 hi ⟨v,rfl,rfl⟩;exists _,_,J,J,.inr ⟨∅,∅⟩;exact⟨_,by rw[Int.pow_succ];rfl,J⟩
 ·rintro σ H2 ⟨v,rfl,rfl⟩;exact q
def zN:z.C P w 2 "top_of" ["bounds"] (FH K):=by
 have sc:=MP;specialize z.si;obtain⟨b,low,L,rfl,B,hL,q⟩:=h;exists _,(az (ae lW (ae dk (aG bh kb ah) (aC (tU z) hr (ar (aG bh kb ah)))) ah))
 symm;exact⟨_,_,B,J,_,_,B,J,L,J,hL,q⟩
noncomputable def Sb(low:Int)(L:Nat)(n:Int):Str:=if n<low then "below" else if low+2^L-1<n then "above" else "within"
def MG{low n:Int}{L:Nat}(h:low<=n/\n<low+2^L):Sb low L n = "within" := by
 unfold Sb;rw[ZJ {},ZJ {}]
inductive O1(K:Fg)(vs:List V)(H:Hp)(Q:VK)(E:XK):Prop
 |mk(b:Addr)(low n:Int)(L:Nat)(_:vs=[.ref b,.int n])(_:au K H b [.int low,.int (L:Int)])(_:L<=40)(_:Q (.str (Sb low L n)) H)
def AB:z.C P w 3 "where" jE (O1 K):=by
 have sc:=pf;specialize z.xv;obtain⟨b,low,n,L,rfl,B,hL,q⟩:=h;refine⟨_,(aj (aW (aN bS kv (aG bh kb ah))
 (az aR))
 (aj (aW (aN cD kv (aC (zN z) hr (ar kb)))
 (az aR))
 (az aR))),?_⟩
 symm;unfold Sb at q;exists _,_,B,J;refine aT (λc=>?_) (λc=>?_)
 ·rw[ZL (ZI c)]at q;exact q
 ·rw[ZJ (λz=>c (ZG z))]at q;exists b,low,L,J,B,hL;refine aT (λc=>?_) (λc=>?_)
  ·rw[ZL (ZI c)]at q;exact q
  ·rw[ZJ (λz=>c (ZG z))]at q;exact q
noncomputable def grow(low:Int):Nat->List Int->Tr
 | 0,ns=>if ns=[]then .bf else .many ns.length
 | e+1,ns=>if ns=[]then .bf else .part (ns.map λn=>if n<low+2^e then 0 else 1) (grow low e (ns.filter λn=>decide (n<low+2^e))) (grow (low+2^e) e (ns.filter λn=>decide (low+2^e<=n)))
def vq(low:Int)(e:Nat):grow low e [] = .bf:=by cases e <;> rfl
def vE{low:Int}{ns:List Int}(h:ns≠[]):grow low 0 ns = .many ns.length:=by unfold grow;rw[ZJ h]
def SS{low:Int}{e:Nat}{ns:List Int}(h:ns≠[]):grow low (e+1) ns = .part (ns.map λn=>if n<low+2^e then 0 else 1) (grow low e (ns.filter λn=>decide (n<low+2^e))) (grow (low+2^e) e (ns.filter λn=>decide (low+2^e<=n))):=by rw[grow,ZJ h]
def Tr.fit(b:Nat):Tr->Prop
 | .bf=>True
 | .many _=>True
 | .part ms l r=>ms.length<=b/\Tr.fit b l/\Tr.fit b r
abbrev rg:Nat:=0
abbrev EU:Nat:=40
inductive pZ(K:Fg)(e:Nat)(vs:List V)(H:Hp)(Q:VK)(E:XK):Prop
 |mk(least:Int)(a:Addr)(ns:List Int)(_:vs=[.int least,.int (2^e),.ref a])(_:ao K H a (ns.map V.int))(_:ns.length<=1000)(_:∀(H':Hp)(v:V),ag H H'->AL H' v (grow least e ns)->Q v H')
def o6(K:Fg):Sp:=λvs H Q E=>∃ e,e<=EU/\pZ K e vs H Q E
def qL:z.C P w 41 "grown" ["least", "many", "row"] (o6 K):=by
 have sc:=pj;refine z.xx.eh (k:=rg) (sp:=pZ K) EU λe oi B f fd F=>F.k sc λ_ _ _ s H _ Q _ hr h=>?_;obtain⟨least,a,ns,rfl,M,hl,q⟩:=h;refine⟨_,(aj (aW (aN av (dH z.bE (ar bv)) ah)
 (az dG))
 (aj (aW (aN av kv ah)
 (az (vj (aY aR (dH z.bE (ar bv))))))
 (aj (aF 3 sc.nd (ae vS kv ah))
 (aj (aF 4 sc.nd (ae dk kb bi))
 (aj (aF 5 sc.nd (ei kQ () z.eW vN (ar (kf (cl:=[("middle", s.heap.objs.size+1+0)]) (cn:=["middle"]) (N:=["middle"]) (fr:=[4]) (bB:=aI Hl) J (cw bv) (λC s₂ H₂ fp=>(vR (aN bS kb kv) ah ah)) (by ac_rfl) ⟨by ac_rfl,trivial⟩ J J J eT J))))
 (aj (aF 6 sc.nd (aQ B (hr.mono (ZF _)) () (bW kb bi (fV (cl:=[("middle", s.heap.objs.size+1+0)]) (cn:=["middle"]) (N:=["middle"]) (fr:=[4]) (bB:=aI Hl) J (cw bv) (λC s₂ H₂ fp=>kb) (λC s₂ H₂ fp=>(aN bS kb kv)) (by ac_rfl) ⟨by ac_rfl,trivial⟩ J J J eT J))))
 (aj (aF 7 sc.nd (aQ B (hr.mono (ZF _)) () (bW (pr 4) bi (fV (cl:=[("middle", s.heap.objs.size+1+0)]) (cn:=["middle"]) (N:=["middle"]) (fr:=[4]) (bB:=aI Hl) J (cw bv) (λC s₂ H₂ fp=>kb) (λC s₂ H₂ fp=>(aN gA kb kv)) (by ac_rfl) ⟨by ac_rfl,trivial⟩ J J J eT J))))
 (az (vj (dI aR (pr 5) (pr 6) (pr 7))))))))))),?_⟩
 symm;have hz:ns.length<=sizeLine:=sz hl;exists a,_,J,.inl M,J;refine aT (λc=>?_) (λc=>?_)
 ·have c':(((ns.map V.int).length:Nat):Int)=0:=V.int.inj (ZI c);rw[ZK]at c';have e0:ns=[]:=eq_nil_of_length_eq_zero {};subst e0;exact q H .bf (ag.refl H) (by rw[vq];rfl)
 ·have Y:ns≠[]:=λz=>c (by rw[z];exact ZG J);exists J;refine aT (λc2=>?_) (λc2=>?_)
  ·have e0:e=0:=IT (V.int.inj (ZI c2));subst e0;refine⟨a,_,J,.inl M,aZ J,λp hp=>q _ _ (aM hp _) ?_⟩;rw[vE Y];exists p,J;rw[ax,ZK]
  ·cases e with
   | zero=>exact absurd (ZG J) c2
   | succ e=>
    exists _,_,J,J,⟨∅,∅⟩
    dsimp only;rw[BH];refine⟨a,J,⟨_,M⟩,λD hD=>?_⟩;refine Nc (g:=λn=>.int (if n<least+2^e then 0 else 1)) M hD hz (λn _ H1 Q1 _ I=>?_) ?_
    ·refine ?_;refine aT (λc3=>?_) (λc3=>?_)
     ·rw[ZL (ZI c3)]at I;exact I
     ·rw[ZJ (λz=>c3 (ZG z))]at I;exact I
    have s1:=aM hD (.lst (ns.map λn=>V.int (if n<least+2^e then 0 else 1)));refine⟨D,_,J,ao.of ax,λm H2 s2 hm=>?_⟩;have U:ag H H2:=s1.trans s2;have hm':c7 H2 m ((ns.map λn=>if n<least+2^e then(0:Int)else 1).map V.int):=by rw[map_map];exact hm
    refine⟨a,J,⟨_,U.seq M⟩,λD2 W=>?_⟩;refine Bl (p:=λn=>decide (n<least+2^e)) (g:=V.int) (U.seq M) W hz (λn _ H1 Q1 _ I=>I) (λn _ _ H1 Q1 _ I=>I) ?_;refine⟨least,D2,_,J,ao.of ax,ZT (length_filter_le _ _) hl,λH3 lo s3 JU=>?_⟩;have S:ag H H3:=U.trans ((aM W _).trans s3);refine⟨a,J,⟨_,S.seq M⟩,λD3 Z=>?_⟩;refine Bl (p:=λn=>decide (least+2^e<=n)) (g:=V.int) (S.seq M) Z hz (λn _ H1 Q1 _ I=>⟨_,_,J,J,I⟩) (λn _ _ H1 Q1 _ I=>I) ?_;refine⟨least+2^e,D3,_,J,ao.of ax,ZT (length_filter_le _ _) hl,λH4 hi s4 hhi=>?_⟩;have O:ag H3 H4:=(aM Z _).trans s4;refine⟨aZ J,λp hp=>q _ _ (S.trans (O.trans (aM hp _))) ?_⟩;rw[SS Y];have sp:=aM hp (.tup [.str "part", .ref m,lo,hi]);have Ys:ag H2 H4:=(aM W _).trans (s3.trans O);exact⟨p,m,lo,hi,J,ax,(hm'.same Ys).same sp,(JU.same O).same sp,hhi.same sp⟩
inductive Rb(K:Fg)(vs:List V)(H:Hp)(Q:VK)(E:XK):Prop
 |mk(b a:Addr)(low:Int)(L:Nat)(ns:List Int)(_:vs=[.ref b,.ref a])(_:au K H b [.int low,.int (L:Int)])(_:L<=40)(_:ao K H a (ns.map V.int))(_:ns.length<=1000)(_:bz low L ns)(_:∀(H':Hp)(v:V),ag H H'->AL H' v (grow low L ns)->Q v H')
def Gw:z.C P w 42 "tree_of" ["bounds", "row"] (Rb K):=by
 have sc:=Om;specialize z.nG;obtain⟨b,a,low,L,ns,rfl,B,hL,I,N,hw,q⟩:=h;refine⟨_,(aj (pO bn J (cw kv) (cq 2 sc.nd)
 (bF (aW (aN bX (aC (AB z) hr (aY kb bv)) aR)
 (bF dF))))
 (az (aC (qL z) hr (bW (aG bh kb ah) (aC (tU z) hr (ar (aG bh kb ah))) kv)))),?_⟩
 symm;refine⟨a,J,⟨_,I⟩,iT (K:=K) (a:=a) (xs:=ns.map V.int) (λi σ H2=>∃ v:Option V,σ=[some (.ref b),some (.ref a),v]/\H2=H) ⟨none,J,J⟩ (λi σ H2 _ ⟨_,_,e⟩=>by rw[e];exact I) ?_ ?_⟩
 ·rintro i x σ H2 hi ⟨v,rfl,rfl⟩;obtain⟨n,M,rfl⟩:=eE (ZV hi);refine⟨b,low,n,L,J,B,hL,J,du (by rw[MG (hw n M)]) ?_⟩;exact⟨_,J,J⟩
 ·rintro σ H2 ⟨v,rfl,rfl⟩;exists _,_,B,J,_,_,B,J,L,J,hL;exact⟨L,hL,low,a,ns,J,I,N,q⟩
def zM:Tr->Int
 | .bf=>0
 | .many n=>n
 | .part ms _ _=>ms.length
def oG:Tr->Int->Tr
 | .part _ l r,mk=>if mk=0 then l else r
 | _,_=>.bf
def DW(low:Int)(e:Nat)(ns:List Int):zM (grow low e ns)=ns.length:=by
 by_cases h:ns=[]
 ·rw[h,vq];rfl
 ·cases e with
  | zero=>rw[vE h];rfl
  | succ e=>rw[SS h];show((List.map _ ns).length:Int)=_;rw[ZK]
inductive Ra(u0:Fg)(vs:List V)(H:Hp)(Q:VK)(E:XK):Prop
 |mk(v:V)(t:Tr)(_:vs=[v])(_:AL H v t)(_:Q (.int (zM t)) H)
def Gv:z.C P w 1 "size_of" ["tree"] (Ra K):=by
 have sc:=Oi;specialize z.nJ;obtain⟨v,t,rfl,I,q⟩:=h;refine⟨_,(aj (aW (aN AX kb dG)
 (az ah))
 (aj (aW (aN av (aG bh kb ah) aR)
 (az (aG bh kb ah)))
 (az (dH z.bE (ar (aG bh kb ah)))))),?_⟩
 symm;exists J;cases t with
 | bf=>cases I;exact aT (λc=>q) (λc=>absurd (ZG J) c)
 | many n=>obtain⟨a,rfl,B⟩:=I;refine aT (λc=>absurd (ZI c) (by intro z;cases z)) (λc=>?_);exists _,_,au.of B,J,J;refine aT (λc=>?_) (λc=>absurd (ZG J) c);exact⟨_,_,au.of B,J,q⟩
 | part ms l r=>obtain⟨a,m,x,y,rfl,B,hm,N,M⟩:=I;refine aT (λc=>absurd (ZI c) (by intro z;cases z)) (λc=>?_);exists _,_,au.of B,J,J;refine aT (λc=>absurd (ZI c) ∅) (λc=>?_);exists _,_,au.of B,J,m,_,J,.inr hm.sq;rw[ZK];exact q
inductive Gu(u0:Fg)(vs:List V)(H:Hp)(Q:VK)(E:XK):Prop
 |mk(v:V)(t:Tr)(mk:Int)(_:vs=[v,.int mk])(_:AL H v t)(_:(mk=0\/mk=1))(_:∀ u,AL H u (oG t mk)->Q u H)
def Gs:z.C P w 1 "half_of" ["tree", "mark"] (Gu K):=by
 have sc:=Oj;specialize z.nS;obtain⟨v,t,mk,rfl,I,N,q⟩:=h;refine⟨_,(aj (aW (PW.pt (pw_or (aN AX kb dG) (yc (aN av (aG bh kb ah) aR))))
 (az dG))
 (az (aG bh kb (ae dk ah kv)))),?_⟩
 symm;exists J;cases t with
 | bf=>cases I;exact aT (λc=>q .bf J) (λc=>absurd (ZG J) c)
 | many n=>obtain⟨a,rfl,B⟩:=I;refine aT (λc=>absurd (ZI c) (by intro z;cases z)) (λc=>?_);exists _,_,au.of B,J,J;exact aT (λc=>q .bf J) (λc=>absurd (ZG J) c)
 | part ms l r=>
  obtain⟨a,m,x,y,rfl,B,hm,O,M⟩:=I;refine aT (λc=>absurd (ZI c) (by intro z;cases z)) (λc=>?_);exists _,_,au.of B,J,J;refine aT (λc=>absurd (ZI c) ∅) (λc=>?_);rcases N with rfl | rfl
  ·exact⟨_,_,au.of B,J,q x O⟩
  ·exact⟨_,_,au.of B,J,q y M⟩
noncomputable def idxs(p:Int->Bool):List Int->List Nat
 | []=>[]
 | o::os=>if p o=true then 0::(idxs p os).map (· + 1) else(idxs p os).map (· + 1)
theorem FG(os:List Int)(k:Nat)(h:∀ o∈os,p o=(q o&&r (f o))):(idxs p os)[k]? = ((idxs r ((os.filter q).map f))[k]?).bind λj=>(idxs q os)[j]?
:=by
 induction os generalizing k with
 | nil=>simp[idxs]
 | cons o os i=>
  have I:=h o (ZQ ..);have B:=λk=>i k λx M=>h x (ZU _ M);cases hq:q o with
  | false=>
   have hp:p o=false:=by rw[I,hq];rfl
   simp only[idxs,hp,hq,filter_cons,Bool.false_eq_true,if_false,WE,B];cases(idxs r ((os.filter q).map f))[k]? <;> simp
  | true=>
   cases hr:r (f o) with
   | false=>
    have hp:p o=false:=by rw[I,hq,hr];rfl
    simp only[idxs,hp,hq,hr,filter_cons,Bool.false_eq_true,if_false,if_true,YA,WE,B];cases(idxs r ((os.filter q).map f))[k]? <;> simp
   | true=>
    have hp:p o=true:=by rw[I,hq,hr];rfl
    cases k with
    | zero=>simp[idxs,hp,hq,hr,filter_cons]
    | succ k=>simp only[idxs,hp,hq,hr,filter_cons,if_true,YA,getElem?_cons_succ,WE,B];cases(idxs r ((os.filter q).map f))[k]? <;> simp
theorem FF:∀(os:List Int),idxs (λ_=>true) os=List.range os.length
 | []=>rfl
 | o::os=>by
  rw[idxs,ZL J,FF os,WB,List.range_succ_eq_map]
def jj:Nat->Int->List Int->Bool
 | _,_,[]=>true
 | 0,_,_::_=>false
 | e+1,o,w::ws=>(o/2^e==w)&&jj e (o%2^e) ws
def ck(e:Nat)(o:Int):Int:=if o<2^e then 0 else 1
noncomputable def af(e:Nat)(w:Int)(os:List Int):List Int:=(os.filter λo=>ck e o==w).map λo=>o%2^e
def DV{e:Nat}{o:Int}(B:0<=o)(h1:o<2^(e+1)):o/2^e=ck e o:=by
 have hp:(0:Int)<2^e:=Int.pow_pos ∅;have hs:(2:Int)^(e+1)=2^e+2^e:=by rw[Int.pow_succ];lia
 unfold ck;split
 ·exact Int.ediv_eq_zero_of_lt B (by assumption)
 ·have I:o=(o-2^e)+1*2^e:={}
  rw[I,Int.add_mul_ediv_right _ _ {},Int.ediv_eq_zero_of_lt (by cutsat) (by cutsat)];rfl
noncomputable def cT(L:Nat)(os ws:List Int):List Nat:=idxs (λo=>jj L o ws) os
def NX{e:Nat}{os ws:List Int}{w:Int}(h:∀ o∈os,0<=o/\o<(2:Int)^(e+1))(k:Nat) :
  (cT (e+1) os (w::ws))[k]? = ((cT e (af e w os) ws)[k]?).bind λj=>(idxs (λo=>ck e o==w) os)[j]?:=by
 unfold cT af;refine FG os k λo B=>?_;obtain⟨I,h1⟩:=h o B;show((o/2^e==w)&&jj e (o%2^e) ws)=_;rw[DV I h1]
noncomputable def qz(mk:Int):List Int->Int->Nat->Option Nat
 | [],_,_=>none
 | m::r,l,i=>if m=mk then(if l=0 then some i else qz mk r (l-1) (i+1))else qz mk r l (i+1)
theorem AA{w:Int}{f:Int->Int}(os:List Int)(j i:Nat):qz w (os.map f) (j:Int) i=((idxs (λo=>f o==w) os)[j]?).map (· + i)
:=by
 induction os generalizing j i with
 | nil=>simp[qz,idxs]
 | cons o os M=>
  rw[YA,qz,idxs];by_cases c:f o=w
  ·rw[ZL c,ZL (beq_iff_eq.mpr c)];cases j with
   | zero=>simp
   | succ j=>rw[ZJ {},show(((j+1:Nat):Int)-1)=(j:Int) by lia,M j (i+1),getElem?_cons_succ,WE,Option.map_map];congr 1;funext x;show x+(i+1)=(x+1)+i;lia
  ·rw[ZJ c,ZJ (by rw[beq_iff_eq];exact c),M j (i+1),WE,Option.map_map];congr 1;funext x;show x+(i+1)=(x+1)+i;lia
def fE(L:Nat)(os:List Int):Prop:=∀ o∈os,0<=o/\o<(2:Int)^L
noncomputable def bY:Nat->List Int->Tr
 | 0,os=>if os=[]then .bf else .many os.length
 | e+1,os=>if os=[]then .bf else .part (os.map (ck e)) (bY e (os.filter λo=>decide (o<2^e))) (bY e ((os.filter λo=>decide ((2:Int)^e<=o)).map λo=>o-2^e))
def qj(e:Nat):bY e [] = .bf:=by cases e <;> rfl
def Gr{os:List Int}(h:os≠[]):bY 0 os = .many os.length:=by unfold bY;rw[ZJ h]
def m9{e:Nat}{os:List Int}(h:os≠[]):bY (e+1) os = .part (os.map (ck e)) (bY e (os.filter λo=>decide (o<2^e))) (bY e ((os.filter λo=>decide ((2:Int)^e<=o)).map λo=>o-2^e)):=by rw[bY,ZJ h]
def MF{e:Nat}{os:List Int}(h:fE (e+1) os):af e 0 os=os.filter λo=>decide (o<2^e):=by
 unfold af;have M:(os.filter λo=>ck e o==0)=os.filter λo=>decide (o<2^e):=List.filter_congr λo _=>by
  unfold ck;by_cases c:o<2^e
  ·rw[ZL c,ZG c];rfl
  ·rw[ZJ c,ZS c];rfl
 rw[M];have I:∀ o∈(os.filter λo=>decide (o<(2:Int)^e)),o%2^e=o:=λo B=>by
  obtain⟨h1,h2⟩:=List.mem_filter.mp B;exact Int.emod_eq_of_lt (h o h1).1 (ZI h2)
 rw[map_congr_left I,map_id']
def ME{e:Nat}{os:List Int}(h:fE (e+1) os):af e 1 os=(os.filter λo=>decide ((2:Int)^e<=o)).map λo=>o-2^e:=by
 unfold af;have N:(os.filter λo=>ck e o==1)=os.filter λo=>decide ((2:Int)^e<=o):=List.filter_congr λo _=>by
  unfold ck;by_cases c:o<2^e
  ·rw[ZL c,ZS {}];rfl
  ·rw[ZJ c,ZG {}];rfl
 rw[N];refine map_congr_left λo B=>?_;obtain⟨h1,h2⟩:=List.mem_filter.mp B;have S:(2:Int)^e<=o:=ZI h2;have O:=(h o h1).2;have hs:(2:Int)^(e+1)=2^e+2^e:=by rw[Int.pow_succ];lia
 have M:o=(o-2^e)+2^e:={}
 have I:o%2^e=(o-2^e)%2^e:=by rw[M,Int.add_emod_right];congr 1;cutsat
 rw[I];exact Int.emod_eq_of_lt (by cutsat) (by cutsat)
def iI{e:Nat}{os:List Int}{w:Int}:fE e (af e w os):=λo B=>by
 obtain⟨x,_,rfl⟩:=eE B;have hp:(0:Int)<2^e:=Int.pow_pos ∅;exact⟨Int.emod_nonneg _ {},Int.emod_lt_of_pos _ hp⟩
def mY{e:Nat}{os:List Int}{w:Int}:(af e w os).length<=os.length:=by unfold af;rw[ZK];exact length_filter_le _ _
def Q_{e:Nat}{os:List Int}{w:Int}(h:fE (e+1) os)(hw:w=0\/w=1):oG (bY (e+1) os) w=bY e (af e w os):=by
 by_cases B:os=[]
 ·subst B;rw[qj];show Tr.bf=bY e ([]:List Int);rw[qj]
 ·rw[m9 B];rcases hw with rfl | rfl
  ·rw[MF h];rfl
  ·rw[ME h];rfl
def NW(e:Nat)(os:List Int):zM (bY e os)=os.length:=by
 by_cases h:os=[]
 ·rw[h,qj];rfl
 ·cases e with
  | zero=>rw[Gr h];rfl
  | succ e=>rw[m9 h];show((List.map _ os).length:Int)=_;rw[ZK]
def MD{L:Nat}:cT L [] ws=[]:=rfl
def Ae{L:Nat}{os:List Int}:cT L os []=List.range os.length:=by
 unfold cT;have e:(λo=>jj L o [])=λ_=>true:=by funext o;cases L <;> rfl
 rw[e,FF]
def NV{e:Nat}{os ws:List Int}{w:Int}(h:fE (e+1) os)(k:Nat) :
  (cT (e+1) os (w::ws))[k]? = ((cT e (af e w os) ws)[k]?).bind λj=>qz w (os.map (ck e)) (j:Int) 0:=by
 rw[NX h];congr 1;funext j;rw[AA];simp
def LF(l:List Int):Prop:=∀ m∈l,m=0\/m=1
def FE{l:List Int}{i:Nat}{m:Int}(h:l[i]? = some m):l.drop i=m::l.drop (i+1):=by obtain⟨h1,h2⟩:=ac h;rw[YT h1,h2]
def qy{mk m l:Int}{i:Nat}:qz mk (m::r) l i=if m=mk then(if l=0 then some i else qz mk r (l-1) (i+1))else qz mk r l (i+1):=rfl
def sF(ms:List Int)(k:Nat):dO (ms.map V.int) none (some (k:Int))=(ms.take k).map V.int:=by
 unfold dO;rw[HT.Q13,HT.Kq,drop_zero,Nat.sub_zero,map_take];by_cases h:k<=(ms.map V.int).length
 ·rw[YH h]
 ·rw[Nat.min_eq_right {},WR,WP {}]
inductive Sa(K:Fg)(vs:List V)(H:Hp)(Q:VK)(E:XK):Prop
 |mk(t:Addr)(ms:List Int)(mk num:Int)(p:Nat)(_:vs=[.ref t,.int mk,.int num])(_:au K H t (ms.map V.int))(_:qz mk ms num 0=some p)(_:∀ H',ag H H'->Q (.int (p:Nat)) H')
def Ad:z.C P w 1 "place_of" ["marks", "mark", "number"] (Sa K):=by
 have sc:=Pq;specialize z.lC;obtain⟨t,ms,mk,num,p0,rfl,Y,S,q⟩:=h;refine⟨_,(aj (aF 3 sc.nd bv)
 (aj (pO bn J (wt J z.lx (ar kb)) (IE J (cF (cq 4 sc.nd) (cF (cq 5 sc.nd) jq)))
 (bF (aW (aN av (pr 5) kv)
 (aj (aW (aN av bi ah)
 (az (pr 4)))
 (bF (aF 3 sc.nd (ae lW bi ah)))))))
 (bF dF))),?_⟩
 symm;refine⟨_,J,⟨_,Y⟩,rN (xs:=ms.map V.int) (λi σ H2=>bR λ(L:Int) (v u:Option V)=>aP (σ=[some (.ref t),some (.int mk),some (.int num),some (.int L),v,u]) (ag H H2) (qz mk (ms.drop i) L i=some p0)) ⟨num,none,none,J,ag.refl H,S⟩ (by rintro _ _ _ _ ⟨_,_,_,_,M,_⟩;exact M.cJ Y) ?_ ?_⟩
 ·rintro i x σ H2 p I ⟨L,v,u,rfl,M,hp⟩ O;obtain⟨m,gm,rfl⟩:∃ m,ms[i]? = some m/\V.int m=x:=by
   rw[WE]at I;cases e:ms[i]? with
   | none=>rw[e]at I;cases I
   | some m=>rw[e]at I;exact⟨m,J,am I⟩
  have N:ag H (upd H2 p (.tup [.int (i:Nat),.int m])):=M.trans (aM O _);rw[FE gm,qy]at hp;exists p,_,J,au.of ax,J,_,_,J,_,_,J,J;exists J;refine ay (λc=>?_) (λc=>?_)
  ·have W:m=mk:=V.int.inj (ZI c);rw[ZL W]at hp;exists J;refine ay (λU=>?_) (λU=>?_)
   ·have B:L=0:=V.int.inj (ZI U);rw[ZL B]at hp;cases hp;exact q _ N
   ·have B:¬ L=0:=λz=>U (by rw[z];exact ZG J);rw[ZJ B]at hp;exact⟨_,_,_,J,N,hp⟩
  ·have W:¬ m=mk:=λz=>c (by rw[z];exact ZG J);rw[ZJ W]at hp;exact⟨_,_,_,J,N,hp⟩
 ·rintro σ H2 ⟨L,v,u,rfl,M,hp⟩;rw[ZK,drop_length]at hp;cases hp
def sU(ms:List Int):(ms.map V.int).all c5=true:=by rw[all_eq_true];intro x B;obtain⟨i,_,rfl⟩:=eE B;rfl
def MC(ms:List Int)(m:Int):(ms.map V.int).countP (λy=>mf y (.int m))=ms.count m:=by rw[countP_map,count_eq_countP];rfl
inductive ET(u0:Fg)(vs:List V)(H:Hp)(Q:VK)(E:XK):Prop
 |mk(t:Addr)(ms:List Int)(mk:Int)(pl:Nat)(_:vs=[.ref t,.int mk,.int (pl:Int)])(_:c7 H t (ms.map V.int))(_:∀ H',ag H H'->Q (.int ((ms.take pl).count mk:Nat)) H')
def ES:z.C P w 1 "ahead" ["marks", "mark", "place"] (ET K):=by
 have sc:=pw;specialize z.xA;obtain⟨t,ms,mk,pl,rfl,I,q⟩:=h;exists _,(az (BF PySem.F.plainAttrs_tuple PySem.F.slot_tuple_count PySem.F.type_tuple_count Nl (Am Nm kb Mt (yf (cK (Nz J) () z.TH Ck (aY bv ah)))) (ar kv)))
 symm;have O:(if(0:Int) > (pl:Int) then(0:Int) else(pl:Int))=(pl:Int):=ZJ {};refine⟨_,_,J,_,J,t,_,J,I,λp H1 B h1=>?_⟩;rw[O,sF]at h1;obtain⟨o,M,N,hd⟩:=id h1;exists⟨p,o,_,J,M,N,hd⟩,p,_,_,J,J,h1.sq,J,sU _;rw[MC];exact q H1 B
abbrev G3:=List Int×Nat×Nat
def aK(L:Nat)(g:G3):Prop:=fE L g.1/\g.2.1<=g.2.2/\g.2.2<=g.1.length/\g.1.length<=300
noncomputable def bT(e:Nat)(w:Int)(g:G3):G3:=(af e w g.1,((g.1.map (ck e)).take g.2.1).count w,((g.1.map (ck e)).take g.2.2).count w)
noncomputable def bL:Nat->List Int->G3->G3
 | _,[],g=>g
 | 0,_::_,g=>g
 | e+1,w::ws,g=>bL e ws (bT e w g)
def Fn(L:Nat)(g:G3):bL L [] g=g:=by cases L <;> rfl
def lV(e:Nat)(w:Int)(ws:List Int)(g:G3):bL (e+1) (w::ws) g=bL e ws (bT e w g):=rfl
def vp(e:Nat)(w:Int)(os:List Int):(os.map (ck e)).count w=(af e w os).length:=by unfold af;rw[ZK,count_eq_countP,countP_map,countP_eq_length_filter];rfl
def d0{e:Nat}{w:Int}(h:aK (e+1) g):aK e (bT e w g):=by
 obtain⟨h1,h2,I,B⟩:=h;refine⟨iI,?_,?_,ZT mY B⟩
 ·exact(List.take_sublist_take_left h2).count_le w
 ·show((g.1.map (ck e)).take g.2.2).count w<=(af e w g.1).length;rw[<- vp];exact(take_sublist _ _).count_le w
def FD{e:Nat}{w:Int}{g:G3}(h:af e w g.1=[]):bT e w g=([],0,0):=by
 have z:∀ k,((g.1.map (ck e)).take k).count w=0:=λk=>by
  have h1:=(take_sublist k (g.1.map (ck e))).count_le w;rw[vp,h,length_nil]at h1;lia
 unfold bT;rw[h,z,z]
theorem ER:∀(e:Nat)(ws:List Int),bL e ws ([],0,0)=([],0,0)
 | e,[]=>Fn e _
 | 0,_::_=>rfl
 | e+1,w::ws=>by
  rw[lV,FD (e:=e) (w:=w) (g:=([],0,0)) J];exact ER e ws
def iz(gs:List G3):Int:=(gs.map λg=>(g.2.2:Int)-g.2.1).sum
def Kj{e:Nat}(os:List Int)(k:Nat):((os.map (ck e)).take k).count 0+((os.map (ck e)).take k).count 1=min k os.length:=by
 have z:∀ l:List Int,(l.map (ck e)).count 0+(l.map (ck e)).count 1=l.length:=λl=>by
  induction l with
  | nil=>rfl
  | cons x l B=>
   rw[YA,count_cons,count_cons,WB];unfold ck at B ⊢;by_cases c:x<2^e
   ·simp only[c,if_true]at B ⊢;simp;lia
   ·simp only[c,if_false]at B ⊢;simp;lia
 rw[<- map_take,z,WL]
theorem Q9{p q:Int->Bool}:∀{os:List Int},(∀ o∈os,p o=q o)->idxs p os=idxs q os
 | [],_=>rfl
 | o::os,h=>by
  rw[idxs,idxs,h o (ZQ ..),Q9 λx B=>h x (ZU _ B)]
noncomputable def c6(H:Hp)(L:Nat)(v:V)(g:G3):Prop:=aO λt u=>aP (v = .ref t) (H t=some (.tup [u,.int (g.2.1:Int),.int (g.2.2:Int)])) (AL H u (bY L g.1))
noncomputable def aE(H:Hp)(L:Nat)(xs:List V)(gs:List G3):Prop:=xs.length=gs.length /\ ∀(j:Nat)(x:V)(g:G3),xs[j]? = some x->gs[j]? = some g->c6 H L x g
def c6.tk{L:Nat}(h:c6 H L v g)(k:aw H H'):c6 H' L v g:=by obtain⟨t,u,e,h1,h2⟩:=h;exact⟨t,u,e,(k _ _).1 h1,h2.tk k⟩
def aE.tk{L:Nat}(h:aE H L xs gs)(k:aw H H'):aE H' L xs gs:=⟨h.1,λj x g h1 h2=>(h.2 j x g h1 h2).tk k⟩
def aE.same{L:Nat}(h:aE H L xs gs)(s:ag H H'):aE H' L xs gs:=h.tk (.same s)
def aE.nil(H:Hp)(L:Nat):aE H L [] []:=⟨J,λj x g h1 _=>by simp at h1⟩
def iQ{α:Type}{l:List α}{x y:α}{j:Nat}(h:(l++[x])[j]? = some y):(j<l.length/\l[j]? = some y)\/(j=l.length/\y=x):=by
 by_cases I:j<l.length
 ·rw[WO I]at h;exact .inl ⟨I,h⟩
 ·have B:j<(l++[x]).length:=(ac h).1;rw[ZM,length_singleton]at B;have e:j=l.length:={}
  subst e;rw[WM (ZF _),Nat.sub_self]at h;exact .inr ⟨J,(am h).symm⟩
def aE.snoc{L:Nat}(h:aE H L xs gs)(N:c6 H L x g):aE H L (xs++[x]) (gs++[g]):=by
 refine⟨by rw[ZM,ZM,h.1] <;> rfl,λj y k h1 h2=>?_⟩;have S:=h.1;rcases iQ h1 with ⟨O,M⟩ | ⟨O,M⟩
 ·rcases iQ h2 with ⟨I,B⟩ | ⟨I,B⟩
  ·exact h.2 j y k M B
  ·lia
 ·rcases iQ h2 with ⟨I,B⟩ | ⟨I,B⟩
  ·lia
  ·rw[M,B];exact N
def ag.own(k:ag H H')(hr:H r=none):ag H (upd H' r o):=λc u z=>by
 rw[bC (cO z hr)];exact k c u z
def zL{H:Hp}{e:Nat}{os:List Int}(h:AL H .bf (bY e os)):os=[]:=by
 apply Classical.byContradiction;intro B;cases e with
 | zero=>rw[Gr B]at h;obtain⟨a,z,_⟩:=h;cases z
 | succ e=>rw[m9 B]at h;obtain⟨a,m,x,y,z,_⟩:=h;cases z
noncomputable def Rr(K:Fg):Sp:=λvs H Q _=>∃(v:V)(B:Addr)(L:Nat)(ws:List Int)(g:G3),vs=[v,.ref B]/\c6 H L v g/\aK L g/\au K H B (ws.map V.int)/\ws.length<=L/\LF ws /\
 ∀(H':Hp)(I:V),ag H H'->c6 H' (L-ws.length) I (bL L ws g)->Q I H'
inductive za(K:Fg)(vs:List V)(H:Hp)(Q:VK)(E:XK):Prop
 |mk(ga wy:Addr)(xs:List V)(L:Nat)(ws:List Int)(gs:List G3)(_:vs=[.ref ga,.ref wy])(_:ao K H ga xs)(_:aE H L xs gs)(_:(∀ g∈gs,aK L g))(_:gs.length<=1000)(_:au K H wy (ws.map V.int))(_:ws.length<=L)(_:LF ws)(_:∀(H':Hp)(D:Addr)(ys:List V),ag H H'->H' D=some (.lst ys)->H D=none->aE H' (L-ws.length) ys (gs.map (bL L ws))->Q (.ref D) H')
inductive Gq(K:Fg)(vs:List V)(H:Hp)(Q:VK)(E:XK):Prop
 |mk(ga:Addr)(xs:List V)(L:Nat)(gs:List G3)(_:vs=[.ref ga])(_:ao K H ga xs)(_:aE H L xs gs)(_:gs.length<=1000)(_:∀ H',ag H H'->Q (.int (iz gs)) H')
def dE:z.C P w 1 "many_in" ["gathering"] (Gq K):=by
 have sc:=Oh;specialize z.nO;obtain⟨ga,xs,L,gs,rfl,O,Y,hl,q⟩:=h;exists _,(az (cK (FZ J) () z.Dr sP (ar (kf (cl:=[]) (cn:=[]) (N:=[]) (fr:=[]) (bB:=aI Hk) J (cw kb) (λC s₂ H₂ fp=>(ae lW (aG (kW (K:=K) J) kb ah) (aG (kW (K:=K) J) kb ah))) (by ac_rfl) trivial J J J eT J))))
 symm;have I:=Y.1;refine⟨ga,J,⟨_,O⟩,λD S=>?_⟩;refine eY (xs:=xs) (sz {}) (λi ys H2=>ys=(gs.take i).map (λg=>V.int ((g.2.2:Int)-g.2.1))/\i<=gs.length/\H2=upd H D (.lst ys)) ⟨by simp,ZX _,J⟩ (λi ys H2 ⟨_,_,e⟩=>by rw[e];exact(aM S _).seq O)
  (λi ys H2 ⟨B,Z,e3⟩=>⟨by rw[e3];exact ax,by rw[B,ZK,WL];lia⟩) ?_ ?_
 ·rintro i x ys H2 W ⟨B,Z,rfl⟩;have hi:i<gs.length:=by rw[<- I];exact(ac W).1
  have U:gs[i]? = some gs[i]:=ZP hi;generalize gs[i]=g at U;obtain⟨t,u,rfl,ht,_⟩:=Y.2 i x g W U;have M:au K (upd H D (.lst ys)) t [u,.int (g.2.1:Int),.int (g.2.2:Int)]:=au.of (aM S _ _ _ ht);refine⟨_,_,M,J,_,_,M,J,ax,?_,{},by rw[kX]⟩;rw[WK,U,WF,<- B];rfl
 ·rintro ys H2 ⟨B,Z,rfl⟩;rw[I,WR]at B;refine⟨D,gs.map (λ(g:G3)=>(g.2.2:Int)-(g.2.1:Int)),J,ao.of ?_,q _ (aM S _)⟩;rw[ax,B,map_map];rfl
def Rq:z.C P w 2 "led_stretch" ["stretch", "way"] (Rr K):=by
 have sc:=RL;refine z.g9.jd λf fd F=>F.ok sc (by intro vs H Q E h;(repeat (first | obtain⟨rfl,_⟩:=h | obtain⟨_,h⟩:=h));rfl) λ_ _ _ s H _ Q _ hr h=>?_;obtain⟨v,wy,L,ws,g,rfl,⟨t,u,rfl,ht,hu⟩,U,hw,jI,CY,q⟩:=h;refine⟨_,(aj (aF 2 sc.nd (aG bh kb ah))
 (aj (aF 3 sc.nd (aG bh kb ah))
 (aj (aF 4 sc.nd (aG bh kb ah))
 (aj (pO bn J (mE kv) (cq 5 sc.nd)
 (aj (aF 6 sc.nd (aC (Gs z) hr (aY bv (pr 5))))
 (aj (aW (aN AX (pr 6) dG)
 (az (vj (bW dG ah ah))))
 (aj (aF 3 sc.nd (aC (ES z) hr (bW (aG bh bv ah) (pr 5) bi)))
 (aj (aF 4 sc.nd (aC (ES z) hr (bW (aG bh bv ah) (pr 5) (pr 4))))
 (bF (aF 2 sc.nd (pr 6))))))))
 (az (vj (bW bv bi (pr 4)))))))),?_⟩
 symm;have S:au K H t [u,.int (g.2.1:Int),.int (g.2.2:Int)]:=au.of ht;exists _,_,S,J,_,_,S,J,_,_,S,J;refine⟨wy,J,⟨_,hw⟩,kI (K:=K) (a:=wy) (xs:=ws.map V.int) (λi σ H2=>ik λ(Y:V) (g':G3) (v5 v6:Option V)=>gB (σ=[some (.ref t),some (.ref wy),some Y,some (.int (g'.2.1:Int)),some (.int (g'.2.2:Int)),v5,v6]) (ag H H2) (AL H2 Y (bY (L-i) g'.1)) (aK (L-i) g') (i<=ws.length) (bL L ws g=bL (L-i) (ws.drop i) g'))
  ⟨u,g,none,none,J,ag.refl H,hu,U,ZX _,J⟩ (by rintro _ _ _ _ ⟨_,_,_,_,_,Z,_⟩;exact Z.cJ hw) ?_ ?_⟩
 ·rintro i x σ H2 hi ⟨Y,g',v5,v6,rfl,Z,M,N,U6,B⟩;obtain⟨wv,BY,rfl⟩:∃ t,ws[i]? = some t/\x = .int t:=by
   rw[WE]at hi;cases e:ws[i]? with
   | none=>rw[e]at hi;cases hi
   | some m=>rw[e]at hi;exact⟨m,J,(am hi).symm⟩
  have U5:i<ws.length:=(ac BY).1;have O:=CY wv (ZV BY);obtain⟨e,he⟩:∃ e,L-i=e+1:=⟨L-i-1,{}⟩
  have W:L-(i+1)=e:={}
  have hdr:ws.drop i=wv::ws.drop (i+1):=by obtain⟨h1,h2⟩:=ac BY;rw[YT h1,h2]
  rw[he]at M N B;rw[hdr,lV]at B;refine⟨Y,_,wv,J,M,O,λu2 I=>?_⟩;rw[Q_ N.1 O]at I;exists J;refine aT (λc=>?_) (λc=>?_)
  ·have c':u2 = .bf:=ZI c;subst c';have h0:=zL I;rw[FD h0,ER]at B;refine⟨aZ J,λp hp=>q _ _ (Z.trans (aM hp _)) ?_⟩;rw[B];exact⟨p,.bf,J,ax,by rw[qj];rfl⟩
  ·have eP:g'.1≠[]:=λz=>c (by
    rw[z]at I;have e0:af e wv []=[]:=J;rw[e0,qj]at I;exact ZG I)
   have W0:=M;rw[m9 eP]at W0;obtain⟨a,m,x1,y1,rfl,ha,hm,_,_⟩:=W0;refine⟨_,_,au.of ha,J,m,g'.1.map (ck e),wv,g'.2.1,J,hm,λH3 s3=>?_⟩;refine⟨_,_,au.of (s3 _ _ ha),J,m,g'.1.map (ck e),wv,g'.2.2,J,hm.same s3,λH4 s4=>?_⟩;exists u2,bT e wv g',_,_,J,Z.trans (s3.trans s4),?_,?_,{}
   ·rw[W];exact(I.same s3).same s4
   ·rw[W];exact d0 N
   ·rw[W];exact B
 ·rintro σ H2 ⟨Y,g',v5,v6,rfl,Z,M,N,U6,B⟩;rw[ZK]at M B;rw[drop_length,Fn]at B;refine⟨aZ J,λp hp=>q _ _ (Z.trans (aM hp _)) ?_⟩;rw[B];exact⟨p,Y,J,ax,M.same (aM hp _)⟩
def Bd:z.C P w 3 "led" jD (za K):=by
 have sc:=zd;specialize z.Kh;obtain⟨ga,wy,xs,L,ws,gs,rfl,S,hg,I,hl,hw,jI,CY,q⟩:=h;exists _,(az (kf (cl:=[("way", s.heap.objs.size+1+0)]) (cn:=["way"]) (N:=["way"]) (fr:=[1]) (bB:=aI pC) J (cw kb) (λC s₂ H₂ fp=>(aC (Rq z) hr (aY kb kv))) (by ac_rfl) ⟨by ac_rfl,trivial⟩ J J J eT J))
 symm;have O:=hg.1;refine⟨ga,J,⟨_,S⟩,λD hD=>?_⟩;refine eY (xs:=xs) (sz {}) (λi ys H2=>H2 D=some (.lst ys)/\ys.length=i/\ag H H2/\aE H2 (L-ws.length) ys ((gs.take i).map (bL L ws))) ⟨ax,J,aM hD _,by simp only[List.take_zero,map_nil];exact aE.nil _ _⟩ (λi ys H2 ⟨_,_,e,_⟩=>e.seq S)
  (λi ys H2 ⟨U,Y,_,_⟩=>⟨U,Y⟩) ?_ ?_
 ·rintro i x ys H2 hx ⟨U,Y,M,B⟩;have hi:i<gs.length:=by rw[<- O];exact(ac hx).1
  have W:gs[i]? = some gs[i]:=ZP hi;generalize gs[i]=g at W;refine⟨x,wy,L,ws,g,J,(hg.2 i x g hx W).tk (.same M),I g (ZV W),M.cJ hw,jI,CY,λH3 v' Z Ul=>?_⟩;have e3:=Z _ _ U;have tk:aw H3 (upd H3 D (.lst (ys++[v']))):=aw.set e3;exists e3,ax,by rw[ZM,Y] <;> rfl,ag.own (M.trans Z) hD
  rw[WK,W,WF];exact((B.same Z).tk tk).snoc (Ul.tk tk)
 ·rintro ys H2 ⟨U,Y,M,B⟩;rw[O,WR]at B;exact q H2 D ys M U hD B
theorem mL{q:Int->Bool}(os:List Int)(s:Nat):(os.filter q).take ((os.take s).countP q)=(os.take s).filter q
:=by
 induction os generalizing s with
 | nil=>simp
 | cons x os i=>
  obtain _ | s:=s
  ·simp
  rw[take_succ_cons,countP_cons,filter_cons,filter_cons];by_cases c:q x=true
  ·rw[ZL c,ZL c,ZL c,take_succ_cons,i s]
  ·rw[ZJ c,ZJ c,ZJ c,Nat.add_zero];exact i s
def HJ{e:Nat}{w:Int}(os:List Int)(s:Nat):(af e w os).take (((os.map (ck e)).take s).count w)=af e w (os.take s):=by unfold af;rw[<- map_take,<- map_take,count_eq_countP,countP_map];congr 1;exact mL os s
def zU{e:Nat}{w:Int}(os:List Int):(af e w os).countP p=os.countP λo=>(ck e o==w)&&p (o%2^e):=by unfold af;rw[countP_map,List.countP_filter];congr 1;funext o;show(p (o%2^e)&&(ck e o==w))=_;rw[Bool.and_comm]
def vo{e:Nat}{o w:Int}(h:0<=o/\o<(2:Int)^(e+1)):jj (e+1) o (w::ws)=((ck e o==w)&&jj e (o%2^e) ws):=by show((o/2^e==w)&&jj e (o%2^e) ws)=_;rw[DV h.1 h.2]
noncomputable def pe(L:Nat)(os ws:List Int):List Int:=(os.filter λo=>jj L o ws).map λo=>o%2^(L-ws.length)
def wL{a b:Nat}{o:Int}(h:a<=b):(o%2^b)%2^a=o%2^a:=by refine Int.emod_emod_of_dvd o ?_;exact⟨2^(b-a),by rw[<- Int.pow_add];congr 1;lia⟩
theorem EO(L:Nat)(ws os:List Int)(s t:Nat)(h:ws.length<=L)(B:fE L os):
  bL L ws (os,s,t)=(pe L os ws,(os.take s).countP (λo=>jj L o ws),(os.take t).countP (λo=>jj L o ws))\/(os.length<s\/os.length<t)
:=by
 induction ws generalizing L os s t with
 | nil=>
  by_cases hs:os.length<s
  ·exact .inr (.inl hs)
  ·by_cases S:os.length<t
   ·exact .inr (.inr S)
   ·refine .inl ?_;rw[Fn];have e:(λo=>jj L o [])=λ_=>true:=by funext o;cases L <;> rfl
    unfold pe;rw[e];have Y:∀ l:List Int,l.countP (λ_=>true)=l.length:=λl=>by simp
    have c2:(os.filter λ_=>true)=os:=by simp
    rw[Y,Y,c2,WL,WL,YH {},YH {}];have c3:os.map (λo=>o%2^(L-([]:List Int).length))=os:=by have:∀ o∈os,o%2^(L-([]:List Int).length)=id o:=λo M=>Int.emod_eq_of_lt (B o M).1 (B o M).2;rw[map_congr_left this,map_id]
    rw[c3]
 | cons w ws i=>
  obtain _ | e:=L
  ·cases h
  by_cases hs:os.length<s
  ·exact .inr (.inl hs)
  ·by_cases S:os.length<t
   ·exact .inr (.inr S)
   ·refine .inl ?_;have U:ws.length<=e:=by rw[WB]at h;lia
    rw[lV];have W:∀ k,((os.map (ck e)).take k).count w<=(af e w os).length:=λk=>by
     rw[<- vp];exact(take_sublist _ _).count_le w
    have N:=i e (af e w os) (((os.map (ck e)).take s).count w) (((os.map (ck e)).take t).count w) U iI;rcases N with N | N | N
    ·show bL e ws (af e w os,_,_)=_;rw[N,HJ,HJ,zU,zU];have I:∀ l:List Int,(∀ o∈l,o∈os)->l.countP (λo=>(ck e o==w)&&jj e (o%2^e) ws)=l.countP λo=>jj (e+1) o (w::ws):=λl U=>by
      refine countP_congr λo M=>?_;rw[vo (B o (U o M))]
     rw[I _ λo M=>YG M,I _ λo M=>YG M];have O:pe e (af e w os) ws=pe (e+1) os (w::ws):=by
      unfold pe af;rw[filter_map,List.filter_filter,map_map,WB,Nat.add_sub_add_right];have Z:(os.filter λa=>((λo=>jj e o ws)∘λo=>o%2^e) a&&(ck e a==w))=os.filter λo=>jj (e+1) o (w::ws):=List.filter_congr λo M=>by
       rw[vo (B o M),Bool.and_comm];rfl
      rw[Z];refine map_congr_left λo _=>?_;exact wL {}
     rw[O]
    ·have:=W s;lia
    ·have:=W t;lia
theorem pN:∀(os:List Int),(idxs p os).map (λi=>(os[i]?).getD 0)=os.filter p
 | []=>rfl
 | o::os=>by
  rw[idxs,filter_cons];have e:((idxs p os).map (· + 1)).map (λi=>((o::os)[i]?).getD 0)=os.filter p:=by rw[map_map,<- pN os];refine map_congr_left λi _=>?_;simp
  by_cases c:p o=true
  ·rw[ZL c,ZL c,YA,e];rfl
  ·rw[ZJ c,ZJ c,e]
def ve(os:List Int){a b:Nat}(h:a<=b):(os.take a).countP q<=(os.take b).countP q:=by
 have e:os.take a=(os.take b).take a:=by rw[take_take,YH h]
 rw[e];exact(take_sublist a (os.take b)).countP_le
def sL{os:List Int}{i:Nat}{o:Int}(h:os[i]? = some o)(hq:q o=true):(os.take (i+1)).countP q=(os.take i).countP q+1:=by rw[WK,h,YX];simp[hq]
theorem Az(os:List Int)(j i:Nat)(h:(idxs q os)[j]? = some i):∃ o,aP (os[i]? = some o) (q o=true) ((os.take i).countP q=j)
:=by
 induction os generalizing j i with
 | nil=>simp[idxs]at h
 | cons o os k=>
  rw[idxs]at h;by_cases c:q o=true
  ·rw[ZL c]at h;cases j with
   | zero=>
    have:i=0:=by simpa using h.symm
    subst this;exact⟨o,J,c,J⟩
   | succ j=>
    have h':((idxs q os).map (· + 1))[j]? = some i:=by simpa using h
    rw[WE]at h';cases e:(idxs q os)[j]? with
    | none=>rw[e]at h';cases h'
    | some B=>rw[e]at h';have:i=B+1:=(am h').symm;subst this;obtain⟨o',h1,h2,I⟩:=k j B e;exact⟨o',by simpa using h1,h2,by rw[take_succ_cons,countP_cons,I,ZL c]⟩
  ·rw[ZJ c]at h;have h':((idxs q os).map (· + 1))[j]? = some i:=by simpa using h
   rw[WE]at h';cases e:(idxs q os)[j]? with
   | none=>rw[e]at h';cases h'
   | some B=>rw[e]at h';have:i=B+1:=(am h').symm;subst this;obtain⟨o',h1,h2,I⟩:=k j B e;exact⟨o',by simpa using h1,h2,by rw[take_succ_cons,countP_cons,I,ZJ c] <;> rfl⟩
def jx{e:Nat}{o w:Int}(B:0<=o)(h1:o<2^(e+1))(hw:ck e o=w):o%2^e+w*2^e=o:=by have d:=DV B h1;rw[hw]at d;have:=Int.emod_add_mul_ediv o (2^e);rw[d,Int.mul_comm]at this;exact this
def wM(e:Nat)(o:Int):ck e o=0\/ck e o=1:=by
 unfold ck;by_cases h:o<2^e
 ·exact .inl (ZL h)
 ·exact .inr (ZJ h)
def sel(g:G3):List Int:=(g.1.take g.2.2).drop g.2.1
def Wh(gs:List G3):List Int:=gs.flatMap sel
def uJ{L:Nat}{g:G3}(h:aK L g):((sel g).length:Int)=(g.2.2:Int)-g.2.1:=by obtain⟨_,h1,h2,_⟩:=h;unfold sel;rw[length_drop,WL,YH h2];lia
theorem IL{L:Nat}:∀{gs:List G3},(∀ g∈gs,aK L g)->iz gs=((Wh gs).length:Nat)
 | [],_=>rfl
 | g::gs,h=>by
  have B:=IL (gs:=gs) λx I=>h x (ZU _ I);have M:=uJ (h g ZQ);unfold iz at B ⊢;unfold Wh at B ⊢;rw[YA,List.sum_cons,B,flatMap_cons,ZM];lia
def pM{e:Nat}{w:Int}(a b:List Int):af e w (a++b)=af e w a++af e w b:=by unfold af;rw[YW,WF]
def jw{e:Nat}{w:Int}(os:List Int):(os.map (ck e)).count w=(af e w os).length:=vp e w os
def o_{e:Nat}{w:Int}(h:aK (e+1) g):sel (bT e w g)=af e w (sel g):=by
 obtain⟨_,h1,h2,_⟩:=h;show((af e w g.1).take (((g.1.map (ck e)).take g.2.2).count w)).drop (((g.1.map (ck e)).take g.2.1).count w)=_;rw[HJ];have I:g.1.take g.2.2=g.1.take g.2.1++sel g:=by unfold sel;have:=(YY g.2.1 (g.1.take g.2.2)).symm;rw[take_take,YH h1]at this;exact this
 rw[I,pM];have B:((g.1.map (ck e)).take g.2.1).count w=(af e w (g.1.take g.2.1)).length:=by rw[<- map_take];exact jw _
 rw[B,drop_left]
theorem bQ{e:Nat}{w:Int}:∀{gs:List G3},(∀ g∈gs,aK (e+1) g)->Wh (gs.map (bT e w))=af e w (Wh gs)
 | [],_=>rfl
 | g::gs,h=>by
  have B:=bQ (w:=w) (gs:=gs) λx I=>h x (ZU _ I);unfold Wh at B ⊢;rw[YA,flatMap_cons,flatMap_cons,pM,B,o_ (h g ZQ)]
def bJ(gs:List G3):List G3:=gs.filter λg=>decide (g.2.1<g.2.2)
theorem ql:∀{gs:List G3},Wh (bJ gs)=Wh gs
 | []=>rfl
 | g::gs=>by
  have B:=ql (gs:=gs);unfold bJ Wh at B ⊢;rw[filter_cons];by_cases c:g.2.1<g.2.2
  ·rw[ZL (ZG c),flatMap_cons,flatMap_cons,B]
  ·rw[ZJ (by simpa using c),B,flatMap_cons];have:sel g=[]:=by unfold sel;rw[List.drop_eq_nil_iff,WL];lia
   rw[this,nil_append]
def n8{L:Nat}(h:∀ g∈gs,aK L g):∀ g∈bJ gs,aK L g:=λg B=>h g (List.mem_filter.mp B).1
def ib{L:Nat}(h:∀ g∈gs,aK L g):fE L (Wh gs):=λo B=>by
 obtain⟨g,I,B⟩:=List.mem_flatMap.mp B;exact(h g I).1 o (YG (mem_of_mem_drop B))
def yB(a b:List G3):Wh (a++b)=Wh a++Wh b:=List.flatMap_append
abbrev P2:=Int×Int
noncomputable def cX(part floor:Int):Nat->Int->List Int->List P2
 | 0,least,ws=>if(ws.length:Int)*part<=floor then[] else[(least,(ws.length:Int))]
 | e+1,least,ws=>if(ws.length:Int)*part<=floor then[]else cX part floor e least (af e 0 ws)++cX part floor e (least+2^e) (af e 1 ws)
theorem sN{part floor:Int}(e:Nat)(least:Int)(ws:List Int)(p)(hp:p∈cX part floor e least ws):p.2<=(ws.length:Int)
:=by
 induction e generalizing least ws with
 | zero=>
  unfold cX at hp;by_cases c:(ws.length:Int)*part<=floor
  ·rw[ZL c]at hp;cases hp
  ·rw[ZJ c]at hp;rw[eD hp];exact WT _
 | succ e i=>
  unfold cX at hp;by_cases c:(ws.length:Int)*part<=floor
  ·rw[ZL c]at hp;cases hp
  ·rw[ZJ c]at hp;have I:=mY (e:=e) (os:=ws) (w:=0);have B:=mY (e:=e) (os:=ws) (w:=1);rcases eC hp with hp | hp
   ·have:=i _ _ hp;lia
   ·have:=i _ _ hp;lia
def MB{part floor:Int}(hp:1<=part)(I:0<=floor):∀(e:Nat)(least:Int)(ws:List Int),cX part floor e least ws=(cX 1 0 e least ws).filter λp=>decide (floor<p.2*part):=by
 have mono:∀{a b:Int},a<=b->a*part<=b*part:=λh=>Int.mul_le_mul_of_nonneg_right h {};have none_of:∀(e:Nat)(least:Int)(ws:List Int),(ws.length:Int)*part<=floor->(cX 1 0 e least ws).filter (λp=>decide (floor<p.2*part))=[]:=λe least ws c=>by
  rw[List.filter_eq_nil_iff];intro p h;have:=mono (sN e least ws p h);simp;lia
 have pos:∀{n:Nat},¬(n:Int)*part<=floor -> ¬(n:Int)*1<=0:=fun {n} c z=>c (by
  have:n=0:={}
  rw[this];simp;exact I)
 intro e
 induction e with
 | zero=>
  intro least ws;by_cases c:(ws.length:Int)*part<=floor
  ·rw[none_of 0 least ws c];unfold cX;rw[ZL c]
  ·unfold cX;rw[ZJ c,ZJ (pos c),filter_cons,ZL (ZG (by show floor<(ws.length:Int)*part;lia)),filter_nil]
 | succ e B=>
  intro least ws;by_cases c:(ws.length:Int)*part<=floor
  ·rw[none_of (e+1) least ws c];unfold cX;rw[ZL c]
  ·unfold cX;rw[ZJ c,ZJ (pos c),YW,B,B]
def m8{e:Nat}{w x:Int}{ws:List Int}(h:fE (e+1) ws)(hw:w=0\/w=1)(M:0<=x)(h1:x<2^e):(af e w ws).count x=ws.count (x+w*2^e):=by
 rw[count_eq_countP,count_eq_countP,zU];refine countP_congr λo I=>?_;have B:=h o I;have hp:=b7 e;rw[WZ,beq_iff_eq,beq_iff_eq,beq_iff_eq];constructor
 ·rintro ⟨a,b⟩;rw[<- b];exact(jx B.1 B.2 a).symm
 ·intro a;have N:(2:Int)^(e+1)=2*2^e:=by rw[Int.pow_succ];lia
  have hm:ck e o=w:=by
   unfold ck;rcases hw with rfl | rfl
   ·rw[ZL {}]
   ·rw[ZJ {}]
  exists hm;have:=jx B.1 B.2 hm;lia
theorem FC(e:Nat)(least:Int)(ws:List Int)(B:fE e ws)(w m:Int):(w,m)∈cX 1 0 e least ws↔(m=(ws.count (w-least):Nat)/\0<m)
:=by
 induction e generalizing least ws with
 | zero=>
  have I:∀ x∈ws,x=0:=λx M=>by
   have:=B x M;simp at this;lia
  unfold cX;by_cases c:(ws.length:Int)*1<=0
  ·rw[ZL c];have:ws=[]:=eq_nil_of_length_eq_zero {};subst this;simp;lia
  ·rw[ZJ c,List.mem_singleton];have call:ws.count 0=ws.length:=List.count_eq_length.mpr λb N=>(I b N).symm;constructor
   ·intro z;cases z;rw[Int.sub_self,call];exact⟨J,{}⟩
   ·rintro ⟨h1,h2⟩;have:(w-least)∈ws:=List.count_pos_iff.mp {};have z:=I _ this;rw[z,call]at h1;have:w=least:={}
    rw[this,h1]
 | succ e i=>
  have hp:=b7 e;have S:(2:Int)^(e+1)=2*2^e:=by rw[Int.pow_succ];lia
  unfold cX;by_cases c:(ws.length:Int)*1<=0
  ·rw[ZL c];have:ws=[]:=eq_nil_of_length_eq_zero {};subst this;simp;lia
  ·rw[ZJ c,mem_append,i _ _ iI,i _ _ iI];have Cy:∀{x:Int}{us:List Int},fE e us->0<us.count x->0<=x/\x<2^e:=λh O=>h _ (List.count_pos_iff.mp O);constructor
   ·rintro (⟨h1,h2⟩ | ⟨h1,h2⟩)
    ·have r:=Cy iI (show 0<(af e 0 ws).count (w-least) by lia);rw[m8 B (.inl J) r.1 r.2]at h1;have:w-least+0*2^e=w-least:={}
     rw[this]at h1;exact⟨h1,h2⟩
    ·have r:=Cy iI (show 0<(af e 1 ws).count (w-(least+2^e)) by lia);rw[m8 B (.inr J) r.1 r.2]at h1;have:w-(least+2^e)+1*2^e=w-least:={}
     rw[this]at h1;exact⟨h1,h2⟩
   ·rintro ⟨h1,h2⟩;have r:=B _ (List.count_pos_iff.mp (show 0<ws.count (w-least) by lia));by_cases d:w-least<2^e
    ·refine .inl ⟨?_,h2⟩;rw[m8 B (.inl J) r.1 d];have:w-least+0*2^e=w-least:={}
     rw[this];exact h1
    ·refine .inr ⟨?_,h2⟩;rw[m8 B (.inr J) {} {}];have:w-(least+2^e)+1*2^e=w-least:={}
     rw[this];exact h1
def FA{e:Nat}{least:Int}{ws:List Int}(B:fE e ws){p:P2}(h:p∈cX 1 0 e least ws):least<=p.1/\p.1<least+2^e/\0<p.2/\p.2=(ws.count (p.1-least):Nat):=by obtain⟨h1,h2⟩:=(FC e least ws B p.1 p.2).mp h;have r:=B _ (List.count_pos_iff.mp (show 0<ws.count (p.1-least) by lia));exact⟨{},{},h2,h1⟩
theorem vd:∀(e:Nat)(least:Int)(ws:List Int),fE e ws->(cX 1 0 e least ws).Pairwise λp q=>p.1<q.1
 | 0,least,ws,_=>by
  unfold cX;by_cases c:(ws.length:Int)*1<=0
  ·rw[ZL c];exact .nil
  ·rw[ZJ c];simp
 | e+1,least,ws,B=>by
  unfold cX;by_cases c:(ws.length:Int)*1<=0
  ·rw[ZL c];exact .nil
  ·rw[ZJ c,List.pairwise_append];refine⟨vd e _ _ iI,vd e _ _ iI,λp hp q hq=>?_⟩;have:=FA iI hp;have:=FA iI hq;lia
def vK{e:Nat}(ws:List Int):(af e 0 ws).length+(af e 1 ws).length=ws.length:=by have:=Kj (e:=e) ws ws.length;rw[Nat.min_self,WP (by simp),jw,jw]at this;exact this
def oU(ps:List P2):Int:=(ps.map λp=>p.2).sum
theorem DU:∀(e:Nat)(least:Int)(ws:List Int),oU (cX 1 0 e least ws)=(ws.length:Int)
 | 0,least,ws=>by
  unfold cX;by_cases c:(ws.length:Int)*1<=0
  ·rw[ZL c];show(0:Int)=_;lia
  ·rw[ZJ c];show(ws.length:Int)+0=_;lia
 | e+1,least,ws=>by
  unfold cX;by_cases c:(ws.length:Int)*1<=0
  ·rw[ZL c];show(0:Int)=_;lia
  ·rw[ZJ c];have h1:=DU e least (af e 0 ws);have h2:=DU e (least+2^e) (af e 1 ws);have B:=vK (e:=e) ws;unfold oU at h1 h2 ⊢;rw[WF,sum_append,h1,h2];lia
def cQ(b:Option P2)(p:P2):Option P2:=match b with
 | none=>some p
 | some q=>if p.2 > q.2 then some p else some q
def xG(ps:List P2):Option P2:=ps.foldl cQ none
theorem Pa:∀(ps:List P2)(q:P2),∃ r,dw (ps.foldl cQ (some q)=some r) ((r=q\/r∈ps)) (q.2<=r.2) ((∀ p∈ps,p.2<=r.2)) ((((q::ps).filter λp=>decide (p.2=r.2)).head? = some r))
 | [],q=>⟨q,J,.inl J,WT _,(λp hp=>nomatch hp),by simp⟩
 | x::ps,q=>by
  rw[foldl_cons];by_cases c:x.2 > q.2
  ·have e:cQ (some q) x=some x:=by show(if _ then _ else _)=_;rw[ZL c]
   rw[e];obtain⟨r,h1,h2,M,I,B⟩:=Pa ps x;exists r,h1,.inr ?_,{},λp hp=>?_
   ·rcases h2 with rfl | h2
    ·exact ZQ
    ·exact ZU _ h2
   ·rcases ad hp with rfl | hp
    ·exact M
    ·exact I p hp
   ·rw[filter_cons,ZJ (by simp;lia)];exact B
  ·have e:cQ (some q) x=some q:=by show(if _ then _ else _)=_;rw[ZJ c]
   rw[e];obtain⟨r,h1,h2,M,I,B⟩:=Pa ps q;exists r,h1,?_,M,λp hp=>?_
   ·rcases h2 with rfl | h2
    ·exact .inl J
    ·exact .inr (ZU _ h2)
   ·rcases ad hp with rfl | hp
    ·lia
    ·exact I p hp
   ·rw[filter_cons]at B ⊢;by_cases d:q.2=r.2
    ·rw[ZL (ZG d)]at B ⊢;exact B
    ·rw[ZJ (by simpa using d)]at B ⊢;rw[filter_cons,ZJ (by simp;lia)];exact B
def O0{ps:List P2}(h:ps≠[]):∃ r,cP (xG ps=some r) (r∈ps) ((∀ p∈ps,p.2<=r.2)) (((ps.filter λp=>decide (p.2=r.2)).head? = some r)):= by
 cases ps with
 | nil=>exact absurd J h
 | cons q ps=>
  obtain⟨r,h1,h2,M,I,B⟩:=Pa ps q;refine⟨r,h1,?_,λp hp=>?_,B⟩
  ·rcases h2 with rfl | h2
   ·exact ZQ
   ·exact ZU _ h2
  ·rcases ad hp with rfl | hp
   ·exact M
   ·exact I p hp
theorem eS{part W:Int}(hp:1<=part)(I:0<=W)(ps:List P2)(h:∀ p∈ps,W<p.2*part):((ps.length:Int)*(W+1)<=oU ps*part)
:=by
 induction ps with
 | nil=>simp[oU]
 | cons p ps i=>
  have B:=i λq hq=>h q (ZU _ hq);have M:=h p ZQ;unfold oU at B ⊢;rw[YA,List.sum_cons,WB,Int.add_mul];have:((ps.length+1:Nat):Int)*(W+1)=(ps.length:Int)*(W+1)+(W+1):=by rw[Int.natCast_add,Int.add_mul];simp
  rw[this];lia
noncomputable def tQ(p:Int×Int)(t:Int):Int×Int:=(if t=1 then p.1+p.2/2 else p.1,p.2/2)
noncomputable def ip(low:Int)(L:Nat)(ws:List Int):Int×Int:=ws.foldl tQ (low,2^L)
def EN(e:Nat):(2:Int)^(e+1)/2=2^e:=by rw[Int.pow_succ];lia
def zK{α:Type}{l:List α}{i:Nat}{x:α}(h:l[i]? = some x):l.take (i+1)=l.take i++[x]:=by rw[WK,h];rfl
def ints_get{ws:List Int}{i:Nat}(h:(ws.map V.int)[i]? = some x):∃ t,ws[i]? = some t/\x = .int t:=by
 rw[WE]at h;cases e:ws[i]? with
 | none=>rw[e]at h;cases h
 | some t=>rw[e]at h;exact⟨t,J,(am h).symm⟩
def Qb{α β:Type}{f:β->α->β}{b:β}{l:List α}{i:Nat}{x:α}(h:l[i]? = some x):(l.take (i+1)).foldl f b=f ((l.take i).foldl f b) x:=by rw[zK h,foldl_append];rfl
inductive Q8(K:Fg)(vs:List V)(H:Hp)(Q:VK)(E:XK):Prop
 |mk(b wy:Addr)(low:Int)(L:Nat)(ws:List Int)(_:vs=[.ref b,.ref wy])(_:au K H b [.int low,.int (L:Int)])(_:L<=40)(_:au K H wy (ws.map V.int))(_:∀ p,H p=none->Q (.ref p) (upd H p (.tup [.int (ip low L ws).1,.int ((ip low L ws).1+(ip low L ws).2-1)])))
def mC:z.C P w 2 "span_of" ["bounds", "way"] (Q8 K):=by
 have sc:=Oo;specialize z.nI;obtain⟨b,B,low,L,ws,rfl,N,hL,hw,q⟩:=h;refine⟨_,(aj (aF 2 sc.nd (aG bh kb ah))
 (aj (aF 3 sc.nd (aC (tU z) hr (ar (aG bh kb ah))))
 (aj (pO bn J (mE kv) (cq 4 sc.nd)
 (aj (aF 3 sc.nd (ae vS bi ah))
 (bF (aW (aN av (pr 4) ah)
 (bF (aF 2 sc.nd (ae dk bv bi)))))))
 (az (vj (aY bv (ae lW (ae dk bv bi) ah))))))),?_⟩
 symm;exists _,_,N,J,_,_,N,J,L,J,hL;refine⟨B,J,⟨_,hw⟩,kI (K:=K) (a:=B) (xs:=ws.map V.int) (λi σ H2=>∃ v:Option V,σ=[some (.ref b),some (.ref B),some (.int ((ws.take i).foldl tQ (low,2^L)).1),some (.int ((ws.take i).foldl tQ (low,2^L)).2),v]/\H2=H)
  ⟨none,J,J⟩ (λi σ H2 _ ⟨_,_,e⟩=>by rw[e];exact hw) ?_ ?_⟩
 ·rintro i x σ H2 hi ⟨v,rfl,rfl⟩;obtain⟨t,M,rfl⟩:=ints_get hi;exists _,_,J,J,⟨∅,∅⟩
  exists J;refine aT (λc=>?_) (λc=>?_)
  ·have I:t=1:=V.int.inj (ZI c);refine⟨some (.int t),?_,J⟩;rw[Qb M];unfold tQ;rw[ZL I];rfl
  ·have I:¬ t=1:=λz=>c (by rw[z];exact ZG J);refine⟨some (.int t),?_,J⟩;rw[Qb M];unfold tQ;rw[ZJ I];rfl
 ·rintro σ H2 ⟨v,rfl,rfl⟩;refine⟨aZ J,λp hp=>?_⟩;have e:ws.take (ws.map V.int).length=ws:=by rw[ZK];exact WR
  have q':=q p hp;unfold ip at q';rw[<- e]at q';exact q'
def Qa(s:ag H H1)(B:H D=none)(o:HO):ag H (upd H1 D o):=λb u q=>by rw[bC (cO q B)];exact s b u q
def cf{α:Type}(R:Hp->V->α->Prop)(H:Hp)(xs:List V)(ps:List α):Prop:=xs.length=ps.length /\ ∀(j:Nat)(x:V)(p:α),xs[j]? = some x->ps[j]? = some p->R H x p
section
variable {α:Type}{R:Hp->V->α->Prop}{H H':Hp}{xs ys:List V}{ps qs:List α}
def cf.imp(h:cf R H xs ps)(f:∀ x p,R H x p->R H' x p):cf R H' xs ps:=⟨h.1,λj x p h1 h2=>f x p (h.2 j x p h1 h2)⟩
def cf.nil:cf R H [] []:=⟨J,λj x p h1 _=>by simp at h1⟩
def cf.get(h:cf R H xs ps){j:Nat}(B:xs[j]? = some x):∃ p,ps[j]? = some p/\R H x p:=by
 have I:j<ps.length:=by rw[<- h.1];exact(ac B).1
 exact⟨ps[j],ZP I,h.2 j x ps[j] B (ZP I)⟩
def cf.app(h:cf R H xs ps)(k:cf R H ys qs):cf R H (xs++ys) (ps++qs):=by
 refine⟨by rw[ZM,ZM,h.1,k.1],λj y p h1 h2=>?_⟩;by_cases c:j<xs.length
 ·rw[WO c]at h1;rw[WO (by rw[<- h.1];exact c)]at h2;exact h.2 j y p h1 h2
 ·rw[WM {}]at h1;rw[WM (by rw[<- h.1];lia),<- h.1]at h2;exact k.2 _ y p h1 h2
end
def lP(H:Hp)(v:V)(p:P2):Prop:=∃ a,v = .ref a/\H a=some (.tup [.int p.1,.int p.2])
def lP.tk(k:aw H H')(h:lP H v p):lP H' v p:=by obtain⟨a,e,h1⟩:=h;exact⟨a,e,(k _ _).1 h1⟩
def IM(h:cf lP H xs ps)(k:aw H H'):cf lP H' xs ps:=h.imp λ_ _ z=>z.tk k
def MA(h:cf lP H xs ps)(s:ag H H'):cf lP H' xs ps:=IM h (.same s)
def Ci{part floor:Int}(hp:1<=part)(I:0<=floor){e:Nat}{least:Int}{ws:List Int}(B:fE e ws):(cX part floor e least ws).length<=ws.length:=by rw[MB hp I];refine ZT (length_filter_le _ _) ?_;have h:=eS (part:=1) (W:=0) ∅ ∅ (cX 1 0 e least ws) (λp hp=>by have:=(FA B hp).2.2.1;lia);rw[DU]at h;lia
inductive Fz(K:Fg)(vs:List V)(H:Hp)(Q:VK)(E:XK):Prop
 |mk(ga:Addr)(xs:List V)(L:Nat)(gs:List G3)(_:vs=[.ref ga])(_:ao K H ga xs)(_:aE H L xs gs)(_:gs.length<=1000)(_:∀(H':Hp)(D:Addr)(ys:List V),ag H H'->H' D=some (.lst ys)->H D=none->aE H' L ys (bJ gs)->Q (.ref D) H')
def n6:z.C P w 1 "filled" ["gathering"] (Fz K):=by
 have sc:=MN;specialize z.sk;obtain⟨ga,xs,L,gs,rfl,M,hg,hl,q⟩:=h;exists _,(az (fV (cl:=[]) (cn:=[]) (N:=[]) (fr:=[]) (bB:=aI QO) J (cw kb) (λC s₂ H₂ fp=>kb) (λC s₂ H₂ fp=>(aN bS (aG (kW (K:=K) J) kb ah) (aG (kW (K:=K) J) kb ah))) (by ac_rfl) trivial J J J eT J))
 symm;have B:=hg.1;refine⟨ga,J,⟨_,M⟩,λD O=>?_⟩;refine yb (K:=K) (xs:=xs) (sz {}) (λi ys H2=>H2=upd H D (.lst ys)/\ys.length<=i/\aE H L ys (bJ (gs.take i))) ⟨J,ZF _,aE.nil _ _⟩ (λi ys H2 ⟨e,_⟩=>by rw[e];exact(aM O _).seq M)
  (λi ys H2 ⟨e,Z,_⟩=>⟨by rw[e];exact ax,Z⟩) ?_ ?_
 ·rintro i x ys H2 hx ⟨rfl,Z,S⟩;have hi:i<gs.length:=by rw[<- B];exact(ac hx).1
  have W:gs[i]? = some gs[i]:=ZP hi;generalize gs[i]=g at W;have U:=hg.2 i x g hx W;obtain⟨t,u,rfl,ht,hu⟩:=U;have I:au K (upd H D (.lst ys)) t [u,.int (g.2.1:Int),.int (g.2.2:Int)]:=au.of (aM O _ _ _ ht);exists _,_,I,J,_,_,I,J;have et:bJ (gs.take (i+1))=bJ (gs.take i)++bJ [g]:=by unfold bJ;rw[WK,W,YW];rfl
  refine aT (λc=>?_) (λc=>?_)
  ·have c':=ZI c;have Y:bJ [g]=[g]:=by unfold bJ;rw[filter_cons,ZL (ZG {})];rfl
   exists ax,by rw[kX],by rw[ZM];simp;lia
   rw[et,Y];exact S.snoc ⟨t,u,J,ht,hu⟩
  ·have c':¬(g.2.1:Int)<g.2.2:=λz=>c (ZG z);have Y:bJ [g]=[]:=by unfold bJ;rw[filter_cons,ZJ (by simp;lia)];rfl
   exists _,{},J,{},J,{}
   rw[et,Y,append_nil];exact S
 ·rintro ys H2 ⟨rfl,Z,S⟩;rw[B,WR]at S;exact q _ D ys (aM O _) ax O (S.same (aM O _))
def aX:Nat->Int->List Int
 | 0,_=>[]
 | e+1,o=>if o<2^e then 0::aX e o else 1::aX e (o-2^e)
def Tj{e:Nat}{o:Int}(h:o<2^e):aX (e+1) o=0::aX e o:=by
 rw[aX,ZL h]
def fQ{e:Nat}{o:Int}(h:¬ o<2^e):aX (e+1) o=1::aX e (o-2^e):=by
 rw[aX,ZJ h]
def nq(e:Nat):(2:Int)^(e+1)=2^e+2^e:=by rw[Int.pow_succ];lia
theorem vJ:∀(e:Nat)(o:Int),(aX e o).length=e
 | 0,_=>rfl
 | e+1,o=>by
  by_cases h:o<2^e
  ·rw[Tj h,WB,vJ e]
  ·rw[fQ h,WB,vJ e]
theorem A0:∀(e:Nat)(o:Int),∀ m∈aX e o,m=0\/m=1
 | 0,_,m,hm=>by cases hm
 | e+1,o,m,hm=>by
  by_cases h:o<2^e
  ·rw[Tj h]at hm;rcases ad hm with z | z
   ·exact .inl z
   ·exact A0 e _ m z
  ·rw[fQ h]at hm;rcases ad hm with z | z
   ·exact .inr z
   ·exact A0 e _ m z
def oy{low n:Int}{L:Nat}:Sb low L n = "within" ↔ (low<=n/\n<=low+2^L-1):=by
 unfold Sb;by_cases h:n<low
 ·rw[ZL h];exact⟨λz=>absurd z ∅,λz=>{}⟩
 ·rw[ZJ h];by_cases h2:low+2^L-1<n
  ·rw[ZL h2];exact⟨λz=>absurd z ∅,λz=>{}⟩
  ·rw[ZJ h2];exact⟨λ_=>{},λ_=>J⟩
noncomputable def tW:Nat->List Int->List Int->Int
 | _,[],_=>0
 | 0,_::_,_=>0
 | e+1,w::ws,us=>(if w=1 then((af e 0 us).length:Int)else 0)+tW e ws (af e w us)
theorem zJ(e:Nat)(o:Int)(us:List Int)(U:0<=o)(h1:o<2^e)(I:fE e us):tW e (aX e o) us=(us.countP λx=>decide (x<o):Nat)
:=by
 induction e generalizing o us with
 | zero=>
  have:us.countP (λx=>decide (x<o))=0:=List.countP_eq_zero.mpr λx S=>by
   have:=I x S;simp at *;lia
  rw[this];rfl
 | succ e i=>
  have p:=nq e;have hp:=b7 e;by_cases c:o<2^e
  ·rw[Tj c,tW,ZJ ∅,i o _ U c iI,zU,Int.zero_add];congr 1;refine countP_congr λx S=>?_;have B:=I x S;rw[WZ,beq_iff_eq,WV,WV];constructor
   ·rintro ⟨a,b⟩;have:=jx B.1 B.2 a;lia
   ·intro a;have hm:ck e x=0:=by unfold ck;rw[ZL {}]
    have:=jx B.1 B.2 hm;exact⟨hm,{}⟩
  ·rw[fQ c,tW,ZL J,i (o-2^e) _ {} {} iI,zU];have W:(af e 0 us).length=us.countP λx=>ck e x==0:=by unfold af;rw[ZK,countP_eq_length_filter]
   rw[W];have N:∀ us:List Int,(∀ x∈us,0<=x/\x<(2:Int)^(e+1))->(us.countP λx=>ck e x==0)+(us.countP λx=>(ck e x==1)&&decide (x%2^e<o-2^e))=us.countP λx=>decide (x<o):=by
    intro us
    induction us with
    | nil=>intro _;rfl
    | cons x us Y=>
     intro h;have O:=Y λy Z=>h y (ZU _ Z);have B:=h x ZQ;rw[countP_cons,countP_cons,countP_cons,<- O];rcases wM e x with m | m
     ·have WJ:x<2^e:=by
       unfold ck at m;by_cases z:x<2^e
       ·exact z
       ·rw[ZJ z]at m;lia
      rw[m];simp[show x<o by lia];lia
     ·have:=jx B.1 B.2 m;have hxg:¬ x<2^e:=by unfold ck at m;intro z;rw[ZL z]at m;lia
      rw[m];by_cases z:x<o
      ·have M:x%2^e<o-2^e:={}
       simp[z,M];lia
      ·have M:¬ x%2^e<o-2^e:={}
       simp[z,M]
   have:=N us I;lia
inductive P_(K:Fg)(vs:List V)(H:Hp)(Q:VK)(E:XK):Prop
 |mk(b:Addr)(low num:Int)(L:Nat)(_:vs=[.ref b,.int num])(_:au K H b [.int low,.int (L:Int)])(_:L<=40)(_:(low<=num/\num<=low+2^L-1))(_:∀ t H',ag H H'->c7 H' t ((aX L (num-low)).map V.int)->Q (.ref t) H')
inductive Td(K:Fg)(vs:List V)(H:Hp)(Q:VK)(E:XK):Prop
 |mk(ga wy:Addr)(xs:List V)(L:Nat)(o:Int)(gs:List G3)(_:vs=[.ref ga,.ref wy])(_:ao K H ga xs)(_:aE H L xs gs)(_:(∀ g∈gs,aK L g))(_:gs.length<=100)(_:au K H wy ((aX L o).map V.int))(_:0<=o)(_:o<2^L)(_:∀ H',ag H H'->Q (.int ((Wh gs).countP λx=>decide (x<o):Nat)) H')
inductive EM(K:Fg)(vs:List V)(H:Hp)(Q:VK)(E:XK):Prop
 |mk(b ga:Addr)(xs:List V)(low num:Int)(L:Nat)(gs:List G3)(_:vs=[.ref b,.ref ga,.int num])(_:au K H b [.int low,.int (L:Int)])(_:L<=40)(_:ao K H ga xs)(_:aE H L xs gs)(_:(∀ g∈gs,aK L g))(_:gs.length<=100)(_:∀ H',ag H H'->Q (.int ((Wh gs).countP λx=>decide (x<num-low):Nat)) H')
def zI:z.C P w 4 "way_of" jE (P_ K):=by
 have sc:=MO;specialize z.sf;obtain⟨b,low,num,L,rfl,N,hL,c',q⟩:=h;refine⟨_,(aj (aW (aN bX (aC (AB z) hr (aY kb kv)) aR)
 (bF dF))
 (aj (aF 2 sc.nd (aG bh kb ah))
 (aj (aF 3 sc.nd (aC (tU z) hr (ar (aG bh kb ah))))
 (aj (aF 4 sc.nd (zX fU))
 (aj (pO bn J (jo J z.cz (ar (aG bh kb ah))) (cq 5 sc.nd)
 (aj (aF 3 sc.nd (ae vS bi ah))
 (bF (qo (aN bS kv (ae dk bv bi))
 (bF (d6 (bG YF YM YN ke (pr 4) (ar ah))))
 (aj (d6 (bG YF YM YN ke (pr 4) (ar ah)))
 (bF (aF 2 sc.nd (ae dk bv bi))))))))
 (az (ei kQ () z.eW vN (ar (pr 4))))))))),?_⟩
 symm;exists b,low,num,L,J,N,hL,J;refine aT (λc=>?_) (λc=>?_)
 ·rw[oy.mpr c',ZG J]at c;cases c
 ·skip
  refine⟨_,_,N,J,_,_,N,J,L,J,hL,aZ J,λI M=>?_⟩;have W:∀ o,au K (upd H I o) b [.int low,.int (L:Int)]:=λo=>(aM M o).cJ N;refine⟨_,_,W _,J,(L:Int),J,{},{},Ed (n:=L) (λi σ H2=>bR λ(B:Int) (ws:List Int) (v:Option V)=>gB (σ=[some (.ref b),some (.int num),some (.int B),some (.int (2^(L-i))),some (.ref I),v]) (H2=upd H I (.lst (ws.map V.int))) (ws.length=i) (0<=num-B) (num-B<2^(L-i)) (aX L (num-low)=ws++aX (L-i) (num-B))) ⟨low,[],none,J,J,J,{},by show num-low<2^L;lia,J⟩ ?_ ?_⟩
  ·rintro i σ H2 hi ⟨B,ws,v,rfl,rfl,S,Y,h1,hw⟩;obtain⟨e,he⟩:∃ e,L-i=e+1:=⟨L-i-1,{}⟩
   have U:L-(i+1)=e:={}
   have p:=nq e;have Z:=EN e;rw[he]at h1 hw ⊢;exists _,_,J,J,⟨∅,∅⟩
   rw[Z,U];refine aT (λc=>?_) (λc=>?_)
   ·have c2:num<B+2^e:=ZI c;rw[Tj (show num-B<2^e by lia)]at hw;exists .inl ⟨J,_,ao.of ax⟩,I,_,_,J,J,ax,?_
    ·rw[ZK];exact Nat.lt_of_le_of_lt (show ws.length<=1000 by lia) (fM (ZF _))
    ·exact⟨B,ws++[0],some (.int (0+(i:Int))),J,by rw[kX,WF] <;> rfl,by rw[ZM,S] <;> rfl,Y,{},by rw[hw,YS] <;> rfl⟩
   ·have c2:¬ num<B+2^e:=λz=>c (ZG z);rw[fQ (show ¬ num-B<2^e by lia)]at hw;exists .inl ⟨J,_,ao.of ax⟩,I,_,_,J,J,ax,?_
    ·rw[ZK];exact Nat.lt_of_le_of_lt (show ws.length<=1000 by lia) (fM (ZF _))
    ·exists B+2^e,ws++[1],some (.int (0+(i:Int))),J,by rw[kX,WF] <;> rfl,by rw[ZM,S] <;> rfl,{},{}
     have e2:num-(B+2^e)=num-B-2^e:={}
     rw[hw,e2,YS];rfl
  ·rintro σ H2 ⟨B,ws,v,rfl,rfl,S,Y,h1,hw⟩;rw[Nat.sub_self]at hw;have O:aX L (num-low)=ws:=by rw[hw];exact append_nil ws
   refine⟨I,_,J,ao.of ax,λt H' s' ht=>?_⟩;exact q t _ ((aM M _).trans s') (by rw[O];exact ht)
def Tc:z.C P w 4 "many_lesser" jD (Td K):=by
 have sc:=RK;specialize z.gZ;obtain⟨ga,wy,xs,L,o,gs,rfl,eG,hg,jK,hl,JC,h0,h1,q⟩:=h;refine⟨_,(aj (aF 2 sc.nd ah)
 (aj (aF 3 sc.nd kb)
 (aj (pO bn J (mE kv) (cq 4 sc.nd)
 (aj (aW (aN av (pr 4) ah)
 (bF (aF 2 sc.nd (ae dk bv (aC (dE z) hr (ar (aC (Bd z) hr (aY bi (tT (ar ah))))))))))
 (bF (aF 3 sc.nd (aC (Bd z) hr (aY bi (tT (ar (pr 4)))))))))
 (az bv)))),?_⟩
 symm;rw[<- zJ L o (Wh gs) h0 h1 (ib jK)]at q;have jI:=vJ L o;have Uh:=A0 L o;generalize aX L o=ws at *;refine⟨wy,J,⟨_,JC⟩,kI (K:=K) (a:=wy) (xs:=ws.map V.int) (λi σ H2=>lT λ(m:Int) (pa:Addr) (zs:List V) (I:List G3) (v4:Option V)=>xR (σ=[some (.ref ga),some (.ref wy),some (.int m),some (.ref pa),v4]) (ag H H2) (ao K H2 pa zs) (aE H2 (L-i) zs I) ((∀ g∈I,aK (L-i) g)) (I.length<=100) (i<=ws.length) (tW L ws (Wh gs)=m+tW (L-i) (ws.drop i) (Wh I)))
  ⟨0,ga,xs,gs,none,J,ag.refl H,eG,hg,jK,hl,ZX _,by rw[drop_zero,Int.zero_add];rfl⟩ (by rintro _ _ _ _ ⟨_,_,_,_,_,_,s2,_⟩;exact s2.cJ JC) ?_ ?_⟩
 ·rintro i x σ H2 hi ⟨m,pa,zs,I,v4,rfl,s2,W,M,B,ua,U6,hm⟩;obtain⟨wv,BY,rfl⟩:∃ t,ws[i]? = some t/\x = .int t:=by
   rw[WE]at hi;cases e:ws[i]? with
   | none=>rw[e]at hi;cases hi
   | some m=>rw[e]at hi;exact⟨m,J,(am hi).symm⟩
  have U5:i<ws.length:=(ac BY).1;have Uk:=Uh wv (ZV BY);obtain⟨e,he⟩:∃ e,L-i=e+1:=⟨L-i-1,{}⟩
  have O:L-(i+1)=e:={}
  rw[he]at M B hm;rw[FE BY,tW]at hm;have el:∀ w:Int,I.map (bL (e+1) [w])=I.map (bT e w):=λw=>map_congr_left λg _=>by rw[lV,Fn]
  have N:∀ w,∀ g∈I.map (bT e w),aK e g:=λw g hg=>by
   obtain⟨g',M,rfl⟩:=eE hg;exact d0 (B g' M)
  have step:∀(H3:Hp),ag H2 H3 -> ∀(m':Int),tW L ws (Wh gs)=m'+tW e (ws.drop (i+1)) (af e wv (Wh I))->True:=λ_ _ _ _=>trivial;exists J;rcases Uk with rfl | rfl
  ·refine aT (λc=>absurd (V.int.inj (ZI c)) ∅) (λ_=>?_);rw[ZJ ∅,Int.zero_add]at hm;refine⟨aZ J,λw1 rq H3 Y S=>?_⟩;refine⟨pa,w1,zs,e+1,[0],I,J,Y.seq W,M.same Y,B,{},au.of S,by simp,(λx hx=>by rw[eD hx];exact .inl J),λH4 D4 z4 s4 kr xj U=>?_⟩;rw[el]at U;exact⟨m,D4,z4,_,_,J,s2.trans (Y.trans s4),ao.of kr,by rw[O];exact U,by rw[O];exact N 0,by rw[ZK];exact ua,{},by rw[O,bQ B];exact hm⟩
  ·refine aT (λ_=>?_) (λc=>absurd (ZG J) c);rw[ZL J]at hm;refine⟨aZ J,λw0 n_ H3 Y k_=>?_⟩;refine⟨pa,w0,zs,e+1,[0],I,J,Y.seq W,M.same Y,B,{},au.of k_,by simp,(λx hx=>by rw[eD hx];exact .inl J),λH4 D4 z4 s4 kr xj U=>?_⟩;rw[el]at U;refine⟨D4,z4,e,_,J,ao.of kr,U,by rw[ZK];lia,λH5 s5=>?_⟩;have zh:=(Y.trans s4).trans s5;refine⟨aZ J,λw1 rq H6 s6 S=>?_⟩;have Z:=zh.trans s6;refine⟨pa,w1,zs,e+1,[1],I,J,Z.seq W,M.same Z,B,{},au.of S,by simp,(λx hx=>by rw[eD hx];exact .inr J),λH7 D7 z7 s7 lh J9 me=>?_⟩;rw[el]at me;exists _,D7,z7,_,_,J,s2.trans (Z.trans s7),ao.of lh,by rw[O];exact me,by rw[O];exact N 1,by rw[ZK];exact ua,{}
   rw[O,bQ B,IL (N 0),bQ B,hm];lia
 ·rintro σ H2 ⟨m,pa,zs,I,v4,rfl,s2,W,M,B,ua,U6,hm⟩;rw[ZK,drop_length]at hm;have e0:tW (L-ws.length) [] (Wh I)=0:=by cases L-ws.length <;> rfl
  rw[e0,Int.add_zero]at hm;rw[hm]at q;exact q H2 s2
def qM:z.C P w 5 "below" lX (EM K):=by
 have sc:=pq;specialize z.xy;obtain⟨b,Y,xs,low,num,L,gs,rfl,W,hL,N,U,B,hl,q⟩:=h;refine⟨_,(aj (aF 3 sc.nd (aC (AB z) hr (aY kb bv)))
 (aj (aW (aN av bi aR)
 (az ah))
 (aj (aW (aN av bi aR)
 (az (aC (dE z) hr (ar kv))))
 (az (aC (Tc z) hr (aY kv (aC (zI z) hr (aY kb bv)))))))),?_⟩
 have M:=ib B;have hp:=b7 L;exists b,low,num,L,J,W,hL;unfold Sb;by_cases c1:num<low
 ·rw[ZL c1];refine⟨J,aT (λ_=>?_) (λc=>absurd (ZG J) c)⟩;have S:(Wh gs).countP (λx=>decide (x<num-low))=0:=List.countP_eq_zero.mpr λx O=>by
   have:=M x O;simp;lia
  rw[S]at q;exact q H (ag.refl H)
 rw[ZJ c1];by_cases Z:low+2^L-1<num
 ·rw[ZL Z];refine⟨J,aT (λc=>absurd (ZI c) ∅) (λ_=>?_)⟩;refine⟨J,aT (λ_=>?_) (λc=>absurd (ZG J) c)⟩;have S:(Wh gs).countP (λx=>decide (x<num-low))=(Wh gs).length:=List.countP_eq_length.mpr λx O=>by
   have:=M x O;exact ZG {}
  rw[S]at q;refine⟨Y,xs,L,gs,J,N,U,{},λH1 I=>?_⟩;rw[IL B];exact q H1 I
 rw[ZJ Z];refine⟨J,aT (λc=>absurd (ZI c) ∅) (λ_=>?_)⟩;refine⟨J,aT (λc=>absurd (ZI c) ∅) (λ_=>?_)⟩;refine⟨b,low,num,L,J,W,hL,⟨{},{}⟩,λt H1 I ht=>?_⟩;exact⟨Y,t,xs,L,num-low,gs,J,I.seq N,U.same I,B,hl,ht.sq,{},{},λH2 s2=>q H2 (I.trans s2)⟩
theorem vn(e:Nat)(l o:Int)(B:0<=o)(h1:o<2^e):(aX e o).foldl tQ (l,2^e)=(l+o,1)
:=by
 induction e generalizing l o with
 | zero=>
  have I:o=0:=by have z:(2:Int)^0=1:=J;lia
  rw[I,Int.add_zero];rfl
 | succ e i=>
  have p:=nq e;have q:=EN e;by_cases h:o<2^e
  ·rw[Tj h,foldl_cons];have z:tQ (l,2^(e+1)) 0=(l,2^e):=by unfold tQ;rw[ZJ ∅];simp only[q]
   rw[z];exact i l o B h
  ·rw[fQ h,foldl_cons];have z:tQ (l,2^(e+1)) 1=(l+2^e,2^e):=by unfold tQ;rw[ZL J];simp only[q]
   rw[z,i (l+2^e) (o-2^e) {} {}];congr 1;lia
noncomputable def cN:Nat->List Int->Nat->Int
 | 0,_,_=>0
 | e+1,us,k=>if k<(af e 0 us).length then cN e (af e 0 us) k else 2^e+cN e (af e 1 us) (k-(af e 0 us).length)
def Mz{e:Nat}{k:Nat}(h:k<(af e 0 us).length):cN (e+1) us k=cN e (af e 0 us) k:=by rw[cN,ZL h]
def Mx{e:Nat}{k:Nat}(h:¬ k<(af e 0 us).length):cN (e+1) us k=2^e+cN e (af e 1 us) (k-(af e 0 us).length):=by rw[cN,ZJ h]
theorem kT:∀(e:Nat)(us:List Int)(k:Nat),0<=cN e us k/\cN e us k<2^e
 | 0,us,k=>⟨WT _,(by decide:(0:Int)<2^0)⟩
 | e+1,us,k=>by
  have hp:=nq e;have h2:=b7 e;by_cases c:k<(af e 0 us).length
  ·rw[Mz c];have:=kT e (af e 0 us) k;lia
  ·rw[Mx c];have:=kT e (af e 1 us) (k-(af e 0 us).length);lia
def uf{e:Nat}{k:Nat}(h:k<(af e 0 us).length):aX (e+1) (cN (e+1) us k)=0::aX e (cN e (af e 0 us) k):=by rw[Mz h];exact Tj (kT e _ k).2
def ug{e:Nat}{k:Nat}(h:¬ k<(af e 0 us).length):aX (e+1) (cN (e+1) us k)=1::aX e (cN e (af e 1 us) (k-(af e 0 us).length)):=by
 rw[Mx h,fQ (by have:=(kT e (af e 1 us) (k-(af e 0 us).length)).1;lia)];have:2^e+cN e (af e 1 us) (k-(af e 0 us).length)-2^e=cN e (af e 1 us) (k-(af e 0 us).length):={}
 rw[this]
theorem mR{e:Nat}{us:List Int}(B:fE (e+1) us)(o:Int):(o<=2^e->us.countP (λx=>decide (x<o))=(af e 0 us).countP (λx=>decide (x<o))) /\
  (2^e<=o->us.countP (λx=>decide (x<o))=(af e 0 us).length+(af e 1 us).countP (λx=>decide (x<o-2^e))):=by
 have N:(af e 0 us).length=us.countP λx=>ck e x==0:=by unfold af;rw[ZK,countP_eq_length_filter]
 rw[N,zU,zU];clear N
 induction us with
 | nil=>exact⟨λ_=>J,λ_=>J⟩
 | cons x us U=>
  obtain⟨S,O⟩:=U λy W=>B y (ZU _ W);have I:=B x ZQ;rw[countP_cons,countP_cons,countP_cons,countP_cons];rcases wM e x with m | m
  ·have hm:=jx I.1 I.2 m;have Y:x<2^e:=by
    unfold ck at m;by_cases z:x<2^e
    ·exact z
    ·rw[ZJ z]at m;lia
   have e1:x%2^e=x:={}
   rw[m,e1];refine⟨λh=>?_,λh=>?_⟩
   ·rw[S h];simp
   ·rw[O h];have:x<o:={}
    simp[this];lia
  ·have hm:=jx I.1 I.2 m;have Z:¬ x<2^e:=by unfold ck at m;intro z;rw[ZL z]at m;lia
   rw[m];refine⟨λh=>?_,λh=>?_⟩
   ·rw[S h];have:¬ x<o:={}
    simp[this]
   ·rw[O h];by_cases z:x<o
    ·have M:x%2^e<o-2^e:={}
     simp[z,M];lia
    ·have M:¬ x%2^e<o-2^e:={}
     simp[z,M]
abbrev eO(us:List Int)(o:Int):Nat:=us.countP λx=>decide (x<o)
theorem R_(e:Nat)(us:List Int)(k:Nat)(B:fE e us)(U:k<us.length):eO us (cN e us k)<=k/\k<eO us (cN e us k+1)
:=by
 induction e generalizing us k with
 | zero=>
  have Z:us.countP (λx=>decide (x<(0:Int)))=0:=List.countP_eq_zero.mpr λx I=>by have:=B x I;simp;lia
  have h1:us.countP (λx=>decide (x<(0:Int)+1))=us.length:=List.countP_eq_length.mpr λx I=>by have:=B x I;simp at this;exact ZG {}
  show us.countP (λx=>decide (x<(0:Int)))<=k/\k<us.countP (λx=>decide (x<(0:Int)+1));lia
 | succ e i=>
  have hs:=vK (e:=e) us;by_cases c:k<(af e 0 us).length
  ·rw[Mz c];have r:=kT e (af e 0 us) k;obtain⟨S,O⟩:=i (af e 0 us) k iI c;have N:=(mR B (cN e (af e 0 us) k)).1 {};have M:=(mR B (cN e (af e 0 us) k+1)).1 {};unfold eO at *;rw[N,M];exact⟨S,O⟩
  ·rw[Mx c];have r:=kT e (af e 1 us) (k-(af e 0 us).length);obtain⟨S,O⟩:=i (af e 1 us) (k-(af e 0 us).length) iI {};have N:=(mR B (2^e+cN e (af e 1 us) (k-(af e 0 us).length))).2 {};have M:=(mR B (2^e+cN e (af e 1 us) (k-(af e 0 us).length)+1)).2 {};unfold eO at *;rw[N,M];have Y:2^e+cN e (af e 1 us) (k-(af e 0 us).length)-2^e=cN e (af e 1 us) (k-(af e 0 us).length):={}
   have W:2^e+cN e (af e 1 us) (k-(af e 0 us).length)+1-2^e=cN e (af e 1 us) (k-(af e 0 us).length)+1:={}
   rw[Y,W];lia
def vm{a b:Int}(h:a<=b):eO us a<=eO us b:=countP_mono_left λx _ B=>ZG (by have:=ZI B;lia)
def QD(us:List Int)(o:Int):eO us (o+1)=eO us o+us.count o:=by
 unfold eO;rw[count_eq_countP]
 induction us with
 | nil=>rfl
 | cons x us N=>
  rw[countP_cons,countP_cons,countP_cons,N];by_cases M:x<o
  ·have B:x<o+1:={}
   have I:¬ x=o:={}
   simp only[ZG M,ZG B,if_true,show(x==o)=false from beq_eq_false_iff_ne.mpr I];simp;lia
  ·by_cases I:x=o
   ·have B:x<o+1:={}
    simp only[ZS M,ZG B,show(x==o)=true from beq_iff_eq.mpr I];simp;lia
   ·have B:¬ x<o+1:={}
    simp[M,B,I]
theorem vk(L:Nat)(o:Int)(gs:List G3)(S:0<=o)(h1:o<2^L)(I:∀ g∈gs,aK L g):iz (gs.map (bL L (aX L o)))=((Wh gs).count o:Nat)
:=by
 induction L generalizing o gs with
 | zero=>
  have Z:gs.map (bL 0 (aX 0 o))=gs:=by have:∀ g∈gs,bL 0 (aX 0 o) g=id g:=λg _=>Fn 0 g;rw[map_congr_left this,map_id]
  rw[Z,IL I];have W:o=0:=by have:(2:Int)^0=1:=J;lia
  have M:=ib I;rw[W,List.count_eq_length.mpr λb Y=>by have:=M b Y;simp at this;lia]
 | succ e i=>
  have hp:=nq e;have B:∀ w,∀ g∈gs.map (bT e w),aK e g:=λw g O=>by
   obtain⟨g',N,rfl⟩:=eE O;exact d0 (I g' N)
  have U:∀(w:Int)(ws:List Int),gs.map (bL (e+1) (w::ws))=(gs.map (bT e w)).map (bL e ws):=λw ws=>by
   rw[map_map];exact map_congr_left λg _=>lV e w ws g
  by_cases c:o<2^e
  ·rw[Tj c,U,i o _ S c (B 0),bQ I,m8 (ib I) (.inl J) S c];have:o+0*2^e=o:={}
   rw[this]
  ·rw[fQ c,U,i (o-2^e) _ {} {} (B 1),bQ I,m8 (ib I) (.inr J) {} {}];have:o-2^e+1*2^e=o:={}
   rw[this]
noncomputable def Cv(L:Nat)(low:Int)(us:List Int):List P2:=cX 1 0 L low us
def NU{I:List P2}(hs:I.Pairwise λp q=>p.1<q.1){p:P2}(hp:p∈I)(S:f p=true)(N:∀ q∈I,f q=true->p.1<=q.1):I.find? f=some p:=by
 induction I with
 | nil=>cases hp
 | cons x I O=>
  rw[find?_cons];cases M:f x with
  | true=>
   rcases ad hp with rfl | B
   ·rfl
   ·have h1:=(List.pairwise_cons.mp hs).1 p B;have h2:=N x ZQ M;lia
  | false=>
   rcases ad hp with rfl | B
   ·rw[S]at M;cases M
   ·exact O (List.pairwise_cons.mp hs).2 B λq hq=>N q (ZU _ hq)
def qY(us:List Int)(o:Int):eO us o<=us.length:=countP_le_length
def uh{L:Nat}{low num:Int}{us:List Int}(B:fE L us) :
  (eO us (num+1-low)=us.length->(Cv L low us).find? (λq=>decide (num<q.1))=none) /\
  (eO us (num+1-low)≠us.length->(Cv L low us).find? (λq=>decide (num<q.1))=some ((low+cN L us (eO us (num+1-low)),((us.count (cN L us (eO us (num+1-low))):Nat):Int)):P2)):=by
 have O:=qY us (num+1-low);constructor
 ·intro h;rw[List.find?_eq_none];intro q hq M;have r:=FA B hq;have hm:q.1-low∈us:=List.count_pos_iff.mp {};have:=List.countP_eq_length.mp h _ hm;have:=ZI this;have:=ZI M;lia
 ·intro h;have U:eO us (num+1-low)<us.length:={}
  obtain⟨c1,Y⟩:=R_ L us _ B U;have r:=kT L us (eO us (num+1-low));generalize S:cN L us (eO us (num+1-low))=o at *;have I:num+1-low<=o:=by apply Classical.byContradiction;intro c;have:=vm (us:=us) (show o+1<=num+1-low by lia);lia
  rw[QD]at Y;have N:0<us.count o:=by have:=vm (us:=us) I;lia
  refine NU (f:=λq=>decide (num<q.1)) (vd L low us B) ((FC L low us B _ _).mpr ⟨by rw[show low+o-low=o by lia],{}⟩) (ZG (by show num<low+o;lia)) (λq hq M=>?_);show low+o<=q.1;have Z:=FA B hq;have W:=ZI M;apply Classical.byContradiction;intro c;have h1:=vm (us:=us) (show num+1-low<=q.1-low by lia);have h2:=vm (us:=us) (show q.1-low+1<=o by lia);rw[QD]at h2;have:0<us.count (q.1-low):={}
  lia
abbrev HR:Nat:=1
abbrev PZ:Nat:=40
inductive AZ(u0:Fg)(e:Nat)(vs:List V)(H:Hp)(Q:VK)(E:XK):Prop
 |mk(v:V)(wy:Addr)(k i:Nat)(L:Nat)(os ws:List Int)(_:vs=[v,.ref wy,.int (k:Int)])(_:AL H v (bY L os))(_:c7 H wy (ws.map V.int))(_:ws.length=e)(_:e<=L)(_:LF ws)(_:fE L os)(_:(cT L os ws)[k]? = some i)(_:∀ H',ag H H'->Q (.int (i:Int)) H')
def zH(K:Fg):Sp:=λvs H Q E=>∃ e,e<=PZ/\AZ K e vs H Q E
def sH(w:Int)(ws:List Int):dO ((w::ws).map V.int) (some 1) none=ws.map V.int:=by
 unfold dO;have B:HT.bP ((w::ws).map V.int).length 0 (some 1)=1:=by
  rw[ZK,WB];simp[HT.bP]
  try lia
 rw[B,HT.Kq,YA,List.drop_succ_cons,drop_zero,WB,Nat.add_sub_cancel];exact WR
inductive SR(K:Fg)(vs:List V)(H:Hp)(Q:VK)(E:XK):Prop
 |mk(ga:Addr)(xs:List V)(L k:Nat)(gs:List G3)(_:vs=[.int (L:Int),.ref ga,.int (k:Int)])(_:L<=40)(_:H ga=some (.lst xs))(_:aE H L xs gs)(_:(∀ g∈gs,aK L g))(_:gs.length<=100)(_:(Wh gs).length<=900)(_:k<(Wh gs).length)(_:∀ t H',ag H H'->c7 H' t ((aX L (cN L (Wh gs) k)).map V.int)->Q (.ref t) H')
inductive Iv(K:Fg)(vs:List V)(H:Hp)(Q:VK)(E:XK):Prop
 |mk(b ga:Addr)(xs:List V)(low:Int)(L k:Nat)(gs:List G3)(_:vs=[.ref b,.ref ga,.int (k:Int)])(_:au K H b [.int low,.int (L:Int)])(_:L<=40)(_:H ga=some (.lst xs))(_:aE H L xs gs)(_:(∀ g∈gs,aK L g))(_:gs.length<=100)(_:(Wh gs).length<=900)(_:k<(Wh gs).length)(_:∀ v H',ag H H'->lP H' v (low+cN L (Wh gs) k,(((Wh gs).count (cN L (Wh gs) k):Nat):Int))->Q v H')
def VX(H:Hp)(v:V):Option P2->Prop
 | none=>v = .bf
 | some p=>lP H v p
inductive Q7(K:Fg)(vs:List V)(H:Hp)(Q:VK)(E:XK):Prop
 |mk(b ga:Addr)(xs:List V)(low num:Int)(L:Nat)(gs:List G3)(_:vs=[.ref b,.ref ga,.int num])(_:au K H b [.int low,.int (L:Int)])(_:L<=40)(_:H ga=some (.lst xs))(_:aE H L xs gs)(_:(∀ g∈gs,aK L g))(_:gs.length<=100)(_:(Wh gs).length<=900)(_:∀ v H',ag H H'->VX H' v ((Cv L low (Wh gs)).find? λq=>decide (num<q.1))->Q v H')
def DT:z.C P w 42 "lifted" ["tree", "way", "place"] (zH K):=by
 have sc:=MM;refine z.sj.eh (k:=HR) (sp:=AZ K) PZ λe oi I f fd F=>F.k sc λ_ _ _ s H _ Q _ hr h=>?_;obtain⟨v,wy,k,i,L,os,ws,rfl,ht,hw,Y,heL,CY,oh,hi,q⟩:=h;refine⟨_,(aj (aW (aN av (dH z.bE (ar kv)) ah)
 (aj (aW (PW.pt (pw_or (aN bS bv ah) (yc (aN gA bv (aQ (Gv z) (hr.mono (ZT (by decide:1<=HR) (ce _ _))) () (ar kb))))))
 (bF dF))
 (az bv)))
 (aj (aF 3 sc.nd (aQ I (hr.mono (ZF _)) () (bW (aQ (Gs z) (hr.mono (ZT (by decide:1<=HR) (ce _ _))) () (aY kb (aG bh kv ah))) (Am Nm kv (yf ah) Mt) bv)))
 (az (aQ (Ad z) (hr.mono (ZT (by decide:1<=HR) (ce _ _))) () (bW (aG bh kb ah) (aG bh kv ah) bi))))),?_⟩
 symm;exists wy,_,J,.inr hw.sq,J;cases ws with
 | nil=>
  refine ay (λ_=>?_) (λc=>absurd (ZG J) c);rw[Ae]at hi;have hk:k<os.length:=by have:=(ac hi).1;rwa [length_range]at this
  rw[getElem?_range hk]at hi;cases hi;exists v,_,J,ht,_,_,J,J;rw[NW];refine ay (λc=>absurd (ZI c) {}) (λ_=>?_);exact q H (ag.refl H)
 | cons M ws=>
  refine ay (λc=>?_) (λ_=>?_)
  ·exfalso;have:=V.int.inj (ZI c);rw[ZK,WB]at this;lia
  obtain⟨e',rfl⟩:∃ e',e=e'+1:=⟨ws.length,by rw[<- Y];rfl⟩
  obtain⟨S,rfl⟩:∃ S,L=S+1:=⟨L-1,{}⟩
  have n_:M=0\/M=1:=CY M (ZQ ..);have VE:LF ws:=λm hm=>CY m (ZU _ hm);have W:ws.length=e':=by rw[WB]at Y;lia
  have O:fC ((M::ws).map V.int) 0=some (.int M):=by show fC _ ((0:Nat):Int)=_;exact dm J
  have N:=NV (w:=M) (ws:=ws) oh k;rw[hi]at N;cases B:(cT S (af S M os) ws)[k]? with
  | none=>rw[B,Option.bind_none]at N;cases N
  | some i2=>
   rw[B,Option.bind_some]at N;refine⟨_,_,hw.sq,O,v,_,M,J,ht,n_,λu hu=>?_⟩;rw[Q_ oh n_]at hu;refine⟨1,J,wy,_,J,hw,λw2 H1 s1 Z=>?_⟩;rw[sH]at Z;refine⟨u,w2,k,i2,S,af S M os,ws,J,hu.same s1,Z,W,{},VE,iI,B,λH2 s2=>?_⟩;have U:=s1.trans s2;have eP:os≠[]:=λz=>by
    rw[z]at B;have e0:af S M []=[]:=J;rw[e0,MD]at B;simp at B
   have W2:=ht.same U;rw[m9 eP]at W2;obtain⟨a,m,x,y,rfl,ha,hm,_,_⟩:=W2;exact⟨_,_,au.of ha,J,_,_,(hw.same U).sq,O,m,os.map (ck S),M,(i2:Int),i,J,hm.sq,N.symm,λH3 s3=>q H3 (U.trans s3)⟩
def HQ:z.C P w 4 "way_of_nth" ["levels", "gathering", "k"] (SR K):=by
 have sc:=QN;specialize z.iX;obtain⟨ga,xs,L,k,gs,rfl,hL,eG,hg,jK,hl,Ue,hk,q⟩:=h;refine⟨_,(aj (aF 3 sc.nd (tS fU))
 (aj (aF 4 sc.nd kv)
 (aj (aF 5 sc.nd bv)
 (aj (pO bn J (jo J z.cz (ar kb)) (cq 6 sc.nd)
 (aj (aF 7 sc.nd (aC (dE z) hr (ar (aC (Bd z) hr (aY (pr 4) (tT (ar ah)))))))
 (aj (aF 8 sc.nd (vR (aN bS (pr 5) (pr 7)) ah ah))
 (aj (aF 5 sc.nd (ae lW (pr 5) (ae m5 (pr 8) (pr 7))))
 (aj (aF 4 sc.nd (aC (Bd z) hr (aY (pr 4) (tT (ar (pr 8))))))
 (bF (d6 (bG YF YM YN ke bi (ar (pr 8))))))))))
 (az (ei kQ () z.eW vN (ar bi))))))),?_⟩
 symm;refine⟨aZ J,λwl jI H1 s1 Ud=>?_⟩;have hgw:ga≠wl:=λz=>by rw[z,jI]at eG;cases eG
 refine⟨(L:Int),J,{},{},Ed (n:=L) (λi σ H2=>V2 λ(pa:Addr) (zs:List V) (B:List G3) (k':Nat) (ws:List Int) (v6 v7 v8:Option V)=>Ky (σ=[some (.int (L:Int)),some (.ref ga),some (.int (k:Int)),some (.ref wl),some (.ref pa),some (.int (k':Int)),v6,v7,v8]) (ag H H2) (H2 wl=some (.lst (ws.map V.int))) (ws.length=i) (H2 pa=some (.lst zs)) (aE H2 (L-i) zs B) ((∀ g∈B,aK (L-i) g)) (B.length<=100) ((Wh B).length<=900) (k'<(Wh B).length) (pa≠wl) (aX L (cN L (Wh gs) k)=ws++aX (L-i) (cN (L-i) (Wh B) k'))) ⟨ga,xs,gs,k,[],none,none,none,J,s1,Ud,J,s1 _ _ eG,hg.same s1,jK,hl,Ue,hk,hgw,J⟩ ?_ ?_⟩
 ·rintro i σ H2 hi ⟨pa,zs,B,k',ws,v6,v7,v8,rfl,s2,O,BZ,yq,Y,I,ua,JH,Lm,B4,M⟩;obtain⟨e,he⟩:∃ e,L-i=e+1:=⟨L-i-1,{}⟩
  have CV:L-(i+1)=e:={}
  rw[he]at Y I M;have el:∀ w:Int,B.map (bL (e+1) [w])=B.map (bT e w):=λw=>map_congr_left λg _=>by rw[lV,Fn]
  have Z:∀ w,∀ g∈B.map (bT e w),aK e g:=λw g hg=>by
   obtain⟨g',Y,rfl⟩:=eE hg;exact d0 (I g' Y)
  have Z2:=vK (e:=e) (Wh B);have Jj:∀ w:Int,(af e w (Wh B)).length<=900:=λw=>ZT mY JH;refine⟨aZ J,λw0 n_ H3 s3 k_=>?_⟩;refine⟨pa,w0,zs,e+1,[0],B,J,ao.of (s3 _ _ yq),Y.same s3,I,{},au.of k_,by simp,(λx hx=>by rw[eD hx];exact .inl J),λH4 D4 z4 s4 kr xj CU=>?_⟩;rw[el]at CU;refine⟨D4,z4,e,_,J,ao.of kr,CU,by rw[ZK];lia,λH5 s5=>?_⟩;rw[IL (Z 0),bQ I];have zh:=(s3.trans s4).trans s5;refine aT (λc=>?_) (λc=>?_)
  ·have c':k'<(af e 0 (Wh B)).length:=by have:=ZI c;lia
   rw[uf c']at M;exists _,_,J,J,.inl ⟨∅,∅⟩;refine⟨aZ J,λw1 rq H6 s6 kZ=>?_⟩;have S:=zh.trans s6;refine⟨pa,w1,zs,e+1,[0],B,J,ao.of (S _ _ yq),Y.same S,I,{},au.of kZ,by simp,(λx hx=>by rw[eD hx];exact .inl J),λH7 D7 z7 s7 lh W me=>?_⟩;rw[el]at me;have Dw:=S.trans s7;have N:=Dw _ _ O;have U:D7≠wl:=λz=>by rw[z,S _ _ O]at W;cases W
   exists .inl ⟨J,_,ao.of N⟩,wl,_,_,J,J,N,by rw[ZK];exact fM {}
   have tk:aw H7 (upd H7 wl (.lst (ws.map V.int++[V.int 0]))):=.set N;exists D7,z7,B.map (bT e 0),k',ws++[0],some (V.int (0+(i:Int))),some (V.int ((af e 0 (Wh B)).length:Nat)),some (V.int 0),?_,Qa (s2.trans Dw) jI _,by rw[ax,WF];rfl,by rw[ZM,BZ];rfl,by rw[bC U];exact lh,by rw[CV];exact me.tk tk,by rw[CV];exact Z 0,by rw[ZK];exact ua,by rw[bQ I];exact Jj 0,by rw[bQ I];exact c',U
   ·have:(k':Int)-0*((af e 0 (Wh B)).length:Nat)=(k':Int):={}
    exact congrArg (λq:Int=>[some (V.int (L:Int)),some (V.ref ga),some (V.int (k:Int)),some (V.ref wl),some (V.ref D7),some (V.int q),some (V.int (0+(i:Int))),some (V.int ((af e 0 (Wh B)).length:Nat)),some (V.int 0)]) this
   ·rw[M,CV,bQ I,YS];rfl
  ·have c':¬ k'<(af e 0 (Wh B)).length:=λz=>c (ZG {});rw[ug c']at M;exists _,_,J,J,.inl ⟨∅,∅⟩;refine⟨aZ J,λw1 rq H6 s6 kZ=>?_⟩;have S:=zh.trans s6;refine⟨pa,w1,zs,e+1,[1],B,J,ao.of (S _ _ yq),Y.same S,I,{},au.of kZ,by simp,(λx hx=>by rw[eD hx];exact .inr J),λH7 D7 z7 s7 lh W me=>?_⟩;rw[el]at me;have Dw:=S.trans s7;have N:=Dw _ _ O;have U:D7≠wl:=λz=>by rw[z,S _ _ O]at W;cases W
   exists .inl ⟨J,_,ao.of N⟩,wl,_,_,J,J,N,by rw[ZK];exact fM {}
   have tk:aw H7 (upd H7 wl (.lst (ws.map V.int++[V.int 1]))):=.set N;exists D7,z7,B.map (bT e 1),k'-(af e 0 (Wh B)).length,ws++[1],some (V.int (0+(i:Int))),some (V.int ((af e 0 (Wh B)).length:Nat)),some (V.int 1),?_,Qa (s2.trans Dw) jI _,by rw[ax,WF];rfl,by rw[ZM,BZ];rfl,by rw[bC U];exact lh,by rw[CV];exact me.tk tk,by rw[CV];exact Z 1,by rw[ZK];exact ua,by rw[bQ I];exact Jj 1,by rw[bQ I];lia,U
   ·have:(k':Int)-1*((af e 0 (Wh B)).length:Nat)=((k'-(af e 0 (Wh B)).length:Nat):Int):={}
    exact congrArg (λq:Int=>[some (V.int (L:Int)),some (V.ref ga),some (V.int (k:Int)),some (V.ref wl),some (V.ref D7),some (V.int q),some (V.int (0+(i:Int))),some (V.int ((af e 0 (Wh B)).length:Nat)),some (V.int 1)]) this
   ·rw[M,CV,bQ I,YS];rfl
 ·rintro σ H2 ⟨pa,zs,B,k',ws,v6,v7,v8,rfl,s2,O,BZ,yq,Y,I,ua,JH,Lm,B4,M⟩;rw[Nat.sub_self]at M;have Zu:aX L (cN L (Wh gs) k)=ws:=by rw[M];exact append_nil ws
  rw[Zu]at q;exact⟨wl,_,J,ao.of O,λt H' s' ht=>q t H' (s2.trans s') ht⟩
def Rp:z.C P w 5 "counted_nth" qx (Iv K):=by
 have sc:=RE;specialize z.g_;obtain⟨b,ga,xs,low,L,k,gs,rfl,hb,hL,M,hg,I,hl,N,hk,q⟩:=h;refine⟨_,(aj (aF 3 sc.nd (aC (HQ z) hr (bW (aG bh kb ah) kv bv)))
 (az (tT (aY (aG bh (aC (mC z) hr (aY kb bi)) ah) (aC (dE z) hr (ar (aC (Bd z) hr (aY kv bi)))))))),?_⟩
 symm;have r:=kT L (Wh gs) k;refine⟨_,_,hb,J,ga,xs,L,k,gs,J,hL,M,hg,I,hl,N,hk,λt H1 Z ht=>?_⟩;generalize cN L (Wh gs) k=o at *;refine⟨b,t,low,L,aX L o,J,Z.cJ hb,hL,ht.sq,λp hp=>?_⟩;have O:ip low L (aX L o)=(low+o,1):=vn L low o r.1 r.2;rw[O];have Y:=aM hp (.tup [V.int (low+o),.int (low+o+1-1)]);have S:=@ax H1 p (.tup [V.int (low+o),.int (low+o+1-1)])
 try dsimp only
 generalize upd H1 p (.tup [V.int (low+o),.int (low+o+1-1)])=H2 at *;have B:=Z.trans Y;exists _,_,au.of S,J;refine⟨ga,t,xs,L,aX L o,gs,J,ao.of (B _ _ M),hg.same B,I,{},(ht.same Y).sq,by rw[vJ];exact ZF _,A0 L o,λH3 D3 z3 s3 W _ U=>?_⟩;refine⟨D3,z3,_,_,J,ao.of W,U,by rw[ZK];lia,λH4 s4=>?_⟩;rw[vk L o gs r.1 r.2 I];exact⟨aZ J,λv hv _ sZ eZ=>q _ _ (((B.trans s3).trans s4).trans sZ) ⟨v,J,eZ⟩⟩
def NT:z.C P w 6 "next_up" lX (Q7 K):=by
 have sc:=Of;specialize z.nM;obtain⟨b,U,xs,low,num,L,gs,rfl,hb,hL,M,S,I,Z,O,q⟩:=h;refine⟨_,(aj (aF 3 sc.nd (aC (qM z) hr (bW kb kv (ae dk bv ah))))
 (aj (aW (aN av bi (aC (dE z) hr (ar kv)))
 (az dG))
 (az (aC (Rp z) hr (bW kb kv bi))))),?_⟩
 obtain⟨u1,u2⟩:=uh (L:=L) (low:=low) (num:=num) (ib I);have hle:=qY (Wh gs) (num+1-low);refine⟨b,U,xs,low,num+1,L,gs,J,hb,hL,ao.of M,S,I,Z,λH1 N=>?_⟩;change ∀ v H',ag H H'->VX H' v _->Q v H' at q;refine⟨U,xs,L,gs,J,ao.of (N _ _ M),S.same N,{},λH2 Y=>?_⟩;rw[IL I];exists J;by_cases c:eO (Wh gs) (num+1-low)=(Wh gs).length
 ·rw[u1 c]at q;refine aT (λ_=>q .bf H2 (N.trans Y) J) (λW=>absurd (ZG (by show V.int ((eO (Wh gs) (num+1-low):Nat):Int)=_;rw[c])) W)
 ·rw[u2 c]at q;refine aT (λW=>absurd (by have:=V.int.inj (ZI W);unfold eO;lia) c) (λ_=>?_);have B:=N.trans Y;exact⟨b,U,xs,low,L,eO (Wh gs) (num+1-low),gs,J,B.cJ hb,hL,B _ _ M,S.same B,I,Z,O,{},λv H3 s3 hv=>q v H3 (B.trans s3) hv⟩
theorem Ac(L:Nat)(o x:Int)(O:0<=o)(h1:o<2^L)(h2:0<=x)(B:x<2^L):jj L x (aX L o)=decide (x=o)
:=by
 induction L generalizing o x with
 | zero=>
  have:(2:Int)^0=1:=J;rw[ZG {}];rfl
 | succ e i=>
  have p:=nq e;have hp:=b7 e;by_cases c:o<2^e
  ·rw[Tj c,vo ⟨h2,B⟩];rcases wM e x with m | m
   ·have N:=jx h2 B m;have I:=Int.emod_nonneg x (show(2:Int)^e≠0 by lia);have M:=Int.emod_lt_of_pos x hp;rw[m,i o (x%2^e) O c I M];have:x%2^e=x:={}
    rw[this];rfl
   ·have N:=jx h2 B m;have I:=Int.emod_nonneg x (show(2:Int)^e≠0 by lia);rw[m,ZS {}];rfl
  ·rw[fQ c,vo ⟨h2,B⟩];have I:=Int.emod_nonneg x (show(2:Int)^e≠0 by lia);have M:=Int.emod_lt_of_pos x hp;rcases wM e x with m | m
   ·have N:=jx h2 B m;rw[m,ZS {}];rfl
   ·have N:=jx h2 B m;rw[m,i (o-2^e) (x%2^e) {} {} I M];by_cases z:x=o
    ·rw[ZG z,ZG {}];rfl
    ·rw[ZS z,ZS {}];rfl
def tI{os:List Int}{s t:Nat}(h:s<=t):(os.take s).countP q+(sel (os,s,t)).countP q=(os.take t).countP q:=by
 have e:os.take t=os.take s++sel (os,s,t):=by unfold sel;have:=(YY s (os.take t)).symm;rw[take_take,YH h]at this;exact this
 rw[e,YX]
def Mw(g:G3):Wh [g]=sel g:=by unfold Wh;rw[flatMap_cons,List.flatMap_nil,append_nil]
def yy(us:List Int)(o:Int):us.count o=us.countP λx=>decide (x=o):=by rw[count_eq_countP];refine countP_congr λx _=>?_;rw[beq_iff_eq,WV]
def wW{L:Nat}{g:G3}{o:Int}{left:Nat}(hg:aK L g)(h0:0<=o)(h1:o<2^L)(hl:left<(sel g).count o) :
  ∃ i,dw ((cT L g.1 (aX L o))[(bL L (aX L o) g).2.1+left]? = some i) (g.2.1<=i) (i<g.2.2) (g.1[i]? = some o) ((sel (g.1,g.2.1,i)).count o=left):= by
 obtain⟨os,s,t⟩:=g;obtain⟨B,M,I,_⟩:=hg;change s<=t at M;change t<=os.length at I;have hq:∀ x∈os,jj L x (aX L o)=decide (x=o):=λx S=>Ac L o x h0 h1 (B x S).1 (B x S).2;have hs:cT L os (aX L o)=idxs (λx=>decide (x=o)) os:=Q9 hq;have W:∀ k,(os.take k).countP (λx=>jj L x (aX L o))=(os.take k).countP λx=>decide (x=o):=λk=>countP_congr λx S=>by rw[hq x (YG S)]
 have O:(bL L (aX L o) (os,s,t)).2.1=(os.take s).countP λx=>decide (x=o):=by
  rcases EO L (aX L o) os s t (by rw[vJ];exact ZF _) B with e | e | e
  ·rw[e];exact W s
  ·lia
  ·lia
 rw[yy]at hl;have c1:=tI (q:=λx=>decide (x=o)) (os:=os) M;have c2:=ve (q:=λx=>decide (x=o)) os I;rw[WP (ZF os.length)]at c2;have hlen:(idxs (λx=>decide (x=o)) os).length=os.countP λx=>decide (x=o):=by have:=congrArg List.length (pN (p:=λx=>decide (x=o)) os);rw[ZK]at this;rw[this,countP_eq_length_filter]
 have hk:(os.take s).countP (λx=>decide (x=o))+left<(idxs (λx=>decide (x=o)) os).length:={}
 obtain⟨i,hi⟩:∃ i,(idxs (λx=>decide (x=o)) os)[(os.take s).countP (λx=>decide (x=o))+left]? = some i:=⟨_,ZP hk⟩
 obtain⟨o',Z,Y,k3⟩:=Az os _ i hi;have eo:o'=o:=ZI Y;subst eo;have N:s<=i:=by apply Classical.byContradiction;intro c;have m:=ve (q:=λx=>decide (x=o')) os (show i+1<=s by lia);rw[sL Z Y]at m;lia
 have U:i<t:=by apply Classical.byContradiction;intro c;have m:=ve (q:=λx=>decide (x=o')) os (show t<=i by lia);lia
 exists i,?_,N,U,Z
 ·show(cT L os (aX L o'))[(bL L (aX L o') (os,s,t)).2.1+left]? = some i;rw[hs,O];exact hi
 ·show(sel (os,s,i)).count o'=left;rw[yy];have c3:=tI (q:=λx=>decide (x=o')) (os:=os) N;lia
def Thing(gs:List G3)(o:Int)(num j pl:Nat):Prop:=∃ g,dw (gs[j]? = some g) (g.2.1<=pl) (pl<g.2.2) (g.1[pl]? = some o) (num=(Wh (gs.take j++[(g.1,g.2.1,pl)])).count o)
def xJ{gs:List G3}{j:Nat}(h:gs[j]? = some g):Wh (gs.take (j+1))=Wh (gs.take j)++sel g:=by rw[WK,h];show Wh (gs.take j++[g])=_;rw[yB,Mw]
def zG{L:Nat}(h:c6 H L v g):aE H L [v] [g]:=(aE.nil H L).snoc h
inductive Sz(u0:Fg)(vs:List V)(H:Hp)(Q:VK)(E:XK):Prop
 |mk(ga wy:Addr)(xs:List V)(L num:Nat)(o:Int)(gs:List G3)(_:vs=[.ref ga,.ref wy,.int (num:Int)])(_:L<=40)(_:H ga=some (.lst xs))(_:aE H L xs gs)(_:(∀ g∈gs,aK L g))(_:gs.length<=100)(_:c7 H wy ((aX L o).map V.int))(_:0<=o)(_:o<2^L)(_:num<(Wh gs).count o)(_:∀(p:Addr)(j pl:Nat)(H':Hp),ag H H'->H' p=some (.tup [.int (j:Int),.int (pl:Int)])->Thing gs o num j pl->Q (.ref p) H')
inductive Sy(K:Fg)(vs:List V)(H:Hp)(Q:VK)(E:XK):Prop
 |mk(b ga:Addr)(xs:List V)(low:Int)(L k:Nat)(gs:List G3)(_:vs=[.ref b,.ref ga,.int (k:Int)])(_:au K H b [.int low,.int (L:Int)])(_:L<=40)(_:H ga=some (.lst xs))(_:aE H L xs gs)(_:(∀ g∈gs,aK L g))(_:gs.length<=100)(_:(Wh gs).length<=900)(_:k<(Wh gs).length)(_:∀(p:Addr)(j pl:Nat)(H':Hp),ag H H'->au K H' p [.int (low+cN L (Wh gs) k),.int (j:Int),.int (pl:Int)]->Thing gs (cN L (Wh gs) k) (k-eO (Wh gs) (cN L (Wh gs) k)) j pl->Q (.ref p) H')
def Zd(n:Nat):St->Nat:=λσ=>match σ[5]? with
 | some (some (V.int m))=>n-m.toNat
 | _=>0
def PY:z.C P w 43 "nth_alike" ["gathering", "way", "number"] (Sz K):=by
 have sc:=Ql;specialize z.jV;obtain⟨ga,Y,xs,L,num,o,gs,rfl,hL,eG,hg,O,hl,JC,h0,h1,aa6,q⟩:=h;refine⟨_,(aj (aF 3 sc.nd (aC (Bd z) hr (aY (pv 0) (pv 1))))
 (aj (aF 4 sc.nd (pv 2))
 (aj (aF 5 sc.nd ah)
 (aj (vy bn (tV gA (pv 4) (aC (dE z) hr (ar (zX (ar (aG vB (pv 3) (pv 5)))))))
 (aj (aF 4 sc.nd (ae Eu (pv 4) (aC (dE z) hr (ar (zX (ar (aG vB (pv 3) (pv 5))))))))
 (bF (aF 5 sc.nd (ae IA (pv 5) ah)))))
 (az (vj (aY (pv 5) (aC (DT z) hr (bW (aG HG (aG vB (pv 0) (pv 5)) ah) (pv 1) (ae IA (aG HG (aG vB (pv 3) (pv 5)) ah) (pv 4))))))))))),?_⟩
 symm;have jI:=vJ L o;refine⟨_,J,_,J,ga,Y,xs,L,aX L o,gs,J,ao.of eG,hg,O,{},JC.sq,{},A0 L o,λH1 D zs s1 hD _ S=>?_⟩;rw[jI,Nat.sub_self]at S;have one:∀ g∈gs,iz [bL L (aX L o) g]=((sel g).count o:Nat):=λg I=>by
  have:=vk L o [g] h0 h1 (λx hx=>by rw[eD hx];exact O g I);rw[Mw]at this;exact this
 have U3:∀(j left:Nat),left+(Wh (gs.take j)).count o=num->j<gs.length:=λj left e=>by
  apply Classical.byContradiction;intro c;rw[WP {}]at e;lia
 exists _,J;have VP:∀ j:Nat,j<gs.length->Kw λg z t t' u u'=>xR (gs[j]? = some g) (zs[j]? = some z) (z=V.ref t') (H1 t'=some (.tup [u',.int ((bL L (aX L o) g).2.1:Int),.int ((bL L (aX L o) g).2.2:Int)])) (c6 H1 0 z (bL L (aX L o) g)) (xs[j]? = some (V.ref t)) (H t=some (.tup [u,.int (g.2.1:Int),.int (g.2.2:Int)])) (AL H u (bY L g.1)):= by
  intro j hj;have U:gs[j]? = some gs[j]:=ZP hj;have hjz:j<zs.length:=by rw[S.1,ZK];exact hj
  have hjx:j<xs.length:=by rw[hg.1];exact hj
  have W:=ZP hjz;have gx:=ZP hjx;have B:=S.2 j _ _ W (by rw[WE,U];rfl);obtain⟨t',u',e1,e2,e3⟩:=id B;obtain⟨t,u,f1,f2,f3⟩:=hg.2 j _ _ gx U;rw[f1]at gx;exact⟨_,_,t,t',u,u',U,W,e1,e2,B,gx,f2,f3⟩
 refine u5 (λσ H2=>aO λ(left j:Nat)=>aP (σ=[some (.ref ga),some (.ref Y),some (.int (num:Int)),some (.ref D),some (.int (left:Int)),some (.int (j:Int))]) (ag H1 H2) (left+(Wh (gs.take j)).count o=num)) (λσ _=>Zd gs.length σ)
  ⟨num,0,J,ag.refl _,J⟩ ?_ ?_
 ·rintro σ H2 ⟨left,j,rfl,s2,hinv⟩;have hj:=U3 j left hinv;obtain⟨g,z,t,t',u,u',U,W,e1,e2,B,gx,f2,f3⟩:=VP j hj;have I:=ZV U;have JD:=xJ U;refine⟨_,J,_,J,_,J,D,_,_,_,J,J,ao.of (s2 _ _ hD),dm W,aZ J,λl1 rE=>?_⟩;have s3:=aM rE (.lst [z]);have UY:upd H2 l1 (.lst [z]) l1=some (.lst [z]):=ax;generalize upd H2 l1 (.lst [z])=H3 at *;have Cw:=s2.trans s3;refine⟨l1,[z],0,[bL L (aX L o) g],J,ao.of UY,zG (B.tk (.same Cw)),by simp,λH4 s4=>?_⟩;rw[one g I];exists _,_,J,J,_,J;have M:=Cw.trans s4;refine aT (λc=>?_) (λc=>?_)
  ·have c':(sel g).count o<=left:=by have:=ZI c;lia
   refine⟨_,J,_,J,_,J,D,_,_,_,J,J,ao.of (M _ _ hD),dm W,aZ J,λl2 Lk=>?_⟩;have s5:=aM Lk (.lst [z]);have UX:upd H4 l2 (.lst [z]) l2=some (.lst [z]):=ax;generalize upd H4 l2 (.lst [z])=H5 at *;have Z:=M.trans s5;refine⟨l2,[z],0,[bL L (aX L o) g],J,ao.of UX,zG (B.tk (.same Z)),by simp,λH6 s6=>?_⟩;rw[one g I];exists _,_,J,J,_,J,_,_,J,J,⟨left-(sel g).count o,j+1,?_,Z.trans s6,?_⟩
   ·have a1:(left:Int)-((sel g).count o:Nat)=((left-(sel g).count o:Nat):Int):={}
    have a2:(j:Int)+1=((j+1:Nat):Int):={}
    show[some (V.ref ga),some (V.ref Y),some (V.int (num:Int)),some (V.ref D),some (V.int ((left:Int)-((sel g).count o:Nat))),some (V.int ((j:Int)+1))]=_;rw[a1,a2]
   ·rw[JD,count_append];lia
   ·show gs.length-((j:Int)+1).toNat<gs.length-((j:Int)).toNat;lia
  ·have c':left<(sel g).count o:=by apply Classical.byContradiction;intro z2;exact c (ZG {})
   obtain⟨i,k1,k2,k3,k4,k5⟩:=wW (O g I) h0 h1 c';have N:=s1.trans M;exists _,J,_,J,_,J,ga,_,_,_,J,J,ao.of (N _ _ eG),dm gx,t,_,_,_,J,J,au.of (N _ _ f2),J,_,J,_,J,_,J,D,_,_,_,J,J,ao.of (M _ _ hD),dm W;rw[e1];exists t',_,_,_,J,J,au.of (M _ _ e2),J,_,J,_,_,J,J;refine⟨L,hL,u,Y,(bL L (aX L o) g).2.1+left,i,L,g.1,aX L o,?_,f3.same N,JC.same N,jI,ZF _,A0 L o,(O g I).1,k1,λH5 s5=>⟨aZ J,λp hp=>?_⟩⟩
   ·exact congrArg (λq:Int=>[u,V.ref Y,V.int q]) (show((bL L (aX L o) g).2.1:Int)+(left:Int)=(((bL L (aX L o) g).2.1+left:Nat):Int) by lia)
   refine q p j i _ ((N.trans s5).trans (aM hp _)) ax ⟨g,U,k2,k3,k4,?_⟩;rw[yB,Mw,count_append,k5];lia
 ·rintro σ H2 Q1 Q2 hq ⟨_,e0,_,e1,_,e2,a,us,i,v,f1,f2,f3,f4,g0,g⟩;refine⟨_,e0,_,e1,_,e2,a,us,i,v,f1,f2,f3,f4,g0,λp hp=>?_⟩;obtain⟨ga',X0,L',gs',h1,h2,h3,h4,h5⟩:=g p hp;refine⟨ga',X0,L',gs',h1,h2,h3,h4,λH' s'=>?_⟩;obtain⟨i',j',w1,w2,k,w3,w4⟩:=h5 H' s';exact⟨i',j',w1,w2,k,w3,hq _ _ w4⟩
def Fy:z.C P w 44 "nth_least" qx (Sy K):=by
 have sc:=Qm;specialize z.jU;obtain⟨b,S,xs,low,L,k,gs,rfl,hb,hL,I,W,B,hl,Z,hk,q⟩:=h;refine⟨_,(aj (aW (PW.pt (pw_or (aN bS bv ah) (yc (aN gA bv (aC (dE z) hr (ar kv))))))
 (bF dF))
 (aj (aF 3 sc.nd (aC (HQ z) hr (bW (aG bh kb ah) kv bv)))
 (aj (aF 4 sc.nd (ae lW bv (aC (Tc z) hr (aY kv bi))))
 (az (ae En (tT (ar (aG bh (aC (mC z) hr (aY kb bi)) ah))) (aC (PY z) hr (bW kv bi (pr 4)))))))),?_⟩
 symm;have r:=kT L (Wh gs) k;obtain⟨c1,c2⟩:=R_ L (Wh gs) k (ib B) hk;rw[QD]at c2;refine⟨S,xs,L,gs,J,ao.of I,W,{},λH1 U=>?_⟩;rw[IL B];exists _,_,J,J;refine ay (λc=>absurd (ZI c) {}) (λ_=>?_);refine⟨_,_,U.cJ hb,J,S,xs,L,k,gs,J,hL,U _ _ I,W.same U,B,hl,Z,hk,λt H2 s2 ht=>?_⟩;have N:=U.trans s2;generalize cN L (Wh gs) k=o at *;refine⟨S,t,xs,L,o,gs,J,ao.of (N _ _ I),W.same N,B,hl,ht.sq,r.1,r.2,λH3 Y=>?_⟩;have O:=N.trans Y;refine⟨b,t,low,L,aX L o,J,O.cJ hb,hL,(ht.same Y).sq,λp hp=>?_⟩;have JL:ip low L (aX L o)=(low+o,1):=vn L low o r.1 r.2;rw[JL];have s4:=aM hp (.tup [V.int (low+o),.int (low+o+1-1)]);have rB:=@ax H3 p (.tup [V.int (low+o),.int (low+o+1-1)]);dsimp only;generalize upd H3 p (.tup [V.int (low+o),.int (low+o+1-1)])=H4 at *;refine⟨_,_,au.of rB,J,aZ J,λp1 og H5 s5 t_=>?_⟩;have M:=(O.trans s4).trans s5;refine⟨S,t,xs,L,k-eO (Wh gs) o,o,gs,?_,hL,M _ _ I,W.same M,B,hl,(((ht.same Y).same s4).same s5),r.1,r.2,{},λp2 j pl H6 s6 oa Ld=>?_⟩
 ·exact congrArg (λq:Int=>[V.ref S,V.ref t,V.int q]) (show(k:Int)-((eO (Wh gs) o:Nat):Int)=((k-eO (Wh gs) o:Nat):Int) by lia)
 refine⟨p1,p2,_,_,J,J,au.of (s6 _ _ t_),au.of oa,aZ J,λp3 H7 s7 h3 _=>?_⟩;exact q p3 j pl H7 ((M.trans s6).trans s7) h3 Ld
abbrev gC:Nat:=3
abbrev Tn:Nat:=40
inductive jn(K:Fg)(e:Nat)(vs:List V)(H:Hp)(Q:VK)(E:XK):Prop
 |mk(least part floor:Int)(pa:Addr)(xs:List V)(gs:List G3)(_:vs=[.int least,.int (2^e),.ref pa,.int part,.int floor])(_:ao K H pa xs)(_:aE H e xs gs)(_:(∀ g∈gs,aK e g))(_:gs.length<=100)(_:(Wh gs).length<=900)(_:1<=part)(_:0<=floor)(_:∀(H':Hp)(D:Addr)(ys:List V),ag H H'->H' D=some (.lst ys)->H D=none->cf lP H' ys (cX part floor e least (Wh gs))->Q (.ref D) H')
def Si(K:Fg):Sp:=λvs H Q E=>∃ e,e<=Tn/\jn K e vs H Q E
inductive Sx(K:Fg)(vs:List V)(H:Hp)(Q:VK)(E:XK):Prop
 |mk(b ga:Addr)(xs:List V)(low:Int)(L:Nat)(gs:List G3)(_:vs=[.ref b,.ref ga])(_:au K H b [.int low,.int (L:Int)])(_:L<=40)(_:ao K H ga xs)(_:aE H L xs gs)(_:(∀ g∈gs,aK L g))(_:gs.length<=100)(_:(Wh gs).length<=900)(_:∀(H':Hp)(D:Addr)(ys:List V),ag H H'->H' D=some (.lst ys)->H D=none->cf lP H' ys (cX 1 0 L low (Wh gs))->Q (.ref D) H')
def xQ(H:Hp)(v:V):Option P2->Prop
 | none=>v = .bf
 | some p=>lP H v p
inductive zF(K:Fg)(vs:List V)(H:Hp)(Q:VK)(E:XK):Prop
 |mk(b ga:Addr)(xs:List V)(low:Int)(L:Nat)(gs:List G3)(_:vs=[.ref b,.ref ga])(_:au K H b [.int low,.int (L:Int)])(_:L<=40)(_:ao K H ga xs)(_:aE H L xs gs)(_:(∀ g∈gs,aK L g))(_:gs.length<=100)(_:(Wh gs).length<=900)(_:∀(H':Hp)(v:V),ag H H'->xQ H' v (xG (cX 1 0 L low (Wh gs)))->Q v H')
def Sh:z.C P w 44 "counted_above" vZ (Si K):=by
 have sc:=Sl;refine z.fA.eh (k:=gC) (sp:=jn K) Tn λe oi B f fd F=>F.k sc λ_ _ _ s H _ Q _ hr h=>?_;obtain⟨least,part,floor,pa,xs,gs,rfl,Y,hg,I,hl,hw,og,Vd,q⟩:=h;refine⟨_,(aj (aF 5 sc.nd (aQ (dE z) (hr.mono (ZT (by decide:1<=gC) (ce _ _))) () (ar bv)))
 (aj (aW (aN dq (ae m5 (pr 5) bi) (pr 4))
 (az (zX fU)))
 (aj (aW (aN av kv ah)
 (az (zX (ar (vj (aY kb (pr 5)))))))
 (aj (aF 6 sc.nd (ae vS kv ah))
 (aj (aF 7 sc.nd (aQ B (hr.mono (ZF _)) () (dA kb (dI (pr 6) (aQ (n6 z) (hr.mono (ZT (by decide:1<=gC) (ce _ _))) () (ar (aQ (Bd z) (hr.mono (ZT (by decide:3<=gC) (ce _ _))) () (aY bv (vj (ar ah)))))) bi (pr 4)))))
 (aj (aF 8 sc.nd (aQ B (hr.mono (ZF _)) () (dA (ae dk kb (pr 6)) (dI (pr 6) (aQ (n6 z) (hr.mono (ZT (by decide:1<=gC) (ce _ _))) () (ar (aQ (Bd z) (hr.mono (ZT (by decide:3<=gC) (ce _ _))) () (aY bv (vj (ar ah)))))) bi (pr 4)))))
 (az (ae Qu (pr 7) (pr 8))))))))),?_⟩
 have oh:=ib I;have eR:=Ci (part:=part) (floor:=floor) (least:=least) og Vd oh;refine⟨pa,xs,e,gs,J,Y,hg,{},λH1 s1=>?_⟩;rw[IL I];exists _,_,J,J,.inl ⟨{},{}⟩;refine aT (λc=>?_) (λc=>?_)
 ·have c':=ZI c;have e0:cX part floor e least (Wh gs)=[]:=by cases e <;> (unfold cX;rw[ZL c'])
  rw[e0]at q;exact⟨aZ J,λD O=>q _ D [] (s1.trans (aM O _)) ax (s1.free O) cf.nil⟩
 have c':¬((Wh gs).length:Int)*part<=floor:=λz=>c (ZG z);exists J;cases e with
 | zero=>
  refine aT (λ_=>?_) (λc=>absurd (ZG J) c);have e0:cX part floor 0 least (Wh gs)=[(least,(((Wh gs).length:Nat):Int))]:=by unfold cX;rw[ZJ c']
  rw[e0]at q;refine⟨aZ J,λt ht=>⟨aZ J,λD O=>?_⟩⟩;have s2:=aM ht (.tup [.int least,.int ((Wh gs).length:Nat)]);have s3:=aM O (.lst [.ref t]);refine q _ D [.ref t] ((s1.trans s2).trans s3) ax ((s1.trans s2).free O) ⟨J,λj x p h1 h2=>?_⟩
  match j,h1,h2 with
  | 0,h1,h2=>cases h1;cases h2;exact⟨t,J,s3 _ _ ax⟩
  | j+1,h1,h2=>simp at h1
 | succ e=>
  have oa:=b7 e;have e2:(2:Int)^(e+1)=2*2^e:=by rw[Int.pow_succ];lia
  refine aT (λc=>absurd (V.int.inj (ZI c)) {}) (λ_=>?_);have hh:(2:Int)^(e+1)/2=2^e:=by rw[Int.pow_succ];exact Int.mul_ediv_cancel _ ∅
  exists _,_,J,J,⟨∅,∅⟩
  try dsimp only
  rw[hh];have e0:cX part floor (e+1) least (Wh gs)=cX part floor e least (af e 0 (Wh gs))++cX part floor e (least+2^e) (af e 1 (Wh gs)):=by rw[cX,ZJ c']
  rw[e0]at q eR;have M:∀ w,∀ g∈gs.map (bT e w),aK e g:=λw g hg=>by
   obtain⟨g',JX,rfl⟩:=eE hg;exact d0 (I g' JX)
  have el:∀ w:Int,gs.map (bL (e+1) [w])=gs.map (bT e w):=λw=>map_congr_left λg _=>by rw[lV,Fn]
  have e1l:e+1 - [(0:Int)].length=e:=J;have S:∀ w:Int,(af e w (Wh gs)).length<=900:=λw=>ZT mY hw;refine⟨aZ J,λw0 n_=>?_⟩;have s2:=aM n_ (.tup [V.int 0]);have k_:upd H1 w0 (.tup [V.int 0]) w0=some (.tup [V.int 0]):=ax;generalize upd H1 w0 (.tup [V.int 0])=H2 at *;have W:=s1.trans s2;refine⟨pa,w0,xs,e+1,[0],gs,J,W.seq Y,hg.same W,I,{},au.of k_,by simp,(λx hx=>by rw[eD hx];exact .inl J),λH3 D3 z3 s3 ec Vx B9=>?_⟩;rw[el]at B9;have B8:aE H3 e z3 (gs.map (bT e 0)):=B9;refine⟨D3,z3,e,_,J,ao.of ec,B8,by rw[ZK];lia,λH4 D4 z4 s4 kr xj CU=>?_⟩;refine⟨least,part,floor,D4,z4,bJ (gs.map (bT e 0)),J,ao.of kr,CU,n8 (M 0),?_,by rw[ql,bQ I];exact S 0,og,Vd,λH5 D5 z5 s5 oj ab4 t_=>?_⟩
  ·exact ZT (length_filter_le _ _) (by rw[ZK];exact hl)
  rw[ql,bQ I]at t_;have U:=((W.trans s3).trans s4).trans s5;refine⟨aZ J,λw1 rq=>?_⟩;have s6:=aM rq (.tup [V.int 1]);have kZ:upd H5 w1 (.tup [V.int 1]) w1=some (.tup [V.int 1]):=ax;generalize upd H5 w1 (.tup [V.int 1])=H6 at *;have Dy:=U.trans s6;refine⟨pa,w1,xs,e+1,[1],gs,J,Dy.seq Y,hg.same Dy,I,{},au.of kZ,by simp,(λx hx=>by rw[eD hx];exact .inr J),λH7 D7 z7 s7 lh J9 me=>?_⟩;rw[el]at me;have B7:aE H7 e z7 (gs.map (bT e 1)):=me;refine⟨D7,z7,e,_,J,ao.of lh,B7,by rw[ZK];lia,λH8 D8 z8 s8 Vv Vu Vb=>?_⟩;refine⟨least+2^e,part,floor,D8,z8,bJ (gs.map (bT e 1)),J,ao.of Vv,Vb,n8 (M 1),?_,by rw[ql,bQ I];exact S 1,og,Vd,λH9 D9 z9 s9 Vt ab3 Z=>?_⟩
  ·exact ZT (length_filter_le _ _) (by rw[ZK];exact hl)
  rw[ql,bQ I]at Z;have N:=((s6.trans s7).trans s8).trans s9;have Vw:=N _ _ oj;have UH:=MA t_ N;refine⟨D5,D9,z5,z9,J,J,Vw,Vt,sz (by rw[t_.1,Z.1,<- ZM];lia),λD O=>?_⟩;exact q _ D _ ((U.trans N).trans (aM O _)) ax ((U.trans N).free O) (MA (UH.app Z) (aM O _))
def Fx:z.C P w 45 "worths_in" qw (Sx K):=by
 have sc:=Qk;specialize z.jQ;obtain⟨b,ga,xs,low,L,gs,rfl,Y,hL,N,hg,M,hl,hw,q⟩:=h;exists _,(az (aC (Sh z) hr (dA (aG bh kb ah) (dI (aC (tU z) hr (ar (aG bh kb ah))) (aC (n6 z) hr (ar kv)) ah ah))))
 symm;refine⟨_,_,Y,J,_,_,Y,J,L,J,hL,ga,xs,L,gs,J,N,hg,{},λH1 D1 z1 W U Z O=>?_⟩;refine⟨L,hL,low,1,0,D1,z1,bJ gs,J,ao.of U,O,n8 M,ZT (length_filter_le _ _) hl,by rw[ql];exact hw,∅,∅,λH2 D2 z2 s2 S I B=>?_⟩;rw[ql]at B;exact q H2 D2 z2 (W.trans s2) S (W.free I) B
def wI:z.C P w 46 "most" qw (zF K):=by
 have sc:=uK;specialize z.Cf;obtain⟨b,ga,xs,low,L,gs,rfl,hb,hL,eG,hg,Z,hl,hw,q⟩:=h;refine⟨_,(aj (aF 2 sc.nd dG)
 (aj (pO bn J (cw (aC (Fx z) hr (aY kb kv))) (cq 3 sc.nd)
 (bF (aW (PW.pt (pw_or (aN AX bv dG) (yc (aN cD (aG bh bi ah) (aG bh bv ah)))))
 (bF (aF 2 sc.nd bi)))))
 (az bv))),?_⟩
 symm;refine⟨b,ga,xs,low,L,gs,J,hb,hL,eG,hg,Z,hl,hw,λH1 D1 z1 s1 U Vy N=>?_⟩;generalize cX 1 0 L low (Wh gs)=ps at *;refine⟨D1,J,⟨_,ao.of U⟩,iT (K:=K) (a:=D1) (xs:=z1) (λj σ H2=>aO λ(I:V) (Y:Option V)=>aP (σ=[some (.ref b),some (.ref ga),some I,Y]) (H2=H1) (xQ H1 I ((ps.take j).foldl cQ none))) ⟨.bf,none,J,J,J⟩ (λj σ H2 _ ⟨_,_,_,e,_⟩=>by rw[e];exact ao.of U) ?_ ?_⟩
 ·rintro j x σ H2 hx ⟨I,Y,rfl,rfl,B⟩;obtain⟨p,gp,M⟩:=N.get hx;have et:(ps.take (j+1)).foldl cQ none=cQ ((ps.take j).foldl cQ none) p:=by rw[WK,gp,foldl_append];rfl
  generalize (ps.take j).foldl cQ none=bo at *;exists J;cases bo with
  | none=>cases(show I = .bf from B);refine ay (λ_=>?_) (λc=>absurd J c);exists x,_,J,J;rw[et];exact M
  | some W=>
   obtain⟨ab,rfl,S⟩:=B;obtain⟨ap,rfl,O⟩:=M;refine ay (λc=>absurd (ZI c) (by intro z;cases z)) (λ_=>?_);exists _,_,au.of O,J,_,_,au.of S,J;refine ay (λc=>?_) (λc=>?_)
   ·exists _,_,J,J;rw[et];show xQ H2 _ (if p.2 > W.2 then some p else some W);rw[ZL (ZI c)];exact⟨ap,J,O⟩
   ·exists _,_,J,J;rw[et];show xQ H2 _ (if p.2 > W.2 then some p else some W);rw[ZJ (λz=>c (ZG z))];exact⟨ab,J,S⟩
 ·rintro σ H2 ⟨I,Y,rfl,rfl,B⟩;rw[N.1,WR]at B;exact q _ I s1 B
def lO(K:Fg)(H:Hp)(a:Addr)(xs:List V):Prop:=
 (∃ o,H a=some (.cx o (.lst xs))) \/
  bR λ(o:Obj) (B:Array Value) (n:Nat)=>gB (K.lookup a=some o) (o.cls = .type "list") (o.dict=none) (o.data = .seq B n) (B.size<=sizeLine) (Vals xs B.toList)
def lO.sq(h:lO K H a xs):ao K H a xs:=by
 rcases h with h | h
 ·exact .inl (.inr h)
 ·exact .inr h
def lO.same(h:lO K H a xs)(s:ag H H'):lO K H' a xs:=by
 rcases h with ⟨o,h⟩ | h
 ·exact .inl ⟨o,s _ _ h⟩
 ·exact .inr h
def lO.keep(h:lO K H a xs)(k:aq p H H')(e:H p=some (.lst ys)):lO K H' a xs:=by
 rcases h with ⟨B,h⟩ | h
 ·exact .inl ⟨B,k _ _ (bc h e (by intro z;cases z)) h⟩
 ·exact .inr h
def aJ(H:Hp)(pen:Addr):Prop:=bR λ(c:Int) (b:Bool) (n:Int)=>H pen=some (.lst [.int c,.bl b,.int n])
def aJ.same(p:aJ H pen)(s:ag H H'):aJ H' pen:=by obtain⟨c,b,n,h⟩:=p;exact⟨c,b,n,s _ _ h⟩
def aJ.new(p:aJ H pen)(h:H q=none)(o:HO):aJ (upd H q o) pen:=p.same (aM h o)
def aJ.at(p:aJ H pen):∃ xs,H pen=some (.lst xs):=by obtain⟨c,b,n,h⟩:=p;exact⟨_,h⟩
def aJ.ne(p:aJ H pen)(h:H b=some (.tup xs)):b≠pen:=by obtain⟨ys,e⟩:=p.at;exact bc h e (by intro z;cases z)
def aJ.fresh(p:aJ H pen)(h:H b=none):b≠pen:=by obtain⟨ys,e⟩:=p.at;exact Ne.symm (cO e h)
def aJ.other(p:aJ H pen)(hq:q≠pen)(o:HO):aJ (upd H q o) pen:=by obtain⟨c,b,n,e⟩:=p;exact⟨c,b,n,by rw[bC (Ne.symm hq)];exact e⟩
def aJ.keep(p:aJ H pen)(hq:q≠pen)(k:aq q H H'):aJ H' pen:=by obtain⟨c,b,n,e⟩:=p;exact⟨c,b,n,k _ _ (Ne.symm hq) e⟩
def aJ.tk(p:aJ H pen)(k:aq pen H H'):aw H H':=by obtain⟨xs,e⟩:=p.at;exact aw.keep k e
def aJ.free(p:aJ H' pen)(k:aq pen H H')(h:H' l=none):H l=none:=by obtain⟨xs,e⟩:=p.at;exact k.free h e
def aJ.Ym(p:aJ H pen)(k:aq pen H H')(h:lO K H a xs):lO K H' a xs:=by obtain⟨ys,e⟩:=p.at;exact h.keep k e
inductive kC(K:Fg)(vs:List V)(H:Hp)(Q:VK)(E:XK):Prop
 |mk(a:Addr)(ns:List Int)(k:Int)(_:vs=[.ref a,.int k])(_:ao K H a (ns.map V.int))(_:ns.length<=63)(_:0<=k)(_:k<1000)(_:∀(p:Addr)(H':Hp),H p=none->ag H H'->aJ H' p->Q (.ref p) H')
inductive iK(u0:Fg)(vs:List V)(H:Hp)(Q:VK)(E:XK):Prop
 |mk(pen:Addr)(_:vs=[.ref pen])(_:aJ H pen)(_:∀(v:Int)(H':Hp),aq pen H H'->aJ H' pen->0<=v->Q (.int v) H')
inductive Hw(u0:Fg)(vs:List V)(H:Hp)(Q:VK)(E:XK):Prop
 |mk(pen:Addr)(size:Int)(_:vs=[.ref pen,.int size])(_:aJ H pen)(_:0<size)(_:size<10^60)(_:∀(v:Int)(H':Hp),aq pen H H'->aJ H' pen->0<=v->v<size->Q (.int v) H')
inductive Iu(u0:Fg)(vs:List V)(H:Hp)(Q:VK)(E:XK):Prop
 |mk(pen:Addr)(_:vs=[.ref pen])(_:aJ H pen)(_:∀(b:Addr)(low:Int)(L:Nat)(H':Hp),aq pen H H'->aJ H' pen->H' b=some (.tup [.int low,.int (L:Int)])->L<=40 -> -(10^40)<low->low<10^40->Q (.ref b) H')
inductive pY(u0:Fg)(vs:List V)(H:Hp)(Q:VK)(E:XK):Prop
 |mk(pen b:Addr)(low g:Int)(L:Nat)(_:vs=[.ref pen,.ref b,.int g])(_:aJ H pen)(_:H b=some (.tup [.int low,.int (L:Int)]))(_:L<=40)(_:0<=g)(_:g<=60)(_:∀(r:Addr)(ns:List Int)(H':Hp),aq pen H H'->aJ H' pen->H' r=some (.lst (ns.map V.int))->H r=none->(ns.length:Int)<=g->bz low L ns->Q (.ref r) H')
def Zc:St->Nat:=λσ=>match σ[3]? with
 | some (some (V.int m))=>m.toNat
 | _=>0
def kO:z.C P w 1 "_law_pen" ["_law_script", "_law_k"] (kC K):=by
 have sc:=Pd;specialize z.lK;obtain⟨a,ns,k,rfl,S,VC,h0,hk,q⟩:=h;refine⟨_,(aj (aF 2 sc.nd (ae dk (ae m5 ah kv) ah))
 (aj (qo (aN bS kv (dH z.bE (ar kb)))
 (bF (aF 2 sc.nd (aG cS kb kv)))
 (bF (aW (aN cD (dH z.bE (ar kb)) ah)
 (bF (aF 2 sc.nd (ae dk bv (ae js (aG cS kb (ae js kv (dH z.bE (ar kb)))) (ae Hu ah ah))))))))
 (az (tS (bW bv (ki gA bv (ae Hu ah ah)) ah))))),?_⟩
 symm;have O:(ns.map V.int).length=ns.length:=ZK _;exists _,_,J,J,.inl ⟨∅,∅⟩;exists a,_,J,.inl S;refine ay (λc=>?_) (λc=>?_)
 ·have W:k<(((ns.map V.int).length:Nat):Int):=ZI c;rw[O]at W;obtain⟨v,_,M⟩:=vM h0 W;exists _,_,S,M;exact⟨_,_,J,J,⟨∅,∅,∅⟩,_,_,J,J,aZ J,λp hp _ Z B=>q p _ hp Z ⟨_,_,_,B⟩⟩
 ·exists a,_,J,.inl S;refine ay (λU=>?_) (λU=>?_)
  ·have I:(0:Int)<(((ns.map V.int).length:Nat):Int):=ZI U;have Y:0<=k%(((ns.map V.int).length:Nat):Int):=Int.emod_nonneg _ {};have N:k%(((ns.map V.int).length:Nat):Int)<(((ns.map V.int).length:Nat):Int):=Int.emod_lt_of_pos _ I;obtain⟨v,_,M⟩:=vM (l:=ns) Y (by rw[O]at N ⊢;exact N);exists a,_,J,.inl S,_,_,J,J,I,_,_,S,M,_,_,J,J,⟨∅,∅,∅⟩,_,_,J,J,(by show(0:Int)<10^15;decide)
   exact⟨_,_,J,J,⟨∅,∅,∅⟩,_,_,J,J,aZ J,λp hp _ Z B=>q p _ hp Z ⟨_,_,_,B⟩⟩
  ·exact⟨_,_,J,J,⟨∅,∅,∅⟩,_,_,J,J,aZ J,λp hp _ Z B=>q p _ hp Z ⟨_,_,_,B⟩⟩
def HP:z.C P w 1 "_law_mixed" jB (iK K):=by
 have sc:=QF;specialize z.i9;obtain⟨pen,rfl,⟨c,b,n,hp⟩,q⟩:=h;refine⟨_,(aj (HI (ae dk (aG cS kb ah) ah) (qB kb ah uY))
 (aj (aF 1 sc.nd (ae js (ae m5 (ae dk (ae js (aG cS kb ah) ah) (ae m5 ah (aG cS kb ah))) ah) ah))
 (aj (aF 1 sc.nd (ae js (ae m5 (ae dk kv (ae m5 ah (aG cS kb ah))) (ae dk kv ah)) ah))
 (az (ae vS kv ah))))),?_⟩
 symm;exists _,_,ao.of hp,J,pen,_,_,2,J,J,hp,J;exists _,_,ao.of ax,J,_,_,J,J,(by show(0:Int)<2147483647;decide),_,_,ao.of ax,J,_,_,J,J,.inl ⟨∅,∅⟩,_,_,J,J,.inr ⟨∅,∅⟩,_,_,J,J,(by show(0:Int)<2147483629;decide)
 exists _,_,ao.of ax,J,_,_,J,J,.inl ⟨∅,∅⟩,_,_,J,J,.inr ⟨{},{}⟩,_,_,J,J,(by show(0:Int)<2147483587;decide)
 exists _,_,J,J,⟨∅,∅⟩
 exact q _ _ (aq.set pen H _) ⟨_,_,_,ax⟩ (Int.ediv_nonneg (Int.emod_nonneg _ ∅) ∅)
def fO:z.C P w 2 "_law_take" ["_law_pen_here", "_law_size"] (Hw K):=by
 have sc:=Qf;specialize z.jY;obtain⟨pen,size,rfl,N,B,O,q⟩:=h;refine⟨_,(aj (aW (uQ (aG cS kb ah))
 (aj (aF 2 sc.nd (ae js (aG cS kb ah) kv))
 (aj (HI (ae vS (aG cS kb ah) kv) (qB kb ah uY))
 (az bv))))
 (aj (aF 2 sc.nd (aC (HP z) hr (ar kb)))
 (aj (aF 3 sc.nd kv)
 (aj (vy bn (aN cD bi (ae Hu ah ah))
 (aj (aF 2 sc.nd (ae dk (ae m5 bv ah) (aC (HP z) hr (ar kb))))
 (bF (aF 3 sc.nd (ae vS bi (ae Hu ah ah))))))
 (az (ae js bv kv)))))),?_⟩
 symm;obtain⟨c,b,n,hp⟩:=id N;exists _,_,ao.of hp,J,b,J;refine ay (λ_=>?_) (λ_=>?_)
 ·exists _,_,ao.of hp,J,_,_,J,J,B;exists _,_,ao.of hp,J,_,_,J,J,⟨B,O⟩,pen,_,_,0,J,J,hp,J;exact q _ _ (aq.set pen H _) ⟨_,_,_,ax⟩ (Int.emod_nonneg _ {}) (Int.emod_lt_of_pos _ B)
 ·refine⟨_,J,N,λv H1 U P1 v0=>?_⟩;refine u5 (λσ H2=>aO λ(f wd:Int)=>aP (σ=[some (.ref pen),some (.int size),some (.int f),some (.int wd)]) (aq pen H H2) (aJ H2 pen)) (λσ _=>Zc σ) ⟨v,size,J,U,P1⟩ ?_ ?_
  ·rintro σ H2 ⟨f,wd,rfl,I,P2⟩;exists _,_,J,J,⟨∅,∅,∅⟩
   refine ay (λM=>?_) (λM=>?_)
   ·have c2':(10:Int)^8<wd:=ZI M;refine⟨_,_,J,J,.inr ⟨∅,∅⟩,_,J,P2,λv3 H3 S P3 _=>?_⟩;exists _,_,J,J,⟨∅,∅,∅⟩,_,_,J,J,⟨∅,∅⟩,⟨_,_,J,I.trans S,P3⟩
    show(wd/(10:Int)^8).toNat<wd.toNat;lia
   ·exists _,_,J,J,B;exact q _ _ I P2 (Int.emod_nonneg _ {}) (Int.emod_lt_of_pos _ B)
  ·intro σ H2 Q1 Q2 hq h;dsimp only [l8,tO,KJ]at h ⊢;cases e:σ[3]? with
   | none=>rw[e]at h;cases h
   | some o=>
    rw[e]at h;cases o with
    | none=>cases h
    | some v=>
     obtain⟨i,j,Z,Y,W,h⟩:=h;exists i,j,Z,Y,W;cases v with
      | int _=>exact hq _ _ h
      | _=>exact h
def Ro:z.C P w 3 "_law_bounds" jB (Iu K):=by
 have sc:=Rx;specialize z.h_;obtain⟨pen,rfl,Y,q⟩:=h;refine⟨_,(aj (aF 1 sc.nd (aG cS (zX (dA ah (dA ah (dA ah (dA ah (dI ah ah ah ah)))))) (aC (fO z) hr (aY kb ah))))
 (aj (aF 2 sc.nd (aC (fO z) hr (aY kb ah)))
 (aj (aF 3 sc.nd (aC (fO z) hr (aY kb (aG cS (zX (dI ah ah ah (ae lW (ae m5 ah (ae Hu ah ah)) ah))) bv))))
 (az (vj (aY (aG cS (zX (dI ah (ae lW ah bi) (ae lW (ae lW (ae Hu ah ah) ah) bi) (ae dk (ae lW bi (ae Hu ah ah)) ah))) bv) kv)))))),?_⟩
 symm;refine⟨aZ J,λp hp=>?_⟩;refine⟨pen,8,J,Y.new hp _,∅,∅,λv1 H1 U P1 a1 b1=>?_⟩;obtain⟨Z,hm,hv⟩:=vM (l:=[0,1,2,3,4,5,8,40]) a1 b1;have hL:0<=Z/\Z<=40:=by simp only[mem_cons,not_mem_nil,or_false]at hm;lia
 obtain⟨L,rfl⟩:=Int.eq_ofNat_of_zero_le hL.1;have O:L<=40:={}
 exists _,_,ao.of (U _ _ (Y.fresh hp) ax),hv;refine⟨pen,4,J,P1,∅,∅,λB H2 k2 P2 a2 b2=>?_⟩;have N:aq pen H H2:=(aq.new hp _).trans (U.trans k2);obtain⟨S,hS,S0,S1,UQ⟩:∃ S:Int,cP (fC [V.int 1,.int 20,.int 9,.int (2*10^(40:Int).toNat-1)] B=some (.int S)) (0<S) (S<10^60) (∀ x:Int,0<=x->x<S ->
   ∃ y:Int,aP (fC [V.int 0,.int (0-x),.int (10^(40:Int).toNat-1-x),.int (x-10^(40:Int).toNat+1)] B=some (.int y)) (-(10^40)<y) (y<10^40)):= by
  have h4:B=0\/B=1\/B=2\/B=3:={}
  rcases h4 with rfl | rfl | rfl | rfl
  ·exact⟨1,J,∅,∅,λx _ _=>⟨0,J,∅,∅⟩⟩
  ·exact⟨20,J,∅,∅,λx _ _=>⟨_,J,{},{}⟩⟩
  ·refine⟨9,J,∅,∅,λx _ _=>⟨_,J,?_,?_⟩⟩
   ·show -(10^40)<(10:Int)^40-1-x;lia
   ·show(10:Int)^40-1-x<10^40;lia
  ·refine⟨_,J,∅,∅,λx x0 x1=>⟨_,J,?_,?_⟩⟩
   ·show -(10^40)<x-(10:Int)^40+1;lia
   ·show x-(10:Int)^40+1<10^40;have x1':x<2*(10:Int)^40-1:=x1;lia
 refine⟨_,_,J,J,⟨∅,∅,∅⟩,_,_,J,J,.inl ⟨∅,∅⟩,aZ J,λp2 M=>?_⟩;refine⟨_,_,ao.of ax,hS,pen,_,J,P2.new M _,S0,S1,λv3 H3 k3 P3 a3 b3=>?_⟩;obtain⟨y,hy,y0,y1⟩:=UQ v3 a3 b3;refine⟨_,_,J,J,⟨∅,∅,∅⟩,_,_,J,J,⟨∅,∅,∅⟩,aZ J,λp3 I=>?_⟩;refine⟨_,_,ao.of ax,hy,aZ J,λb W=>?_⟩;exact q b y L _ (N.trans ((aq.new M _).trans (k3.trans ((aq.new I _).trans (aq.new W _))))) ((P3.new I _).new W _) ax O y0 y1
def Ab:z.C P w 3 "_law_row" KZ (pY K):=by
 have sc:=Pc;specialize z.lJ;obtain⟨pen,b,low,g,L,rfl,P0,hb,hL,g0,g1,q⟩:=h;refine⟨_,(aj (HI kv (IE J (cF (cq 3 sc.nd) (cF (cq 4 sc.nd) jq))))
 (aj (aF 5 sc.nd (ae u4 ah (pr 4)))
 (aj (aF 6 sc.nd (aC (fO z) hr (aY kb ah)))
 (aj (GR (i:=7) (cl:=[("_law_size", s.heap.objs.size+1+1),("_law_pen_here", s.heap.objs.size+1+0)]) (cn:=["_law_size", "_law_pen_here"]) (N:=["_law_pen_here", "_law_size"]) (fr:=[0,5]) (bB:=aI A2) sc.nd J (Or.inl J) J (jo J z.cz (ar ah)) (λC s₂ H₂ fp=>(aC (fO z) hr (aY kv bv))) (by ac_rfl) ⟨by ac_rfl,by ac_rfl,trivial⟩ J J J eT J (by ac_rfl) (.inl J))
 (aj (aF 8 sc.nd (zX fU))
 (aj (pO bn J (jo J z.cz (ar (aC (fO z) hr (aY kb (ae dk bv ah))))) (cq 9 sc.nd)
 (aj (aF 10 sc.nd (aC (fO z) hr (aY kb (aG cS (zX (dI (pr 5) (pr 5) ah (cK (Ny J) () z.TF Cj (aY (pr 5) ah)))) (pr 6)))))
 (aj (aW (aN av (pr 6) ah)
 (bF (aF 10 sc.nd (aG cS (pr 7) (pr 10)))))
 (aj (aW (aN av (pr 6) ah)
 (bF (aF 10 sc.nd (ae js (ae dk (aG cS (pr 7) ah) (pr 10)) (pr 5)))))
 (bF (d6 (bG YF YM YN ke (pr 8) (ar (ae dk bi (pr 10))))))))))
 (az (pr 8)))))))),?_⟩
 symm;have hp:=b7 L;have hq:=qH hL;exists b,_,J,au.of hb,J,_,_,J,_,_,J,J;exists _,_,J,J,⟨{},{},∅⟩
 dsimp only;rw[F1];refine⟨pen,4,J,P0,∅,∅,λB H1 k1 P1 w0 w1=>?_⟩;refine⟨3,J,∅,∅,λD hD=>?_⟩;have Ka:H D=none:=P1.free k1 hD;have I:D≠pen:=P1.fresh hD;refine A5 (n:=3) (sz ∅) (λj ys H6=>∃ fs:List Int,gB (ys=fs.map V.int) (fs.length=j) ((∀ x∈fs,0<=x/\x<(2:Int)^L)) (H6 D=some (.lst ys)) (aq pen H H6) (aJ H6 pen)) ⟨[],J,J,λx hx=>absurd hx (by simp),ax,k1.own Ka,P1.new hD _⟩ (λj ys H6 ⟨fs,e1,e2,_,e3,_,_⟩=>⟨e3,by rw[e1,ZK];exact e2⟩) ?_ ?_
 ·rintro j ys H6 hj ⟨fs,e1,e2,e4,e3,k6,P6⟩;refine⟨pen,_,J,P6,hp,{},λu3 H7 k7 P7 z0 z1=>?_⟩;have rZ:H7 D=some (.lst ys):=k7 _ _ I e3;refine⟨rZ,fs++[u3],by rw[WF,e1] <;> rfl,by rw[ZM,e2] <;> rfl,λx hx=>?_,ax,(k6.trans k7).own Ka,P7.other I _⟩;rcases eC hx with h' | h'
  ·exact e4 x h'
  ·cases eD h';exact⟨z0,z1⟩
 ·rintro ys H6 ⟨fs,e1,e2,e4,e3,k6,P6⟩;rw[e1]at e3;refine⟨aZ J,λr hr=>?_⟩;have Lf:H r=none:=P6.free k6 hr;have W7:D≠r:=cO e3 hr;have Us:r≠pen:=P6.fresh hr;have P7:aJ (upd H6 r (.lst [])) pen:=P6.new hr _;refine⟨pen,_,J,P7,{},{},λm H7 k7 P7 m0 m1=>⟨m,J,{},{},Ed (n:=m.toNat) (λi σ Y=>bR λ(ns:List Int) (v9 Z:Option V)=>nY (σ=[some (.ref pen),some (.ref b),some (.int g),some (.int low),some (.int (L:Int)),some (.int (2^L)),some (.int B),some (.ref D),some (.ref r),v9,Z]) (Y r=some (.lst (ns.map V.int))) (ns.length=i) (bz low L ns) (Y D=some (.lst (fs.map V.int))) (aq pen H Y) (aJ Y pen)) ⟨[],_,_,J,k7 _ _ Us ax,J,λx hx=>absurd hx (by simp),k7 _ _ I (by rw[bC W7];exact e3),(k6.own Lf).trans k7,P7⟩ ?_ ?_⟩⟩
  ·rintro i σ Y hi ⟨ns,v9,Z,rfl,Ux,UU,Ug,U,k8,P8⟩;obtain⟨S,hS,S0,S1,S2,S3⟩:∃ S:Int,dw (fC [V.int (2^L),.int (2^L),.int 3,.int (if(5:Int)<2^L then 5 else 2^L)] B=some (.int S)) (0<S) (S<10^60) ((B=2->S=3)) ((B≠2->S<=2^L)):= by
    have h4:B=0\/B=1\/B=2\/B=3:={}
    rcases h4 with rfl | rfl | rfl | rfl
    ·exact⟨_,J,hp,{},λz=>absurd z ∅,λ_=>WT _⟩
    ·exact⟨_,J,hp,{},λz=>absurd z ∅,λ_=>WT _⟩
    ·exact⟨3,J,∅,∅,λ_=>J,λz=>absurd J z⟩
    ·refine⟨_,J,?_,?_,λz=>absurd z ∅,λ_=>?_⟩
     ·split <;> lia
     ·split <;> lia
     ·split <;> lia
   have fin:∀(y:Int)(v:Option V)(M:Hp),0<=y->y<2^L->aq pen Y M->aJ M pen->M r=some (.lst (ns.map V.int))/\(ns.map V.int).length<sizeLine /\
     bR λ(Tu:List Int) (X4 LP:Option V)=>nY ([some (V.ref pen),some (.ref b),some (.int g),some (.int low),some (.int (L:Int)),some (.int (2^L)),some (.int B),some (.ref D),some (.ref r),some (.int (0+(i:Int))),v]=[some (V.ref pen),some (.ref b),some (.int g),some (.int low),some (.int (L:Int)),some (.int (2^L)),some (.int B),some (.ref D),some (.ref r),X4,LP]) ((upd M r (.lst (ns.map V.int++[.int (low+y)]))) r=some (.lst (Tu.map V.int))) (Tu.length=i+1) (bz low L Tu) ((upd M r (.lst (ns.map V.int++[.int (low+y)]))) D=some (.lst (fs.map V.int))) (aq pen H (upd M r (.lst (ns.map V.int++[.int (low+y)])))) (aJ (upd M r (.lst (ns.map V.int++[.int (low+y)]))) pen):= by
    intro y v M y0 y1 k9 P9;have Z7:=k9 _ _ Us Ux;have Vt:=k9 _ _ I U;refine⟨Z7,by rw[ZK,UU];exact fM {},ns++[low+y],_,_,J,?_,by rw[ZM,UU] <;> rfl,Ug.snoc {} {},by rw[bC W7];exact Vt,(k8.trans k9).own Lf,P9.other Us _⟩;rw[ax,WF];rfl
   refine⟨_,_,J,aZ J,λp2 oa=>?_⟩;refine⟨_,_,ao.of ax,hS,pen,_,J,P8.new oa _,S0,S1,λu M k9 P9 u0 u1=>?_⟩;have O:aq pen Y M:=(aq.new oa _).trans k9;exists J;refine ay (λc=>?_) (λc=>?_)
   ·have c':B=2:=V.int.inj (ZI c);have e3S:=S2 c';obtain⟨fv,hm,hv⟩:=vM (l:=fs) (i:=u) u0 {};obtain⟨y0,y1⟩:=e4 fv hm;exists _,_,ao.of (O _ _ I U),hv;exists J;refine ay (λc3=>?_) (λc3=>?_)
    ·have c3':B=3:=V.int.inj (ZI c3);lia
    ·obtain⟨W,f2,f3⟩:=fin fv (some (.int fv)) M y0 y1 O P9;exact⟨.inl ⟨J,_,ao.of W⟩,r,_,_,J,J,W,f2,f3⟩
   ·have c':B≠2:=λz=>c (ZG (by rw[z]));have e3S:=S3 c';exists J;refine ay (λc3=>?_) (λc3=>?_)
    ·obtain⟨f0,hm,hv⟩:=vM (l:=fs) (i:=0) {} {};have b0:0<=(f0+u)%(2:Int)^L:=Int.emod_nonneg _ {};have b1:(f0+u)%(2:Int)^L<2^L:=Int.emod_lt_of_pos _ hp;exists _,_,ao.of (O _ _ I U),hv,_,_,J,J,hp;obtain⟨W,f2,f3⟩:=fin ((f0+u)%(2:Int)^L) (some (.int ((f0+u)%(2:Int)^L))) M b0 b1 O P9;exact⟨.inl ⟨J,_,ao.of W⟩,r,_,_,J,J,W,f2,f3⟩
    ·obtain⟨W,f2,f3⟩:=fin u (some (.int u)) M u0 {} O P9;exact⟨.inl ⟨J,_,ao.of W⟩,r,_,_,J,J,W,f2,f3⟩
  ·rintro σ Y ⟨ns,v9,Z,rfl,Ux,UU,Ug,U,k8,P8⟩;exact q r ns _ k8 P8 Ux Lf {} Ug
def BL(B n:Int):Int:=if n<B then 0 else 1
def TK(B:Int):Int->Bool:=λn=>decide (n<B)
def U8(B:Int):Int->Bool:=λn=>decide (B<=n)
def Fw{low:Int}{e:Nat}{ns:List Int}(h:ns≠[]):grow low (e+1) ns = .part (ns.map (BL (low+2^e))) (grow low e (ns.filter (TK (low+2^e)))) (grow (low+2^e) e (ns.filter (U8 (low+2^e)))):=SS h
theorem gJ(d:Int)(e:Nat)(low:Int)(ns:List Int):grow (low+d) e (ns.map λn=>n+d)=grow low e ns:=by
 induction e generalizing low ns with
 | zero=>
  by_cases h:ns=[]
  ·rw[h];rfl
  ·rw[vE h,vE (by simpa using h),ZK]
 | succ e i=>
  by_cases h:ns=[]
  ·rw[h];rfl
  ·have h2:(ns.map λn=>n+d)≠[]:=by simpa using h
   rw[Fw h,Fw h2];have M:(ns.map λn=>n+d).map (BL (low+d+2^e))=ns.map (BL (low+2^e)):=by
    rw[map_map];refine map_congr_left λn _=>?_;show(if n+d<low+d+2^e then(0:Int)else 1)=if n<low+2^e then 0 else 1;by_cases c:n<low+2^e
    ·rw[ZL c,ZL {}]
    ·rw[ZJ c,ZJ {}]
   have I:(ns.map λn=>n+d).filter (TK (low+d+2^e))=(ns.filter (TK (low+2^e))).map λn=>n+d:=by
    rw[filter_map];congr 1;refine List.filter_congr λn _=>?_;show decide (n+d<low+d+2^e)=decide (n<low+2^e);by_cases c:n<low+2^e
    ·rw[ZG c,ZG {}]
    ·rw[ZS c,ZS {}]
   have B:(ns.map λn=>n+d).filter (U8 (low+d+2^e))=(ns.filter (U8 (low+2^e))).map λn=>n+d:=by
    rw[filter_map];congr 1;refine List.filter_congr λn _=>?_;show decide (low+d+2^e<=n+d)=decide (low+2^e<=n);by_cases c:low+2^e<=n
    ·rw[ZG c,ZG {}]
    ·rw[ZS c,ZS {}]
   rw[M,I,B,i,show low+d+2^e=(low+2^e)+d by lia,i]
theorem mK:∀(e:Nat)(os:List Int),bY e os=grow 0 e os
 | 0,os=>rfl
 | e+1,os=>by
  by_cases h:os=[]
  ·rw[h,qj,vq]
  ·rw[m9 h,SS h,mK e,mK e];have z:(0:Int)+2^e=2^e:=Int.zero_add _;rw[z];have B:=gJ (2^e) e 0 ((os.filter λo=>decide ((2:Int)^e<=o)).map λo=>o-2^e);rw[map_map,z]at B;have I:((os.filter λo=>decide ((2:Int)^e<=o)).map ((λn=>n+2^e)∘λo=>o-2^e))=os.filter λo=>decide ((2:Int)^e<=o):=by rw[show((λn:Int=>n+2^e)∘λo=>o-2^e)=id from funext λo=>by show o-2^e+2^e=o;lia,map_id]
   rw[I]at B;rw[<- B];rfl
def EL(low:Int)(e:Nat)(ns:List Int):grow low e ns=bY e (ns.map λn=>n-low):=by rw[mK,<- gJ low e 0,map_map,Int.zero_add];congr 1;rw[show((λn:Int=>n+low)∘λn=>n-low)=id from funext λo=>by show o-low+low=o;lia,map_id]
section
open PySem.NumText
def fg(n:Int):List Nat:=(Str.ofString (toString n)).cps.toList
def tx(n:Int):Str:=Str.ofString (toString n)
def bI(l:List Nat):Str:=⟨l.toArray⟩
def qU(l:List Nat):(bI l).cps.toList=l:=rfl
def zE(x:Str):bI x.cps.toList=x:=rfl
def Ey(l:List Nat):(bI l).length=l.length:=by show l.toArray.size=_;simp
def Ij(a b:List Nat):bI a++bI b=bI (a++b):=Str.ext' (by
 rw[Str.cps_append];show a.toArray++b.toArray=(a++b).toArray;simp)
def Gp{x y:Str}(h:x.cps.toList=y.cps.toList):x=y:=by rw[<- zE x,<- zE y,h]
def R9(m:Nat):fg (m:Int)=(Nat.toDigits 10 m).map Char.toNat:=PySem.W.KIN.signs_num m
def DS(m:Nat):fg (-((m+1:Nat):Int))=45::fg ((m+1:Nat):Int):=by rw[R9];unfold fg;rw[PyProof.Rows.signs_ofString];show("-" ++ Nat.repr (m+1)).toList.map Char.toNat=_;rw[String.toList_append,WF,Nat.toList_repr];rfl
def Aa{m:Nat}(h:¬ m<10):Nat.toDigits 10 m=Nat.toDigits 10 (m/10)++[Nat.digitChar (m%10)]:=by have hm:m%10<10:=Nat.mod_lt m ∅;have t:Nat.toDigits 10 (m/10)++Nat.toDigits 10 (m%10)=Nat.toDigits 10 (10*(m/10)+m%10):=Nat.toDigits_append_toDigits ∅ {} hm;rw[Nat.div_add_mod,Nat.toDigits_of_lt_base hm]at t;exact t.symm
def se:∀ d:Nat,d<10->48<=(Nat.digitChar d).toNat/\(Nat.digitChar d).toNat<=57:=∅
def xu:∀ d:Nat,d<10->(Nat.digitChar d).toNat=48->d=0:=∅
theorem SQ(m:Nat):∀ c∈fg (m:Int),48<=c/\c<=57:=by
 rw[R9]
 induction m using Nat.strongRecOn with
 | _ m I=>
  by_cases h:m<10
  ·rw[Nat.toDigits_of_lt_base h];intro c B;have e:c=(Nat.digitChar m).toNat:=by simpa using B
   rw[e];exact se m h
  ·rw[Aa h];intro c B;rw[WF,mem_append]at B;rcases B with B | B
   ·exact I (m/10) {} c B
   ·have e:c=(Nat.digitChar (m%10)).toNat:=by simpa using B
    rw[e];exact se _ (Nat.mod_lt _ ∅)
def rT(k:Nat):∀ m:Nat,m<10^(k+1)->1<=(fg (m:Int)).length/\(fg (m:Int)).length<=k+1:=by
 induction k with
 | zero=>intro m h;rw[R9,Nat.toDigits_of_lt_base (by simpa using h)];exact⟨ZF _,ZF _⟩
 | succ k B=>
  intro m h;by_cases c:m<10
  ·rw[R9,Nat.toDigits_of_lt_base c];exact⟨ZF _,by show 1<=_;lia⟩
  ·have hd:m/10<10^(k+1):=by rw[Nat.pow_succ]at h;exact Nat.div_lt_of_lt_mul (by rw[Nat.mul_comm];exact h)
   have z:=B (m/10) hd;rw[R9]at z ⊢;rw[Aa c,WF,ZM];show 1<=_+1/\_+1<=_;lia
def xo(m:Nat):fg (m:Int)=[48]\/aO λc r=>fg (m:Int)=c::r/\c≠48:=by
 rw[R9]
 induction m using Nat.strongRecOn with
 | _ m B=>
  by_cases h:m<10
  ·rw[Nat.toDigits_of_lt_base h];by_cases z:m=0
   ·subst z;exact .inl J
   ·exact .inr ⟨_,[],J,λe=>z (xu m h e)⟩
  ·rw[Aa h,WF];rcases B (m/10) {} with e | ⟨c,r,e,I⟩
   ·exfalso;have z:digitsVal ((Nat.toDigits 10 (m/10)).map Char.toNat)=m/10:=PySem.W.KIN.val_back (m/10);rw[e]at z;have M:(0:Nat)=m/10:=z;lia
   ·exact .inr ⟨c,r++_,by rw[e];rfl,I⟩
def rS(m:Nat):digitsVal (fg (m:Int))=m:=by rw[R9];exact PySem.W.KIN.val_back m
def bV(c:Nat):Bool:=decide (c∈("0123456789" : Str).cps.toList)
def R8(c:Nat):bV c=true↔48<=c/\c<=57:=by
 by_cases h:c<58
 ·exact(⟨⟩:∀ c<58,bV c=true↔48<=c/\c<=57) c h
 ·exact⟨λe=>absurd ((⟨⟩:∀ x∈("0123456789" : Str).cps.toList,x<58) c (of_decide_eq_true e)) h,λe=>absurd (Nat.lt_succ_of_le e.2) h⟩
noncomputable def cR(l:List Nat):Bool:=decide (1<=l.length)&&decide (l.length<=50)&&!(decide (l.head? = some 48)&&!decide (l=[48]))&&l.all bV
noncomputable def kx:List Nat->Option Int
 | []=>none
 | c::r=>if c=45 then(if cR r=true/\r≠[48]then some (-(digitsVal r:Int))else none)else if cR (c::r)=true then some (digitsVal (c::r):Int)else none
def kL(c:Nat)(r:List Nat):kx (c::r)=if c=45 then(if cR r=true/\r≠[48]then some (-(digitsVal r:Int))else none)else if cR (c::r)=true then some (digitsVal (c::r):Int)else none:=rfl
def z_{l:List Nat}(h:cR l=true):AllDigits l/\l≠[]/\l.length<=50:=by unfold cR at h;rw[WZ,WZ,WZ,decide_eq_true_iff,decide_eq_true_iff,all_eq_true]at h;obtain⟨⟨⟨h1,h2⟩,_⟩,I⟩:=h;exact⟨λc B=>(R8 c).mp (I c B),λz=>by rw[z]at h1;exact absurd h1 ∅,h2⟩
def rR{m:Nat}(h:m<10^50):cR (fg (m:Int))=true:=by
 have I:=rT 49 m h;unfold cR;rw[ZG I.1,ZG I.2,Bool.true_and,Bool.true_and,WZ];refine⟨?_,List.all_eq_true.mpr λc B=>(R8 c).mpr (SQ m c B)⟩;rcases xo m with e | ⟨c,r,e,B⟩
 ·rw[e]
  decide
 ·rw[e,ZS (show ¬(c::r).head? = some 48 from λz=>B (am z))];rfl
def pF{m:Nat}(h:m<10^50):kx (fg (m:Int))=some (m:Int):=by
 have B:=rR h;have I:=rS m;have hd:=SQ m;cases e:fg (m:Int) with
 | nil=>rw[e]at B;cases B
 | cons c r=>
  rw[e]at B I hd;have M:c≠45:=by have:=(hd c (ZQ ..)).1;lia
  rw[kL];rw[ZJ M,ZL B,I]
def x_{n:Int}(N:-(10^50)<n)(h1:n<10^50):kx (fg n)=some n:=by
 by_cases c:0<=n
 ·obtain⟨m,rfl⟩:=Int.eq_ofNat_of_zero_le c;exact pF {}
 ·obtain⟨m,hm⟩:∃ m:Nat,n = -((m+1:Nat):Int):=⟨(-n-1).toNat,{}⟩
  subst hm;rw[DS];have M:=rR (m:=m+1) {};have B:=rS (m+1);have I:fg ((m+1:Nat):Int)≠[48]:=λz=>by
   rw[z]at B;have:(0:Nat)=m+1:=B;lia
  rw[kL];rw[ZL J,ZL ⟨M,I⟩,B]
def zD{x:Str}{n:Int}(h:kx x.cps.toList=some n):PySem.intText? x=some n/\x.length<=51:=by
 have I:x.length=x.cps.toList.length:=by simp[Str.length]
 cases e:x.cps.toList with
 | nil=>rw[e]at h;cases h
 | cons c r=>
  rw[e]at h I;rw[kL]at h;by_cases B:c=45
  ·subst B;rw[ZL J]at h;by_cases z:cR r=true/\r≠[48]
   ·rw[ZL z]at h;obtain⟨a,b,d⟩:=z_ z.1;have M:x.length<=51:=by rw[I,WB];lia
    exact⟨(intText_neg e a b {}).trans h,M⟩
   ·rw[ZJ z]at h;cases h
  ·rw[ZJ B]at h;by_cases z:cR (c::r)=true
   ·rw[ZL z]at h;obtain⟨a,b,d⟩:=z_ z;have M:x.length<=51:=by rw[I];lia
    refine⟨(intText_digits (by rw[e];exact a) (by rw[e];exact b) {}).trans ?_,M⟩;rw[e];exact h
   ·rw[ZJ z]at h;cases h
def A8{n:Int}:32 ∉ fg n:=by
 intro h;by_cases c:0<=n
 ·obtain⟨m,rfl⟩:=Int.eq_ofNat_of_zero_le c;have:=SQ m 32 h;lia
 ·obtain⟨m,hm⟩:∃ m:Nat,n = -((m+1:Nat):Int):=⟨(-n-1).toNat,{}⟩
  subst hm;rw[DS]at h;rcases ad h with h | h
  ·exact absurd h ∅
  ·have:=SQ (m+1) 32 h;lia
def zY(s x y:Str)(r:List Str):(Str.join s (x::y::r)).cps.toList=x.cps.toList++(s.cps.toList++(Str.join s (y::r)).cps.toList):=by rw[show Str.join s (x::y::r)=x++s++Str.join s (y::r)from J,PyProof.Rows.cps_toList_append,PyProof.Rows.cps_toList_append,YS]
theorem OZ{c:Nat}{a b u v:List Nat}(ha:c ∉ a)(hb:c ∉ b)(h:a++c::u=b++c::v):a=b/\u=v:=by
 induction a generalizing b with
 | nil=>
  cases b;exact⟨J,(List.cons.inj h).2⟩;exact absurd (by rw[(List.cons.inj h).1];exact ZQ ..) hb
 | cons x a i=>
  cases b;exact absurd (by rw[<- (List.cons.inj h).1];exact ZQ ..) ha
  obtain⟨h1,h2⟩:=List.cons.inj h;obtain⟨I,B⟩:=i (λz=>ha (ZU _ z)) (λz=>hb (ZU _ z)) h2;exact⟨by rw[h1,I],B⟩
theorem Fv{c:Nat}{xs ys:List Str}(h1:xs≠[])(h2:ys≠[])(hx:∀ p∈xs,c ∉ p.cps.toList)(hy:∀ p∈ys,c ∉ p.cps.toList)(h:(Str.join ⟨#[c]⟩ xs).cps.toList=(Str.join ⟨#[c]⟩ ys).cps.toList):xs=ys:=by
 induction xs generalizing ys with
 | nil=>cases h1 J
 | cons x xs i=>
  obtain _ | ⟨y,ys⟩:=ys
  ·cases h2 J
  obtain _ | ⟨z,r⟩:=xs
  ·obtain _ | ⟨z,r⟩:=ys
   ·rw[Gp (x:=x) (y:=y) h]
   ·rw[zY]at h;exact absurd (by
     have e:x.cps.toList=_:=h;rw[e];simp) (hx x ZQ)
  obtain _ | ⟨w,q⟩:=ys
  ·rw[zY]at h;exact absurd (by
    have e:_=y.cps.toList:=h;rw[<- e];simp) (hy y ZQ)
  rw[zY,zY]at h;obtain⟨M,I⟩:=OZ (hx x ZQ) (hy y ZQ) (show x.cps.toList++c::_=y.cps.toList++c::_ from h);rw[Gp M,i (ys:=w::q) (by simp) (by simp) (λp hp=>hx p (ZU _ hp)) (λp hp=>hy p (ZU _ hp)) I]
def oY(x:Str)(c:Nat):Txt.split x ⟨#[c]⟩≠[]:=by
 unfold Txt.split;split
 ·simp
 ·split
  ·simp
  ·rw[StrLaws.partsBetween_eq];obtain⟨p,r,e⟩:=StrLaws.partsFrom_ne x (⟨#[c]⟩:Str).length 0 (Builtin.Str.occurrences x ⟨#[c]⟩ 0 x.length (x.length+1));rw[e];simp
def fX{c:Nat}(h:xs≠[])(B:∀ p∈xs,c ∉ p.cps.toList):Txt.split (Str.join ⟨#[c]⟩ xs) ⟨#[c]⟩=xs:=
 Fv (oY _ c) h (StrLaws.split_free _ c) B (by rw[StrLaws.join_split])
def KO:(" " : Str)=⟨#[32]⟩:=⟨⟩
end
abbrev bD(low:Int)(ns:List Int):List Int:=ns.map λn=>n-low
def zC{low:Int}{e:Nat}(h:bz low e ns):fE e (bD low ns):=λo B=>by
 obtain⟨n,I,rfl⟩:=eE B;have:=h n I;lia
def O_{low:Int}{e:Nat}{ns:List Int}(h:bz low (e+1) ns):af e 0 (bD low ns)=bD low (ns.filter λn=>decide (n<low+2^e)):=by
 rw[MF (zC h)];unfold bD;rw[filter_map];congr 1;refine List.filter_congr λn _=>?_;show decide (n-low<2^e)=decide (n<low+2^e);by_cases c:n<low+2^e
 ·rw[ZG c,ZG {}]
 ·rw[ZS c,ZS {}]
def O9{low:Int}{e:Nat}{ns:List Int}(h:bz low (e+1) ns):af e 1 (bD low ns)=bD (low+2^e) (ns.filter λn=>decide (low+2^e<=n)):=by
 rw[ME (zC h)];unfold bD;rw[filter_map,map_map];have B:((λo=>decide ((2:Int)^e<=o))∘λn=>n-low)=λn=>decide (low+2^e<=n):=by
  funext n;show decide ((2:Int)^e<=n-low)=decide (low+2^e<=n);by_cases c:low+2^e<=n
  ·rw[ZG c,ZG {}]
  ·rw[ZS c,ZS {}]
 rw[B];refine map_congr_left λn _=>?_;show n-low-2^e=n-(low+2^e);lia
def bz.TL{low:Int}{e:Nat}{ns:List Int}(h:bz low (e+1) ns):bz low e (ns.filter λn=>decide (n<low+2^e)):=λn B=>by
 have h1:=List.mem_filter.mp B;have h2:=h n h1.1;have I:=ZI h1.2;lia
def bz.U9{low:Int}{e:Nat}{ns:List Int}(h:bz low (e+1) ns):bz (low+2^e) e (ns.filter λn=>decide (low+2^e<=n)):=λn B=>by
 have h1:=List.mem_filter.mp B;have h2:=h n h1.1;have M:=ZI h1.2;have I:(2:Int)^(e+1)=2^e+2^e:=by rw[Int.pow_succ];lia
 lia
inductive Pp where
 | all (n:Int)
 | split (n:Int) (l r:Pp)
def bt(H:Hp):V->Pp->Prop
 | v,.all n=>∃ a,v = .ref a/\H a=some (.tup [.str "all", .int n])
 | v,.split n l r=>bR λa x y=>cP (v = .ref a) (H a=some (.tup [.str "split", .int n,x,y])) (bt H x l) (bt H y r)
theorem bt.tk{H H':Hp}(k:aw H H'):∀{p:Pp}{v:V},bt H v p->bt H' v p
 | .all _,_,⟨a,e,h⟩=>⟨a,e,(k _ _).1 h⟩
 | .split _ _ _,_,⟨a,x,y,e,h,h1,h2⟩=>⟨a,x,y,e,(k _ _).1 h,h1.tk k,h2.tk k⟩
noncomputable def pU:Nat->List Int->Pp->Prop
 | _,us,.all n=>n=(us.length:Int)
 | 0,_,.split _ _ _=>False
 | e+1,us,.split n l r=>n=(us.length:Int)/\pU e (af e 0 us) l/\pU e (af e 1 us) r
def Pp.aS:Pp->Nat
 | .all _=>1
 | .split _ l r=>Pp.aS l+Pp.aS r
noncomputable def bH(φ:Int->Int->Int->Bool):Nat->Int->List Int->Pp
 | 0,_,us=>.all us.length
 | e+1,least,us=>if φ least (least+2^(e+1)-1) us.length=true then .split us.length (bH φ e least (af e 0 us)) (bH φ e (least+2^e) (af e 1 us))else .all us.length
def C2:Pp->Nat
 | .all _=>0
 | .split _ l r=>max (C2 l) (C2 r)+1
theorem DR:∀(e:Nat)(least:Int)(us:List Int),C2 (bH φ e least us)<=e
 | 0,_,_=>ZF _
 | e+1,least,us=>by
  unfold bH;split
  ·show max _ _+1<=e+1;have:=DR (φ:=φ) e least (af e 0 us);have:=DR (φ:=φ) e (least+2^e) (af e 1 us);lia
  ·exact ZX _
theorem bt.tp{H H':Hp}(k:∀ b xs,H b=some (.tup xs)->H' b=some (.tup xs)):∀{p:Pp}{v:V},bt H v p->bt H' v p
 | .all _,_,⟨a,e,h⟩=>⟨a,e,k _ _ h⟩
 | .split _ _ _,_,⟨a,x,y,e,h,h1,h2⟩=>⟨a,x,y,e,k _ _ h,bt.tp k h1,bt.tp k h2⟩
def bt.same(h:bt H v p)(s:ag H H'):bt H' v p:=bt.tk (.same s) h
def XQ:Pp->Bool
 | .all _=>true
 | .split _ _ _=>false
def QC:PySem.W.kitOne K (.type "tuple") (.type "tuple")=some true:=by kernel_rfl
inductive Hb(u0:Fg)(vs:List V)(H:Hp)(Q:VK)(E:XK):Prop
 |mk(n:Int)(_:vs=[.int n])(_:Q (.bl true) H)
inductive Gn(u0:Fg)(vs:List V)(H:Hp)(Q:VK)(E:XK):Prop
 |mk(a b:Str)(_:vs=[.str a,.str b])(_:Q (.bl (decide (a=b))) H)
inductive Sw(u0:Fg)(vs:List V)(H:Hp)(Q:VK)(E:XK):Prop
 |mk(v:V)(p:Pp)(_:vs=[v])(_:bt H v p)(_:Q (.bl (XQ p)) H)
inductive pX(u0:Fg)(vs:List V)(H:Hp)(Q:VK)(E:XK):Prop
 |mk(v:V)(p:Pp)(_:vs=[v])(_:bt H v p)(_:Q (.bl (!XQ p)) H)
noncomputable def aH:Nat->List Int->Pp->Bool
 | _,us,.all n=>decide (n=((us.length:Nat):Int))
 | 0,_,.split _ _ _=>false
 | e+1,us,.split n l r=>decide (n=((us.length:Nat):Int))&&(aH e (af e 0 us) l&&aH e (af e 1 us) r)
def uW{e:Nat}{us:List Int}{n:Int}:aH e us (.all n)=decide (n=((us.length:Nat):Int)):=by cases e <;> rfl
theorem iP:∀{e:Nat}{us:List Int}{p:Pp},aH e us p=true↔pU e us p
 | 0,us,.all n=>decide_eq_true_iff
 | e+1,us,.all n=>decide_eq_true_iff
 | 0,us,.split _ _ _=>⟨λh=>fnt h,λh=>h.elim⟩
 | e+1,us,.split n l r=>by
  show(decide (n=((us.length:Nat):Int))&&(aH e (af e 0 us) l&&aH e (af e 1 us) r))=true↔n=(us.length:Int)/\pU e (af e 0 us) l/\pU e (af e 1 us) r;rw[WZ,WZ,decide_eq_true_iff,iP,iP]
def cm(n m:Int):decide (V.int n=V.int m)=decide (n=m):=by
 by_cases c:n=m
 ·rw[c,ZG J,ZG J]
 ·rw[ZS c,ZS (λz=>c (V.int.inj z))]
abbrev jm:Nat:=3
abbrev Gm:Nat:=40
inductive A7(u0:Fg)(e:Nat)(vs:List V)(H:Hp)(Q:VK)(E:XK):Prop
 |mk(pa:Addr)(v:V)(p:Pp)(xs:List V)(gs:List G3)(_:vs=[.int (e:Int),.ref pa,v])(_:H pa=some (.lst xs))(_:aE H e xs gs)(_:(∀ g∈gs,aK e g))(_:gs.length<=100)(_:bt H v p)(_:∀ H',ag H H'->Q (.bl (aH e (Wh gs) p)) H')
def NS(K:Fg):Sp:=λvs H Q E=>∃ e,e<=Gm/\A7 K e vs H Q E
inductive EK(u0:Fg)(vs:List V)(H:Hp)(Q:VK)(E:XK):Prop
 |mk(ga:Addr)(v:V)(p:Pp)(L:Nat)(xs:List V)(gs:List G3)(_:vs=[.int (L:Int),.ref ga,v])(_:L<=40)(_:H ga=some (.lst xs))(_:aE H L xs gs)(_:(∀ g∈gs,aK L g))(_:gs.length<=100)(_:bt H v p)(_:∀ H',ag H H'->Q (.bl (aH L (Wh gs) p)) H')
abbrev ky:Nat:=3
abbrev qh:Nat:=40
def f3(ψ:List Int->Bool):Int->Int->Int->Bool:=λa b c=>ψ [a,b,c]
inductive IH(K:Fg)(e:Nat)(vs:List V)(H:Hp)(Q:VK)(E:XK):Prop
 |mk(least:Int)(pa f:Addr)(xs:List V)(gs:List G3)(C:List Int->Prop)(ψ:List Int->Bool)(_:vs=[.int least,.int (2^e),.ref pa,.ref f])(_:ao K H pa xs)(_:aE H e xs gs)(_:(∀ g∈gs,aK e g))(_:gs.length<=100)(_:(Wh gs).length<=900)(_:xN K 2 H f C ψ)(_:(∀ a b c:Int,0<=c->c<=1000->C [a,b,c]))(_:∀(H':Hp)(v:V),ag H H'->bt H' v (bH (f3 ψ) e least (Wh gs))->Q v H')
def QB(K:Fg):Sp:=λvs H Q E=>∃ e,e<=qh/\IH K e vs H Q E
inductive qg(K:Fg)(vs:List V)(H:Hp)(Q:VK)(E:XK):Prop
 |mk(b ga f:Addr)(xs:List V)(low:Int)(L:Nat)(gs:List G3)(C:List Int->Prop)(ψ:List Int->Bool)(_:vs=[.ref b,.ref ga,.ref f])(_:au K H b [.int low,.int (L:Int)])(_:L<=40)(_:ao K H ga xs)(_:aE H L xs gs)(_:(∀ g∈gs,aK L g))(_:gs.length<=100)(_:(Wh gs).length<=900)(_:xN K 2 H f C ψ)(_:(∀ a b c:Int,0<=c->c<=1000->C [a,b,c]))(_:∀(H':Hp)(v:V),ag H H'->bt H' v (bH (f3 ψ) L low (Wh gs))->Q v H')
def R7:z.C P w 1 "is_whole" ["thing"] (Hb K):=by
 have sc:=Pr;specialize z.lF;obtain⟨n,rfl,q⟩:=h;exists _,(az (fP (cK iS () z.bp dy (aY kb (iN (v:=.ty "int") (u:=.type "int") () z.BW Em J))) (kJ (BD (cK iS () z.bp dy (aY kb (iN (v:=.ty "bool") (u:=.type "bool") () z.Kk xF J)))))))
 symm;exists _,_,_,_,J,.int _,Pw,_,J;refine aT (λ_=>?_) (λc=>absurd J c);exact⟨_,_,_,_,J,.int _,Qt,_,J,q⟩
def Gk:z.C P w 1 "is_word" ["thing", "word"] (Gn K):=by
 have sc:=Ol;specialize z.nQ;obtain⟨a,b,rfl,q⟩:=h;exists _,(az (fP (cK iS () z.bp dy (aY kb (iN (v:=.ty "str") (u:=.type "str") () z.cj kh J))) (kJ (ki av kb kv))))
 symm;exists _,_,_,_,J,.str _,Bm,_,J;refine aT (λ_=>?_) (λc=>absurd J c);exists J;have e:decide (V.str a=V.str b)=decide (a=b):=by
  by_cases h:a=b
  ·rw[h];simp
  ·rw[ZS h,ZS (λz=>h (V.str.inj z))]
 rw[e];exact q
def Sv:z.C P w 2 "is_closed" ["thing"] (Sw K):=by
 have sc:=Qj;specialize z.jW;obtain⟨v,p,rfl,B,q⟩:=h;exists _,(az (fP (cK iS () z.bp dy (aY kb (iN (v:=.ty "tuple") (u:=.type "tuple") () z.eW vN J))) (fP (ki av (dH z.bE (ar kb)) ah) (fP (aC (Gk z) hr (aY (aG bh kb ah) aR)) (kJ (aC (R7 z) hr (ar (aG bh kb ah))))))))
 symm;cases p with
 | all n=>obtain⟨a,rfl,h⟩:=B;exists _,_,_,_,J,.tup h,QC,_,J;refine ay (λ_=>?_) (λc=>absurd J c);exists a,_,J,.inr (au.of h),J,_,J;refine ay (λ_=>?_) (λc=>absurd (ZG J) c);exists _,_,au.of h,J,_,_,J,_,J;refine ay (λ_=>?_) (λc=>absurd (ZG J) c);exact⟨_,_,au.of h,J,_,J,q⟩
 | split n l r=>obtain⟨a,x,y,rfl,h,_,_⟩:=B;exists _,_,_,_,J,.tup h,QC,_,J;refine ay (λ_=>?_) (λc=>absurd J c);exists a,_,J,.inr (au.of h),J,_,J;exact ay (λc=>absurd (V.int.inj (ZI c)) (show ¬(4:Int)=2 by decide)) (λ_=>q)
def O8:z.C P w 2 "is_split" ["thing"] (pX K):=by
 have sc:=Po;specialize z.lG;obtain⟨v,p,rfl,B,q⟩:=h;exists _,(az (fP (cK iS () z.bp dy (aY kb (iN (v:=.ty "tuple") (u:=.type "tuple") () z.eW vN J))) (fP (ki av (dH z.bE (ar kb)) ah) (fP (aC (Gk z) hr (aY (aG bh kb ah) aR)) (kJ (aC (R7 z) hr (ar (aG bh kb ah))))))))
 symm;cases p with
 | all n=>obtain⟨a,rfl,h⟩:=B;exists _,_,_,_,J,.tup h,QC,_,J;refine ay (λ_=>?_) (λc=>absurd J c);exists a,_,J,.inr (au.of h),J,_,J;exact ay (λc=>absurd (V.int.inj (ZI c)) (show ¬(2:Int)=4 by decide)) (λ_=>q)
 | split n l r=>obtain⟨a,x,y,rfl,h,_,_⟩:=B;exists _,_,_,_,J,.tup h,QC,_,J;refine ay (λ_=>?_) (λc=>absurd J c);exists a,_,J,.inr (au.of h),J,_,J;refine ay (λ_=>?_) (λc=>absurd (ZG J) c);exists _,_,au.of h,J,_,_,J,_,J;refine ay (λ_=>?_) (λc=>absurd (ZG J) c);exact⟨_,_,au.of h,J,_,J,q⟩
def NR:z.C P w 44 "is_kept" ["levels", "parts", "thing"] (NS K):=by
 have sc:=Og;refine z.nR.eh (k:=jm) (sp:=A7 K) Gm λe oi B f fd F=>F.k sc λ_ _ _ s H _ Q _ hr h=>?_;obtain⟨pa,v,p,xs,gs,rfl,S,hg,I,rG,hv,q⟩:=h;refine⟨_,(aj (aW (uQ (aQ (Sv z) (hr.mono (ZT (by decide:2<=jm) (ce _ _))) () (ar bv)))
 (az (ki av (aG bh bv ah) (aQ (dE z) (hr.mono (ZT (by decide:1<=jm) (ce _ _))) () (ar kv)))))
 (aj (aW (PW.pt (pw_or (aN av kb ah) (pw_or (Eh (uQ (aQ (O8 z) (hr.mono (ZT (by decide:2<=jm) (ce _ _))) () (ar bv)))) (yc (aN bX (aG bh bv ah) (aQ (dE z) (hr.mono (ZT (by decide:1<=jm) (ce _ _))) () (ar kv)))))))
 (az bx))
 (aj (pO bn J (mE (tT (aY ah ah))) (cq 3 sc.nd)
 (bF (aW (Eh (uQ (aQ B (hr.mono (ZF _)) () (bW (ae lW kb ah) (aQ (n6 z) (hr.mono (ZT (by decide:1<=jm) (ce _ _))) () (ar (aQ (Bd z) (hr.mono (ZT (by decide:3<=jm) (ce _ _))) () (aY kv (tT (ar bi)))))) (aG bh bv (ae dk ah bi))))))
 (az bx))))
 (az bx)))),?_⟩
 symm;have hm:iz gs=((Wh gs).length:Nat):=IL I;exists v,p,J,hv,_,J;cases p with
 | all n=>refine ay (λ_=>?_) (λc=>absurd J c);obtain⟨a,rfl,h⟩:=hv;refine⟨_,_,au.of h,J,pa,xs,e,gs,J,ao.of S,hg,{},λH' s'=>⟨J,?_⟩⟩;rw[hm,cm];have z:=q H' s';rw[uW]at z;exact z
 | split n l r=>
  refine ay (λc=>absurd c fnt) (λ_=>?_);exists J;cases e with
  | zero=>refine ay (λ_=>?_) (λc=>absurd (ZG J) c);exact q H (ag.refl _)
  | succ e=>
   refine ay (λc=>absurd (V.int.inj (ZI c)) {}) (λ_=>?_);exists v,_,J,hv,_,J;refine ay (λc=>absurd c fnt) (λ_=>?_);obtain⟨a,x,y,rfl,h,h1,h2⟩:=hv;refine⟨_,_,au.of h,J,pa,xs,e+1,gs,J,ao.of S,hg,{},λH1 s1=>⟨J,?_⟩⟩;rw[hm,cm];have q':∀ H',ag H H'->Q (.bl (decide (n=((Wh gs).length:Nat))&&(aH e (af e 0 (Wh gs)) l&&aH e (af e 1 (Wh gs)) r))) H':=q;by_cases hn:n=((Wh gs).length:Nat)
   ·rw[ZG hn]at q' ⊢;refine ay (λz=>absurd z ∅) (λ_=>?_);refine⟨aZ J,λtp tZ H2 s2 e2=>?_⟩;have Z:=s1.trans s2;refine⟨tp,J,⟨_,au.of e2⟩,kI (K:=K) (a:=tp) (xs:=[V.int 0,.int 1]) (λi σ G=>∃ w3:Option V,cP (σ=[some (.int ((e+1:Nat):Int)),some (.ref pa),some (.ref a),w3]) (ag H2 G) ((0<i->aH e (af e 0 (Wh gs)) l=true)) ((1<i->aH e (af e 1 (Wh gs)) r=true))) ⟨_,J,ag.refl _,λh=>absurd h ∅,λh=>absurd h ∅⟩ (λi σ G _ ⟨_,_,s,_,_⟩=>au.of (s _ _ e2)) ?_ ?_⟩
    ·rintro i y' σ G hi ⟨w3,rfl,sG,k0,k1⟩;obtain⟨mk,Y,M,rfl,hmk,hat,Zr,hkk,U2,Ll⟩:bR λ(mk:Int) (Y:V) (M:Pp)=>nY (y' = .int mk) ((mk=0\/mk=1)) (fC [V.str "split", V.int n,x,y] (2+mk)=some Y) (bt H Y M) ((aH e (af e mk (Wh gs)) M=false->(true&&(aH e (af e 0 (Wh gs)) l&&aH e (af e 1 (Wh gs)) r))=false)) ((aH e (af e mk (Wh gs)) M=true->(0<i+1->aH e (af e 0 (Wh gs)) l=true))) ((aH e (af e mk (Wh gs)) M=true->(1<i+1->aH e (af e 1 (Wh gs)) r=true))):= by
      match i,hi with
      | 0,hi=>cases hi;exact⟨0,x,_,J,.inl J,J,h1,λz=>by rw[z,bd,be],λz _=>z,λ_ h=>absurd h ∅⟩
      | 1,hi=>cases hi;exact⟨1,y,_,J,.inr J,J,h2,λz=>by rw[z,be,be],λ_ _=>k0 ∅,λz _=>z⟩
     have Yo:=Z.trans sG;refine⟨aZ J,λw0 n_ G1 t1 W=>?_⟩;replace W:G1 w0=some (.tup ([mk].map V.int)):=W;have O:=Yo.trans t1;refine⟨pa,w0,xs,e+1,[mk],gs,J,ao.of (O _ _ S),hg.same O,I,{},au.of W,by simp,λm hm=>by rw[eD hm];exact hmk,λG2 D2 ys t2 jL _ Xi=>?_⟩;have VL:gs.map (bL (e+1) [mk])=gs.map (bT e mk):=map_congr_left λg _=>by rw[lV,Fn]
     rw[VL]at Xi;refine⟨D2,ys,_,_,J,ao.of jL,Xi,by rw[ZK];lia,λG3' D3 y3 t3 ec _ B9=>?_⟩;have B8:aE G3' e y3 (bJ (gs.map (bT e mk))):=B9;have N:=O.trans (t2.trans t3);exists _,_,au.of (N _ _ h),hat;have ee:(((e+1:Nat):Int)-1)=(e:Int):={}
     refine⟨D3,Y,M,y3,bJ (gs.map (bT e mk)),congrArg (λt=>[V.int t,V.ref D3,Y]) ee,ec,B8,n8 (λg JX=>?_),?_,Zr.same N,λG4 t4=>⟨_,J,?_⟩⟩
     ·obtain⟨g0,hg0,rfl⟩:=eE JX;exact d0 (I g0 hg0)
     ·exact ZT (length_filter_le _ _) (by rw[ZK];exact rG)
     ·rw[ql,bQ I];cases U:aH e (af e mk (Wh gs)) M with
      | true=>exact aU ⟨_,J,sG.trans (t1.trans (t2.trans (t3.trans t4))),U2 U,Ll U⟩
      | false=>have z:=q' G4 (N.trans t4);rw[hkk U]at z;exact bM z
    ·rintro σ G ⟨w3,rfl,sG,k0,k1⟩;have z:=q' G (Z.trans sG);rw[k0 ∅,k1 ∅]at z;exact z
   ·rw[ZS hn]at q' ⊢;refine ay (λ_=>?_) nr;rw[bd]at q';exact q' H1 s1
def iJ:z.C P w 45 "keeps" ["levels", "gathering", "paper"] (EK K):=by
 have sc:=ph;specialize z.xw;obtain⟨ga,v,p,L,xs,gs,rfl,hL,I,Z,B,Y,W,q⟩:=h;exists _,(az (aC (NR z) hr (bW kb (aC (n6 z) hr (ar kv)) bv)))
 refine⟨ga,xs,L,gs,J,ao.of I,Z,{},λH1 D1 S O N _ M=>?_⟩;exact⟨L,hL,D1,v,p,S,bJ gs,J,N,M,n8 B,ZT (length_filter_le _ _) Y,W.same O,λH2 U=>by rw[ql];exact q H2 (O.trans U)⟩
def Ay:z.C P w 44 "paper_from" vX (QB K):=by
 have sc:=QJ;refine z.i6.eh (k:=ky) (sp:=IH K) qh λe oi B f fd F=>F.k sc λ_ _ _ s H _ Q _ hr h=>?_;obtain⟨least,pa,fa,xs,gs,C,ψ,rfl,W,hg,I,hl,hw,hf,hC,q⟩:=h;refine⟨_,(aj (aF 4 sc.nd (aQ (dE z) (hr.mono (ZT (by decide:1<=ky) (ce _ _))) () (ar bv)))
 (aj (aW (PW.pt (pw_or (aN av kv ah) (yc (Eh (uQ (qF (k:=2) 3 (hr.mono (ZT (by decide:2<=ky) (ce _ _))) (bW kb (ae lW (ae dk kb kv) ah) (pr 4))))))))
 (az (vj (aY aR (pr 4)))))
 (aj (aF 5 sc.nd (ae vS kv ah))
 (aj (aF 6 sc.nd (aQ B (hr.mono (ZF _)) () (dI kb (pr 5) (aQ (n6 z) (hr.mono (ZT (by decide:1<=ky) (ce _ _))) () (ar (aQ (Bd z) (hr.mono (ZT (by decide:3<=ky) (ce _ _))) () (aY bv (vj (ar ah)))))) bi)))
 (aj (aF 7 sc.nd (aQ B (hr.mono (ZF _)) () (dI (ae dk kb (pr 5)) (pr 5) (aQ (n6 z) (hr.mono (ZT (by decide:1<=ky) (ce _ _))) () (ar (aQ (Bd z) (hr.mono (ZT (by decide:3<=ky) (ce _ _))) () (aY bv (vj (ar ah)))))) bi)))
 (az (vj (dI aR (pr 4) (pr 6) (pr 7))))))))),?_⟩
 symm;refine⟨pa,xs,e,gs,J,W,hg,{},λH1 s1=>?_⟩;rw[IL I];exists J;cases e with
 | zero=>refine ay (λ_=>?_) (λc=>absurd (ZG J) c);refine ay (λ_=>?_) (λc=>absurd J c);exact⟨aZ J,λt ht=>q _ _ (s1.trans (aM ht _)) ⟨t,J,ax⟩⟩
 | succ e=>
  have oa:=b7 e;have e2:(2:Int)^(e+1)=2*2^e:=by rw[Int.pow_succ];lia
  refine ay (λc=>absurd (V.int.inj (ZI c)) {}) (λ_=>?_);have JY:=hf.same s1;exists fa,C,ψ,J,JY,[least,least+2^(e+1)-1,((Wh gs).length:Nat)],J,JY,hC _ _ _ {} {},_,J;cases hφ:ψ [least,least+2^(e+1)-1,((Wh gs).length:Nat)] with
  | false=>
   refine ay (λ_=>?_) (λc=>absurd J c);have e0:bH (f3 ψ) (e+1) least (Wh gs) = .all ((Wh gs).length:Nat):=by unfold bH;rw[ZJ (by show ¬ ψ _=true;rw[hφ];exact fnt)]
   rw[e0]at q;exact⟨aZ J,λt ht=>q _ _ (s1.trans (aM ht _)) ⟨t,J,ax⟩⟩
  | true=>
   refine ay (λc=>absurd c ∅) (λ_=>?_);have e0:bH (f3 ψ) (e+1) least (Wh gs) = .split ((Wh gs).length:Nat) (bH (f3 ψ) e least (af e 0 (Wh gs))) (bH (f3 ψ) e (least+2^e) (af e 1 (Wh gs))):=by rw[bH,ZL (show f3 ψ least (least+2^(e+1)-1) ((Wh gs).length:Nat)=true from hφ)]
   rw[e0]at q;have hh:(2:Int)^(e+1)/2=2^e:=by rw[Int.pow_succ];exact Int.mul_ediv_cancel _ ∅
   exists _,_,J,J,⟨∅,∅⟩
   dsimp only;rw[hh];have M:∀ w,∀ g∈gs.map (bT e w),aK e g:=λw g hg=>by
    obtain⟨g',JX,rfl⟩:=eE hg;exact d0 (I g' JX)
   have el:∀ w:Int,gs.map (bL (e+1) [w])=gs.map (bT e w):=λw=>map_congr_left λg _=>by rw[lV,Fn]
   have N:∀ w:Int,(af e w (Wh gs)).length<=900:=λw=>ZT mY hw;have fl:∀ w,(bJ (gs.map (bT e w))).length<=100:=λw=>ZT (length_filter_le _ _) (by rw[ZK];exact hl);refine⟨aZ J,λw0 n_=>?_⟩;have s2:=aM n_ (.tup [V.int 0]);have k_:upd H1 w0 (.tup [V.int 0]) w0=some (.tup [V.int 0]):=ax;generalize upd H1 w0 (.tup [V.int 0])=H2 at *;have U:=s1.trans s2;refine⟨pa,w0,xs,e+1,[0],gs,J,U.seq W,hg.same U,I,{},au.of k_,by simp,(λx hx=>by rw[eD hx];exact .inl J),λH3 D3 z3 s3 ec Vx B9=>?_⟩;rw[el]at B9;have B8:aE H3 e z3 (gs.map (bT e 0)):=B9;refine⟨D3,z3,e,_,J,ao.of ec,B8,by rw[ZK];lia,λH4 D4 z4 s4 kr xj CU=>?_⟩;have Wn:=(U.trans s3).trans s4;refine⟨least,D4,fa,z4,bJ (gs.map (bT e 0)),C,ψ,J,ao.of kr,CU,n8 (M 0),fl 0,by rw[ql,bQ I];exact N 0,hf.same Wn,hC,λH5 v5 s5 t_=>?_⟩;rw[ql,bQ I]at t_;have S:=Wn.trans s5;refine⟨aZ J,λw1 rq=>?_⟩;have s6:=aM rq (.tup [V.int 1]);have kZ:upd H5 w1 (.tup [V.int 1]) w1=some (.tup [V.int 1]):=ax;generalize upd H5 w1 (.tup [V.int 1])=H6 at *;have Dy:=S.trans s6;refine⟨pa,w1,xs,e+1,[1],gs,J,Dy.seq W,hg.same Dy,I,{},au.of kZ,by simp,(λx hx=>by rw[eD hx];exact .inr J),λH7 D7 z7 s7 lh J9 me=>?_⟩;rw[el]at me;have B7:aE H7 e z7 (gs.map (bT e 1)):=me;refine⟨D7,z7,e,_,J,ao.of lh,B7,by rw[ZK];lia,λH8 D8 z8 s8 Vv Vu Vb=>?_⟩;have Z:=(s6.trans s7).trans s8;refine⟨least+2^e,D8,fa,z8,bJ (gs.map (bT e 1)),C,ψ,J,ao.of Vv,Vb,n8 (M 1),fl 1,by rw[ql,bQ I];exact N 1,hf.same (S.trans Z),hC,λH9 v9 s9 Lj=>?_⟩;rw[ql,bQ I]at Lj;have Y:=Z.trans s9;refine⟨aZ J,λt ht=>?_⟩;have O:=aM ht (.tup [V.str "split", .int ((Wh gs).length:Nat),v5,v9]);exact q _ _ ((S.trans Y).trans O) ⟨t,v5,v9,J,ax,t_.same (Y.trans O),Lj.same O⟩
def pG:z.C P w 45 "told_paper" vW (qg K):=by
 have sc:=QK;specialize z.iY;obtain⟨b,ga,fa,xs,low,L,gs,C,ψ,rfl,U,hL,M,hg,I,hl,hw,hf,hC,q⟩:=h;exists _,(az (aC (Ay z) hr (dI (aG bh kb ah) (aC (tU z) hr (ar (aG bh kb ah))) (aC (n6 z) hr (ar kv)) bv)))
 symm;refine⟨_,_,U,J,_,_,U,J,L,J,hL,ga,xs,L,gs,J,M,hg,{},λH1 D1 Y S O W N=>?_⟩;refine⟨L,hL,low,D1,fa,Y,bJ gs,C,ψ,J,ao.of O,N,n8 I,ZT (length_filter_le _ _) hl,by rw[ql];exact hw,hf.same S,hC,λH2 Z s2 B=>?_⟩;rw[ql]at B;exact q H2 Z (S.trans s2) B
def EJ(k:aw H H')(h:fN K H y u):fN K H' y u:=by
 obtain⟨a,e,h⟩:=h;rcases h with (h | ⟨o,h⟩) | h
 ·exact⟨a,e,.inl (.inl ((k _ _).1 h))⟩
 ·exact⟨a,e,.inl (.inr ⟨o,(k _ _).2 o h⟩)⟩
 ·exact⟨a,e,.inr h⟩
def d7(k:aw H H')(h:Paired (fN K H) ys us):Paired (fN K H') ys us:=L2.Paired.fZ h λ_ _ z=>EJ k z
theorem SO{α β:Type}{R:α->β->Prop}{a:List α}{b:List β}{c:List α}{d:List β}(h:Paired R a b)(k:Paired R c d):Paired R (a++c) (b++d):=by
 induction h with
 | nil=>exact k
 | cons r t i=>exact .cons r i
noncomputable def bq:Nat->Int->Pp->List TS.I3
 | e,low,.all n=>[(low,low+2^e-1,n)]
 | 0,_,.split _ _ _=>[]
 | e+1,low,.split _ l r=>bq e low l++bq e (low+2^e) r
def nF:Nat->Pp->Prop
 | _,.all _=>True
 | 0,.split _ _ _=>False
 | e+1,.split _ l r=>nF e l/\nF e r
theorem eX:∀{e:Nat}{us:List Int}{p:Pp},pU e us p->nF e p
 | e,_,.all _,_=>by cases e <;> trivial
 | 0,_,.split _ _ _,h=>h.elim
 | e+1,_,.split _ l r,h=>⟨eX h.2.1,eX h.2.2⟩
theorem pK:∀(e:Nat)(low:Int)(p:Pp),(bq e low p).length<=p.aS
 | e,_,.all _=>by cases e <;> exact ZF _
 | 0,_,.split _ _ _=>ZX _
 | e+1,low,.split _ l r=>by
  show(bq e low l++bq e (low+2^e) r).length<=l.aS+r.aS;rw[ZM];exact Nat.add_le_add (pK e _ l) (pK e _ r)
def Tp(e:Nat)(low n:Int):bq e low (.all n)=[(low,low+2^e-1,n)]:=by cases e <;> rfl
abbrev Tb:Nat:=2
abbrev Ta:Nat:=40
inductive qk(K:Fg)(e:Nat)(vs:List V)(H:Hp)(Q:VK)(E:XK):Prop
 |mk(v:V)(p:Pp)(low:Int)(_:vs=[.int low,.int (2^e),v])(_:bt H v p)(_:nF e p)(_:p.aS<=100000)(_:∀(D:Addr)(zs:List V)(H':Hp),ag H H'->H D=none->H' D=some (.lst zs)->Paired (fN K H') zs (bq e low p)->Q (.ref D) H')
def Rn(K:Fg):Sp:=λvs H Q E=>∃ e,e<=Ta/\qk K e vs H Q E
inductive jv(K:Fg)(vs:List V)(H:Hp)(Q:VK)(E:XK):Prop
 |mk(b:Addr)(v:V)(p:Pp)(low:Int)(L:Nat)(_:vs=[.ref b,v])(_:au K H b [.int low,.int (L:Int)])(_:L<=40)(_:bt H v p)(_:nF L p)(_:p.aS<=100000)(_:∀(D:Addr)(zs:List V)(H':Hp),ag H H'->H D=none->H' D=some (.lst zs)->Paired (fN K H') zs (bq L low p)->Q (.ref D) H')
def none_of(s:ag H H')(h:H' c=none):H c=none:=by
 cases z:H c with
 | none=>rfl
 | some o=>rw[s _ _ z]at h;cases h
def Rm:z.C P w 43 "closed_from" ["least", "many", "paper"] (Rn K):=by
 have sc:=RJ;refine z.hJ.eh (k:=Tb) (sp:=qk K) Ta λe oi B f fd F=>F.k sc λ_ _ _ s H _ Q _ hr h=>?_;obtain⟨v,p,low,rfl,hp,hf,md,q⟩:=h;refine⟨_,(aj (aW (uQ (aQ (Sv z) (hr.mono (ZT (by decide:2<=Tb) (ce _ _))) () (ar bv)))
 (az (zX (ar (vj (bW kb (ae lW (ae dk kb kv) ah) (aG bh bv ah)))))))
 (aj (aF 3 sc.nd (ae vS kv ah))
 (az (ae Qu (aQ B (hr.mono (ZF _)) () (bW kb bi (aG bh bv ah))) (aQ B (hr.mono (ZF _)) () (bW (ae dk kb bi) bi (aG bh bv ah))))))),?_⟩
 symm;exists v,p,J,hp,_,J;cases p with
 | all n=>refine aT (λ_=>?_) nr;obtain⟨a,rfl,U⟩:=id hp;refine⟨_,_,au.of U,J,aZ J,λt ht=>⟨aZ J,λD S=>?_⟩⟩;have M:=aM ht (.tup [V.int low,.int (low+2^e-1),.int n]);have et:=@ax H t (.tup [V.int low,.int (low+2^e-1),.int n]);have I:=aM S (.lst [V.ref t]);refine q D [.ref t] _ (M.trans I) (none_of M S) ax ?_;rw[Tp];exact .cons ⟨t,J,au.of (I _ _ et)⟩ .nil
 | split n l r=>
  refine aT nf (λ_=>?_);obtain⟨a,x,y,rfl,U,hx,hy⟩:=id hp;cases e with
  | zero=>exact hf.elim
  | succ e=>
   have aa7:l.aS+r.aS<=100000:=md;have e2:(2:Int)^(e+1)/2=2^e:=by rw[Int.pow_succ];lia
   exists _,_,J,J,⟨∅,∅⟩
   dsimp only;rw[e2];refine⟨_,_,au.of U,J,x,l,low,J,hx,hf.1,{},λD1 Y H1 M Vy VA O=>?_⟩;refine⟨_,_,au.of (M _ _ U),J,y,r,low+2^e,J,hy.tk (.same M),hf.2,{},λD2 W H2 I ab5 jL N=>?_⟩;have l1:=Paired.length O;have l2:=Paired.length N;have c1:=pK e low l;have c2:=pK e (low+2^e) r;refine⟨D1,D2,Y,W,J,J,I _ _ VA,jL,Dq {},λD S=>?_⟩;have Z:=aM S (.lst (Y++W));have Cw:=M.trans (I.trans Z);refine q D (Y++W) _ Cw (none_of (M.trans I) S) ax ?_;exact SO (d7 (.same (I.trans Z)) O) (d7 (.same Z) N)
def yd:z.C P w 44 "closed_parts" ["bounds", "paper"] (jv K):=by
 have sc:=Sd;specialize z.gj;obtain⟨b,v,p,low,L,rfl,I,hL,hp,M,B,q⟩:=h;exists _,(az (aC (Rm z) hr (bW (aG bh kb ah) (aC (tU z) hr (ar (aG bh kb ah))) kv)))
 symm;exact⟨_,_,I,J,_,_,I,J,L,J,hL,L,hL,v,p,low,J,hp,M,B,q⟩
def br(num:Int)(c:TS.I3):Bool:=decide (0<c.2.2)&&(decide (c.1<num)&&decide (num<=c.2.1))
noncomputable def bA(num:Int)(cs:List TS.I3):Int:=(cs.map λc=>if c.2.1<num then c.2.2 else 0).sum
noncomputable def gQ(cs:List TS.I3)(num many:Int):Bool:=!(cs.any (br num))&&decide (bA num cs=many)
def pL{num:Int}{cs:List TS.I3}{j:Nat}{c:TS.I3}(h:cs[j]? = some c):bA num (cs.take (j+1))=bA num (cs.take j)+if c.2.1<num then c.2.2 else 0:=by unfold bA;rw[WK,h,WF,sum_append];simp
def sS{num:Int}{cs:List TS.I3}{j:Nat}(h:cs[j]? = some c):(cs.take (j+1)).any (br num)=((cs.take j).any (br num)||br num c):=by rw[WK,h,List.any_append];simp
def xt{num many:Int}{j:Nat}(h:cs[j]? = some c)(B:br num c=true):gQ cs num many=false:=by unfold gQ;rw[List.any_eq_true.mpr ⟨c,ZV h,B⟩];rfl
def uV{num many:Int}{cs:List TS.I3}(h:cs.any (br num)=false):gQ cs num many=decide (bA num cs=many):=by unfold gQ;rw[h];rfl
theorem SN{α β:Type}{R:α->β->Prop}{l:List α}{m:List β}(h:Paired R l m){i:Nat}{x:α}(e:l[i]? = some x):∃ y,m[i]? = some y/\R x y:=by
 induction h generalizing i with
 | nil=>simp at e
 | cons r t k=>
  obtain _ | i:=i
  ·cases e;exact⟨_,J,r⟩
  ·exact k (by simpa using e)
def gN(w:Int)(c:TS.I3):Bool:=decide (c.1=w)&&decide (c.2.1=w)
def cY(w:Int):List TS.I3->Option Int
 | []=>none
 | c::cs=>if gN w c=true then some c.2.2 else cY w cs
def Chain:Int->List TS.I3->Int->Prop
 | lo,[],hi=>lo=hi
 | lo,c::cs,hi=>c.1=lo/\lo<=c.2.1/\Chain (c.2.1+1) cs hi
theorem Chain.app:∀{a b c:Int}{xs ys:List TS.I3},Chain a xs b->Chain b ys c->Chain a (xs++ys) c
 | _,_,_,[],_,h,k=>by cases h;exact k
 | _,_,_,_::_,_,h,k=>⟨h.1,h.2.1,Chain.app h.2.2 k⟩
theorem Ge:∀{e:Nat}{low:Int}{p:Pp},nF e p->Chain low (bq e low p) (low+2^e)
 | e,low,.all n,_=>by
  rw[Tp];have:=b7 e;exact⟨J,by show low<=low+2^e-1;lia,by show low+2^e-1+1=low+2^e;lia⟩
 | 0,_,.split _ _ _,h=>h.elim
 | e+1,low,.split n l r,h=>by
  have h1:=Ge (low:=low) h.1;have h2:=Ge (low:=low+2^e) h.2;have B:(2:Int)^(e+1)=2^e+2^e:=by rw[Int.pow_succ];lia
  rw[B,<- Int.add_assoc];exact h1.app h2
theorem kN{w lo hi:Int}{cs:List TS.I3}(h:Chain lo cs hi)(hw:w<lo):bA w cs=0/\bA (w+1) cs=0/\cs.any (br w)=false/\cs.any (br (w+1))=false/\cY w cs=none
:=by
 induction cs generalizing lo with
 | nil=>exact⟨J,J,J,J,J⟩
 | cons c cs i=>
  have i:=i h.2.2 (by have:=h.2.1;lia);have h1:=h.1;have h2:=h.2.1;have O:bA w (c::cs)=(if c.2.1<w then c.2.2 else 0)+bA w cs:=J;have N:bA (w+1) (c::cs)=(if c.2.1<w+1 then c.2.2 else 0)+bA (w+1) cs:=J;have M:(c::cs).any (br w)=(br w c||cs.any (br w)):=J;have I:(c::cs).any (br (w+1))=(br (w+1) c||cs.any (br (w+1))):=J;have W:br w c=false:=by show(decide (0<c.2.2)&&(decide (c.1<w)&&decide (w<=c.2.1)))=false;rw[ZS (show ¬ c.1<w by lia),bd,be]
  have U:br (w+1) c=false:=by show(decide (0<c.2.2)&&(decide (c.1<w+1)&&decide (w+1<=c.2.1)))=false;rw[ZS (show ¬ c.1<w+1 by lia),bd,be]
  have S:gN w c=false:=by show(decide (c.1=w)&&decide (c.2.1=w))=false;rw[ZS (show ¬ c.1=w by lia),bd]
  have B:cY w (c::cs)=if gN w c=true then some c.2.2 else cY w cs:=J;rw[O,N,M,I,B,W,U,S,ZJ (show ¬ c.2.1<w by lia),ZJ (show ¬ c.2.1<w+1 by lia),i.1,i.2.1,i.2.2.1,i.2.2.2.1,i.2.2.2.2];exact⟨J,J,J,J,ZJ fnt⟩
def sM{w a:Int}:∀{lo hi:Int}{cs:List TS.I3},Chain lo cs hi->cY w cs=some a->lo<=w:=fun {lo hi cs} h B=>by
 by_cases c:w<lo
 ·rw[(kN h c).2.2.2.2]at B;cases B
 ·lia
def zB{w:Int}{c:TS.I3}(h:gN w c=true):c.1=w/\c.2.1=w:=by have h':(decide (c.1=w)&&decide (c.2.1=w))=true:=h;rw[WZ]at h';exact⟨ZI h'.1,ZI h'.2⟩
theorem dZ{w a lo hi:Int}{cs:List TS.I3}(h:Chain lo cs hi)(ha:cY w cs=some a):cs.any (br w)=false/\cs.any (br (w+1))=false/\bA (w+1) cs=bA w cs+a
:=by
 induction cs generalizing lo with
 | nil=>cases ha
 | cons c cs Q=>
  have U:bA w (c::cs)=(if c.2.1<w then c.2.2 else 0)+bA w cs:=J;have S:bA (w+1) (c::cs)=(if c.2.1<w+1 then c.2.2 else 0)+bA (w+1) cs:=J;have O:(c::cs).any (br w)=(br w c||cs.any (br w)):=J;have N:(c::cs).any (br (w+1))=(br (w+1) c||cs.any (br (w+1))):=J;have W:cY w (c::cs)=if gN w c=true then some c.2.2 else cY w cs:=J;rw[W]at ha;by_cases B:gN w c=true
  ·rw[ZL B]at ha;cases ha;obtain⟨Z,Y⟩:=zB B;have i:=kN (w:=w) h.2.2 {};have M:br w c=false:=by show(decide (0<c.2.2)&&(decide (c.1<w)&&decide (w<=c.2.1)))=false;rw[ZS (show ¬ c.1<w by lia),bd,be]
   have I:br (w+1) c=false:=by show(decide (0<c.2.2)&&(decide (c.1<w+1)&&decide (w+1<=c.2.1)))=false;rw[ZS (show ¬ w+1<=c.2.1 by lia),be,be]
   rw[U,S,O,N,M,I,ZJ (show ¬ c.2.1<w by lia),ZL (show c.2.1<w+1 by lia),i.1,i.2.1,i.2.2.1,i.2.2.2.1];exact⟨J,J,{}⟩
  ·rw[ZJ B]at ha;have g:=sM h.2.2 ha;have i:=Q h.2.2 ha;have M:br w c=false:=by show(decide (0<c.2.2)&&(decide (c.1<w)&&decide (w<=c.2.1)))=false;rw[ZS (show ¬ w<=c.2.1 by lia),be,be]
   have I:br (w+1) c=false:=by show(decide (0<c.2.2)&&(decide (c.1<w+1)&&decide (w+1<=c.2.1)))=false;rw[ZS (show ¬ w+1<=c.2.1 by lia),be,be]
   rw[U,S,O,N,M,I,ZL (show c.2.1<w by lia),ZL (show c.2.1<w+1 by lia),i.1,i.2.1,i.2.2];exact⟨J,J,{}⟩
def zA{α:Type}{cs:List α}{j:Nat}{c:α}(h:cs[j]? = some c):cs.drop j=c::cs.drop (j+1):=by obtain⟨B,e⟩:=ac h;rw[YT B,e]
theorem Fu(w:Int):∀ cs:List TS.I3,((cs.filter λc=>decide (c.2.1<w)).map λc=>c.2.2).sum=bA w cs
 | []=>rfl
 | c::cs=>by
  have B:bA w (c::cs)=(if c.2.1<w then c.2.2 else 0)+bA w cs:=J;rw[B,<- Fu w cs];by_cases h:c.2.1<w
  ·rw[ZL h,filter_cons_of_pos (by exact ZG h)];rfl
  ·rw[ZJ h,filter_cons_of_neg (by rw[ZS h];exact fnt),Int.zero_add]
def qJ:Option Int->V
 | none=>.bf
 | some a=>.int a
inductive S_(K:Fg)(vs:List V)(H:Hp)(Q:VK)(E:XK):Prop
 |mk(cl:Addr)(zs:List V)(cs:List TS.I3)(w:Int)(_:vs=[.ref cl,.int w])(_:H cl=some (.lst zs))(_:Paired (fN K H) zs cs)(_:cs.length<=100000)(_:∀ H',ag H H'->Q (qJ (cY w cs)) H')
def aa0:z.C P w 1 "many_closed" ["closed", "worth"] (S_ K):=by
 have sc:=RI;specialize z.g8;obtain⟨cl,zs,cs,wo,rfl,Z,Y,eR,q⟩:=h;refine⟨_,(aj (pO bn J (cw kb) (IE J (cF (cq 2 sc.nd) (cF (cq 3 sc.nd) (cF (cq 4 sc.nd) jq))))
 (bF (aW (PW.pt (iV (aN av bv kv) (mu (aN av bi kv))))
 (az (pr 4)))))
 (az dG)),?_⟩
 symm;refine⟨_,J,⟨_,ao.of Z⟩,iT (K:=K) (a:=cl) (xs:=zs) (λj σ G=>bR λ(U S O:Option V)=>aP (σ=[some (.ref cl),some (.int wo),U,S,O]) (ag H G) (cY wo cs=cY wo (cs.drop j))) ⟨_,_,_,J,ag.refl _,J⟩ (λj σ G _ ⟨_,_,_,_,s,_⟩=>ao.of (s _ _ Z)) ?_ ?_⟩
 ·rintro j z σ G hj ⟨U,S,O,rfl,I,B⟩;obtain⟨c,gc,t,rfl,ht⟩:=SN Y hj;rw[zA gc]at B;have W:cY wo (c::cs.drop (j+1))=if(decide (c.1=wo)&&decide (c.2.1=wo))=true then some c.2.2 else cY wo (cs.drop (j+1)):=J;rw[W]at B;exists t,_,J,I.cJ ht,J,_,_,J,_,_,J,_,_,J,J;exists J;rw[cm];by_cases N:c.1=wo
  ·refine ay (λ_=>?_) (na N);exists J;rw[cm];by_cases M:c.2.1=wo
   ·refine ay (λ_=>?_) (na M);rw[ZG N,ZG M]at B;have z:=q _ I;rw[B]at z;exact z
   ·refine ay (ny M) (λ_=>?_);rw[ZS M,be]at B;exact⟨some (.int c.1),some (.int c.2.1),some (.int c.2.2),J,I,B⟩
  ·refine ay (ny N) (λ_=>?_);rw[ZS N,bd]at B;exact ay nf (λ_=>⟨some (.int c.1),some (.int c.2.1),some (.int c.2.2),J,I,B⟩)
 ·rintro σ G ⟨U,S,O,rfl,I,B⟩;rw[Paired.length Y,drop_length]at B;have z:=q _ I;rw[B]at z;exact z
inductive S9(K:Fg)(vs:List V)(H:Hp)(Q:VK)(E:XK):Prop
 |mk(b ga:Addr)(v:V)(p:Pp)(low num many:Int)(L:Nat)(xs:List V)(gs:List G3)(_:vs=[.ref b,.ref ga,v,.int num,.int many])(_:au K H b [.int low,.int (L:Int)])(_:L<=40)(_:H ga=some (.lst xs))(_:aE H L xs gs)(_:(∀ g∈gs,aK L g))(_:gs.length<=100)(_:bt H v p)(_:p.aS<=100000)(_:∀ H',ag H H'->Q (.bl (aH L (Wh gs) p&&(gQ (bq L low p) num many))) H')
def Rl:z.C P w 46 "shows_below" wk (S9 K):=by
 have sc:=RH;specialize z.gU;obtain⟨b,ga,v,p,low,num,many,L,xs,gs,rfl,hb,hL,eG,hg,jK,rG,hp,md,q⟩:=h;refine⟨_,(aj (aW (Eh (uQ (aC (iJ z) hr (bW (aG bh kb ah) kv bv))))
 (az bx))
 (aj (aF 5 sc.nd ah)
 (aj (pO bn J (cw (aC (yd z) hr (aY kb bv))) (IE J (cF (cq 6 sc.nd) (cF (cq 7 sc.nd) (cF (cq 8 sc.nd) jq))))
 (aj (gK (aW (PW.pt (iV (aN cD (pr 8) ah) (mu (Fh bS dq (pr 6) bi (pr 7)))))
 (az bx)))
 (bF (aW (aN bS (pr 7) bi)
 (bF (aF 5 sc.nd (ae dk (pr 5) (pr 8))))))))
 (az (ki av (pr 5) (pr 4)))))),?_⟩
 symm;refine⟨_,_,hb,J,ga,v,p,L,xs,gs,J,hL,eG,hg,jK,rG,hp,λH1 Y=>⟨_,J,?_⟩⟩;by_cases O:aH L (Wh gs) p=false
 ·rw[O];have z:=q H1 Y;rw[O,bd]at z;exact bM z
 have N:aH L (Wh gs) p=true:=(by cases h:aH L (Wh gs) p with | true=>rfl | false=>exact absurd h O)
 have hk:=iP.mp N;rw[N];rw[N]at q;simp only[Bool.true_and]at q;have hf:=eX hk;refine aU ?_;refine⟨b,v,p,low,L,J,Y.cJ hb,hL,hp.tk (.same Y),hf,md,λD zs H2 s2 _ hD hz=>?_⟩;have W:=Y.trans s2;generalize bq L low p=cs at *;refine⟨D,J,⟨_,ao.of hD⟩,iT (K:=K) (a:=D) (xs:=zs) (λj σ G=>bR λ(w6 w7 w8:Option V)=>aP (σ=[some (.ref b),some (.ref ga),some v,some (.int num),some (.int many),some (.int (bA num (cs.take j))),w6,w7,w8]) (ag H2 G) ((cs.take j).any (br num)=false)) ⟨_,_,_,J,ag.refl _,J⟩ (λj σ G _ ⟨_,_,_,_,s,_⟩=>ao.of (s _ _ hD)) ?_ ?_⟩
 ·rintro j z σ G hj ⟨w6,w7,w8,rfl,U,B⟩;obtain⟨c,Z,t,rfl,ht⟩:=SN hz hj;exists t,_,J,U.cJ ht,J,_,_,J,_,_,J,_,_,J,J;have I:br num c=(decide (0<c.2.2)&&(decide (c.1<num)&&decide (num<=c.2.1))):=J;exists λσ G'=>σ=[some (.ref b),some (.ref ga),some v,some (.int num),some (.int many),some (.int (bA num (cs.take j))),some (.int c.1),some (.int c.2.1),some (.int c.2.2)]/\G'=G/\br num c=false,?_
  ·by_cases c1:0<c.2.2
   ·refine ay (λ_=>?_) (na c1);exists _,J;by_cases c2:c.1<num
    ·refine ay (λ_=>?_) (na c2);exists _,J;by_cases c3:num<=c.2.1
     ·refine ay (λ_=>?_) (na c3);have z:=q _ (W.trans U);rw[xt Z (by rw[I,ZG c1,ZG c2,ZG c3];rfl)]at z;exact z
     ·refine ay (ny c3) (λ_=>⟨J,J,by rw[I,ZS c3,be,be]⟩)
    ·refine ay (ny c2) (λ_=>?_);exact⟨_,J,ay nf (λ_=>⟨J,J,by rw[I,ZS c2,bd,be]⟩)⟩
   ·refine ay (ny c1) (λ_=>?_);exact ay nf (λ_=>⟨J,J,by rw[I,ZS c1,bd]⟩)
  ·rintro σ G' ⟨rfl,rfl,hbc⟩;have M:(cs.take (j+1)).any (br num)=false:=by rw[sS Z,B,hbc];rfl
   refine ay (λc4=>?_) (λc4=>?_)
   ·have S:=ZI c4;refine⟨some (.int c.1),some (.int c.2.1),some (.int c.2.2),?_,U,M⟩;rw[pL Z,ZL S];rfl
   ·have S:¬ c.2.1<num:=λz=>c4 (ZG z);refine⟨some (.int c.1),some (.int c.2.1),some (.int c.2.2),?_,U,M⟩;rw[pL Z,ZJ S,Int.add_zero]
 ·rintro σ G ⟨w6,w7,w8,rfl,U,B⟩;rw[Paired.length hz,WR]at B ⊢;exists J;rw[cm,<- uV B];exact q _ (W.trans U)
noncomputable def Ti(k w:Int)(cs:List TS.I3):Bool:=match cY w cs with
 | none=>false
 | some a=>decide (bA w cs<=k)&&decide (k<bA w cs+a)
inductive S8(K:Fg)(vs:List V)(H:Hp)(Q:VK)(E:XK):Prop
 |mk(b ga:Addr)(v:V)(p:Pp)(low k w:Int)(L:Nat)(xs:List V)(gs:List G3)(_:vs=[.ref b,.ref ga,v,.int k,.int w])(_:au K H b [.int low,.int (L:Int)])(_:L<=40)(_:H ga=some (.lst xs))(_:aE H L xs gs)(_:(∀ g∈gs,aK L g))(_:gs.length<=100)(_:bt H v p)(_:p.aS<=100000)(_:∀ H',ag H H'->Q (.bl (aH L (Wh gs) p&&(Ti k w (bq L low p)))) H')
def Rk:z.C P w 46 "shows_least" wc (S8 K):=by
 have sc:=RG;specialize z.gS;obtain⟨b,ga,v,p,low,k,wo,L,xs,gs,rfl,hb,hL,eG,hg,jK,rG,hp,W,q⟩:=h;refine⟨_,(aj (aW (Eh (uQ (aC (iJ z) hr (bW (aG bh kb ah) kv bv))))
 (az bx))
 (aj (aF 5 sc.nd (aC (yd z) hr (aY kb bv)))
 (aj (aF 6 sc.nd (aC (aa0 z) hr (aY (pr 5) (pr 4))))
 (aj (aF 7 sc.nd (cK (FZ J) () z.Dr sP (ar (vw (x := "least") (cl:=[("worth", s.heap.objs.size+1+0)]) (cn:=["worth"]) (TN:=["greatest", "things"]) (N:=["worth"]) (fr:=[4]) (bB:=aI Bk) J (cw (pr 5)) (λC s₂ H₂ fp=>bv) (λC s₂ H₂ fp=>Nn (aN bS kv bi)) (λC s₂ H₂ fp=>(kF (K:=K) (n:=3) J J (cF (kg (i:=0) (show(["least", "greatest", "things", "worth"]:List Str).Nodup from ⟨⟩) J (Or.inl J)) (cF (kg (i:=1) (show(["least", "greatest", "things", "worth"]:List Str).Nodup from ⟨⟩) J (Or.inl J)) (cF (kg (i:=2) (show(["least", "greatest", "things", "worth"]:List Str).Nodup from ⟨⟩) J (Or.inl J)) jq))))) (by ac_rfl) ⟨by ac_rfl,trivial⟩ J J J ⟨⟨⟩,⟨⟩,⟨⟩,⟨⟩⟩ J))))
 (az (fP (ki wF (pr 6) dG) (kJ (vh dq bS (pr 7) bi (ae dk (pr 7) (pr 6)))))))))),?_⟩
 symm;refine⟨_,_,hb,J,ga,v,p,L,xs,gs,J,hL,eG,hg,jK,rG,hp,λH1 s1=>⟨_,J,?_⟩⟩;by_cases S:aH L (Wh gs) p=false
 ·rw[S];have z:=q H1 s1;rw[S,bd]at z;exact bM z
 have O:aH L (Wh gs) p=true:=(by cases h:aH L (Wh gs) p with | true=>rfl | false=>exact absurd h S)
 have hk:=iP.mp O;rw[O];rw[O]at q;simp only[Bool.true_and]at q;have hf:=eX hk;refine aU ?_;refine⟨b,v,p,low,L,J,s1.cJ hb,hL,hp.tk (.same s1),hf,W,λD zs H2 s2 _ hD hz=>?_⟩;have Dx:=s1.trans s2;have Y:=ZT (pK L low p) W;generalize bq L low p=cs at *;have kj:zs.length=cs.length:=Paired.length hz;refine⟨D,zs,cs,wo,J,hD,hz,Y,λH3 s3=>?_⟩;have Z:=s3 _ _ hD;refine⟨_,J,⟨_,ao.of Z⟩,λl4 M=>?_⟩;refine vL (xs:=zs) (Dq {}) (λj ys I=>I=upd H3 l4 (.lst ys)/\ys.length<=j/\ys=(((cs.take j).filter λc=>decide (c.2.1<wo)).map λc=>c.2.2).map V.int) ⟨J,ZF _,J⟩ (λj ys I ⟨e,_⟩=>by rw[e];exact ao.of (aM M _ _ _ Z)) (λj ys I ⟨e,h2,_⟩=>⟨by rw[e];exact ax,h2⟩) ?_ ?_
 ·rintro j z ys I Ub ⟨rfl,e2,e3⟩;obtain⟨c,gc,ta,rfl,Uo⟩:=SN hz Ub;intro yG U
  obtain⟨x0,x1,x2,rfl⟩:=l_3 U
  ·exists ta,_,J,(s3.trans (aM M _)).cJ Uo,J,_,_,J,_,_,J,_,_,J,J,⟨[_,_,_],J,J⟩
   refine ay (λc4=>?_) (λc4=>?_)
   ·exists ax,by rw[kX],by rw[ZM];exact Nat.succ_le_succ e2
    rw[WK,gc,YW,WF,WF,<- e3];show _=ys++List.map V.int (List.map (λc=>c.2.2) (List.filter (λc=>decide (c.2.1<wo)) [c]));rw[filter_cons_of_pos (by exact c4)];rfl
   ·exists J,Nat.le_succ_of_le e2;rw[WK,gc,YW,WF,WF,<- e3];show _=ys++List.map V.int (List.map (λc=>c.2.2) (List.filter (λc=>decide (c.2.1<wo)) [c]));rw[filter_cons_of_neg (by exact c4)];exact(append_nil _).symm
 ·rintro ys I ⟨rfl,e2,rfl⟩;rw[kj,WR];have s4:=aM M (.lst (((cs.filter λc=>decide (c.2.1<wo)).map λc=>c.2.2).map V.int));have e4:=@ax H3 l4 (.lst (((cs.filter λc=>decide (c.2.1<wo)).map λc=>c.2.2).map V.int));exists l4,_,J,ao.of e4;rw[Fu];generalize upd H3 l4 (.lst (((cs.filter λc=>decide (c.2.1<wo)).map λc=>c.2.2).map V.int))=I at *;have B:=q I (Dx.trans (s3.trans s4));unfold Ti at B;cases ha:cY wo cs with
  | none=>rw[ha]at B;exists J,_,J;exact aU B
  | some al=>
   rw[ha]at B;replace B:Q (.bl (decide (bA wo cs<=k)&&decide (k<bA wo cs+al))) I:=B;refine⟨J,_,J,bM ?_⟩;exists _,J;by_cases c3:bA wo cs<=k
   ·refine ay (λ_=>?_) (na c3);rw[ZG c3,Bool.true_and]at B;exact B
   ·refine ay (ny c3) (λ_=>?_);rw[ZS c3,bd]at B;exact B
def Pp.m:Pp->Int
 | .all n=>n
 | .split n _ _=>n
def R6{e:Nat}{us:List Int}{p:Pp}(h:pU e us p):p.m=(us.length:Int):=by
 cases p with
 | all n=>cases e <;> exact h
 | split n l r=>
  cases e with
  | zero=>exact h.elim
  | succ e=>exact h.1
def bt.t1{p:Pp}(h:bt H v p):aO λa vs=>aP (v = .ref a) (au K H a vs) (fC vs 1=some (.int p.m)):= by
 cases p with
 | all n=>obtain⟨a,e,h⟩:=h;exact⟨a,_,e,au.of h,J⟩
 | split n l r=>obtain⟨a,x,y,e,h,_,_⟩:=h;exact⟨a,_,e,au.of h,J⟩
noncomputable def bj(ws ms:List Int):List P2:=ms.map λw=>(w,((ws.count w:Nat):Int))
def j5(H:Hp)(v:V)(p:P2):Prop:=∃ a,v = .ref a/\H a=some (.tup [.int p.1,.int p.2])
def j5.tk(k:aw H H')(h:j5 H v p):j5 H' v p:=by obtain⟨a,e,h⟩:=h;exact⟨a,e,(k _ _).1 h⟩
noncomputable def jc(ns:List Int)(a b:Int):Nat:=ns.countP λn=>decide (a<=n)&&decide (n<=b)
def Gj{a b:Int}{ns:List Int}(h:∀ n∈ns,a<=n->n<=b->q n=true):jc (ns.filter q) a b=jc ns a b:=by
 unfold jc;rw[List.countP_filter];refine countP_congr λn B=>?_;constructor
 ·intro z;rw[WZ]at z;exact z.1
 ·intro z;rw[WZ];exists z;rw[WZ]at z;exact h n B (ZI z.1) (ZI z.2)
theorem u_{e:Nat}{low:Int}{ns:List Int}{p:Pp}(hw:bz low e ns)(hd:pU e (bD low ns) p)(c)(I:c∈bq e low p):c.2.2=(jc ns c.1 c.2.1:Int)/\low<=c.1/\c.2.1<low+2^e
:=by
 induction p generalizing e low ns with
 | all n=>
  have U:n=(ns.length:Int):=by have:=R6 hd;rw[ZK]at this;exact this
  rw[Tp]at I;rw[eD I];refine⟨?_,WT _,by show low+2^e-1<low+2^e;lia⟩;show n=(jc ns low (low+2^e-1):Int);unfold jc;rw[List.countP_eq_length.mpr λx S=>by
   have:=hw x S;rw[ZG (show low<=x by lia),ZG (show x<=low+2^e-1 by lia)];rfl]
  exact U
 | split n l r L R=>
  obtain _ | e:=e
  ·exact hd.elim
  have W:(2:Int)^(e+1)=2^e+2^e:=by rw[Int.pow_succ];lia
  have hp:=b7 e;have h1:=hd.2.1;have h2:=hd.2.2;rw[O_ hw]at h1;rw[O9 hw]at h2;have B:c∈bq e low l++bq e (low+2^e) r:=I;rcases eC B with B | B
  ·obtain⟨M,N,O⟩:=L hw.TL h1 B;refine⟨?_,N,{}⟩;rw[M,Gj λn _ _ z=>ZG {}]
  ·obtain⟨M,N,O⟩:=R hw.U9 h2 B;refine⟨?_,{},{}⟩;rw[M,Gj λn _ z _=>ZG {}]
theorem kU{n:Int}:∀{lo hi:Int}{cs:List TS.I3},Chain lo cs hi->lo<=n->n<hi -> ∃ c∈cs,c.1<=n/\n<=c.2.1
 | lo,hi,[],h,h1,h2=>by
  have:lo=hi:=h;lia
 | lo,hi,c::cs,h,h1,h2=>by
  have M:=h.1;by_cases k:n<=c.2.1
  ·exact⟨c,ZQ,{},k⟩
  ·obtain⟨I,B,z⟩:=kU h.2.2 {} h2;exact⟨I,ZU _ B,z⟩
def PX{ns:List Int}{a b x:Int}(h1:a<=x)(h2:x<=b):ns.count x<=jc ns a b:=by
 rw[count_eq_countP];refine countP_mono_left λn _ z=>?_;have:n=x:=by simpa using z
 rw[this,ZG h1,ZG h2];rfl
def IB{ns:List Int}{x:Int}:jc ns x x=ns.count x:=by unfold jc;rw[count_eq_countP];refine countP_congr λn _=>?_;rw[WZ,decide_eq_true_iff,decide_eq_true_iff,beq_iff_eq];lia
theorem iO{w a:Int}{cs:List TS.I3}(h:cY w cs=some a):∃ c∈cs,c.1=w/\c.2.1=w/\c.2.2=a
:=by
 induction cs with
 | nil=>cases h
 | cons c cs i=>
  have M:cY w (c::cs)=if gN w c=true then some c.2.2 else cY w cs:=J;rw[M]at h;by_cases B:gN w c=true
  ·rw[ZL B]at h;cases h;exact⟨c,ZQ,(zB B).1,(zB B).2,J⟩
  ·rw[ZJ B]at h;obtain⟨N,I,z⟩:=i h;exact⟨N,ZU _ I,z⟩
def j6(H:Hp)(v:V):Option P2->Prop
 | none=>v = .bf
 | some p=>j5 H v p
theorem j6.tk{H H':Hp}(k:aw H H'){v:V}:∀{o:Option P2},j6 H v o->j6 H' v o
 | none,h=>h
 | some _,h=>j5.tk k h
def dn(w m:Int)(c:TS.I3):Bool:=decide (m<c.2.2)||(decide (c.2.2=m)&&decide (c.2.1<w))
noncomputable def cU(w m:Int)(cs:List TS.I3):Bool:=decide (0<m)&&(decide (cY w cs=some m)&&!(cs.any (dn w m)))
inductive HN(K:Fg)(vs:List V)(H:Hp)(Q:VK)(E:XK):Prop
 |mk(b ga:Addr)(v:V)(p:Pp)(low w m:Int)(L:Nat)(xs:List V)(gs:List G3)(_:vs=[.ref b,.ref ga,v,.int w,.int m])(_:au K H b [.int low,.int (L:Int)])(_:L<=40)(_:H ga=some (.lst xs))(_:aE H L xs gs)(_:(∀ g∈gs,aK L g))(_:gs.length<=100)(_:bt H v p)(_:p.aS<=100000)(_:∀ H',ag H H'->Q (.bl (aH L (Wh gs) p&&(cU w m (bq L low p)))) H')
def Ax:z.C P w 46 "shows_most" wh (HN K):=by
 have sc:=QM;specialize z.iZ;obtain⟨b,ga,v,p,low,wo,m,L,xs,gs,rfl,hb,hL,eG,hg,jK,rG,hp,md,q⟩:=h;refine⟨_,(aj (aW (PW.pt (pw_or (aN dq (pr 4) ah) (yc (Eh (uQ (aC (iJ z) hr (bW (aG bh kb ah) kv bv)))))))
 (az bx))
 (aj (aF 5 sc.nd (aC (yd z) hr (aY kb bv)))
 (aj (aW (aN bX (aC (aa0 z) hr (aY (pr 5) bi)) (pr 4))
 (az bx))
 (aj (pO bn J (cw (pr 5)) (IE J (cF (cq 6 sc.nd) (cF (cq 7 sc.nd) (cF (cq 8 sc.nd) jq))))
 (bF (aW (PW.pt (pw_or (aN cD (pr 8) (pr 4)) (yc (PW.pt (iV (aN av (pr 8) (pr 4)) (mu (aN bS (pr 7) bi)))))))
 (az bx))))
 (az bx))))),?_⟩
 symm;by_cases c:m<=0
 ·refine ay (λ_=>?_) (na c);refine ay (λ_=>?_) nr;have z:=q H (ag.refl _);unfold cU at z;rw[ZS (show ¬ 0<m by lia),bd,be]at z;exact z
 refine ay (ny c) (λ_=>?_);refine⟨_,_,hb,J,ga,v,p,L,xs,gs,J,hL,eG,hg,jK,rG,hp,λH1 s1=>⟨_,J,?_⟩⟩;by_cases S:aH L (Wh gs) p=false
 ·rw[S];have z:=q H1 s1;rw[S,bd]at z;exact bM z
 have O:aH L (Wh gs) p=true:=(by cases h:aH L (Wh gs) p with | true=>rfl | false=>exact absurd h S)
 have hk:=iP.mp O;rw[O];rw[O]at q;simp only[Bool.true_and]at q;have hf:=eX hk;refine aU ?_;refine⟨b,v,p,low,L,J,s1.cJ hb,hL,hp.tk (.same s1),hf,md,λD zs H2 s2 _ hD hz=>?_⟩;have Dx:=s1.trans s2;have B_:=ZT (pK L low p) md;generalize bq L low p=cs at *;have em:cU wo m cs=(decide (cY wo cs=some m)&&!(cs.any (dn wo m))):=by unfold cU;rw[ZG (show 0<m by lia),Bool.true_and]
 refine⟨D,zs,cs,wo,J,hD,hz,B_,λH3 s3=>?_⟩;have ec:=s3 _ _ hD;have N:=Dx.trans s3;by_cases ha:cY wo cs=some m
 ·rw[ha,ZG J,Bool.true_and]at em;rw[ha];exists J;refine ay (λz=>absurd z (by rw[show qJ (some m)=V.int m from J,ZG (show V.int m=V.int m from J)];exact fnt)) (λ_=>?_);refine⟨_,J,⟨_,ao.of ec⟩,iT (K:=K) (a:=D) (xs:=zs) (λj σ G=>bR λ(Z Y W:Option V)=>aP (σ=[some (.ref b),some (.ref ga),some v,some (.int wo),some (.int m),some (.ref D),Z,Y,W]) (ag H3 G) ((cs.take j).any (dn wo m)=false)) ⟨_,_,_,J,ag.refl _,J⟩ (λj σ G _ ⟨_,_,_,_,s,_⟩=>ao.of (s _ _ ec)) ?_ ?_⟩
  ·rintro j z σ G hj ⟨Z,Y,W,rfl,sG,I⟩;obtain⟨B,gc,t,rfl,ht⟩:=SN hz hj;exists t,_,J,(s3.trans sG).cJ ht,J,_,_,J,_,_,J,_,_,J,J;have M:dn wo m B=(decide (m<B.2.2)||(decide (B.2.2=m)&&decide (B.2.1<wo))):=J;have out:dn wo m B=true->Q (.bl false) G:=λe=>by
    have z:=q G (N.trans sG);rw[em,List.any_eq_true.mpr ⟨B,ZV gc,e⟩]at z;exact z
   have go:dn wo m B=false->bR λ(Z Y W:Option V)=>aP ([some (V.ref b),some (.ref ga),some v,some (.int wo),some (.int m),some (.ref D),some (.int B.1),some (.int B.2.1),some (.int B.2.2)]=[some (V.ref b),some (.ref ga),some v,some (.int wo),some (.int m),some (.ref D),Z,Y,W]) (ag H3 G) ((cs.take (j+1)).any (dn wo m)=false):= λe=>⟨_,_,_,J,sG,by
    rw[WK,gc,List.any_append,I];show(false||(dn wo m B||false))=false;rw[e];rfl⟩
   by_cases c1:m<B.2.2
   ·refine ay (λ_=>?_) (na c1);refine ay (λ_=>?_) nr;exact out (by rw[M,ZG c1,Bool.true_or])
   ·refine ay (ny c1) (λ_=>?_);exists J;rw[cm];by_cases c2:B.2.2=m
    ·refine ay (λ_=>?_) (na c2);by_cases c3:B.2.1<wo
     ·refine ay (λ_=>?_) (na c3);exact out (by rw[M,ZG c2,ZG c3,Bool.and_self,Bool.or_true])
     ·refine ay (ny c3) (λ_=>?_);exact go (by rw[M,ZS c1,ZS c3,be,Bool.or_false])
    ·refine ay (ny c2) (λ_=>?_);refine ay nf (λ_=>?_);exact go (by rw[M,ZS c1,ZS c2,bd,Bool.or_false])
  ·rintro σ G ⟨Z,Y,W,rfl,sG,I⟩;rw[Paired.length hz,WR]at I;have z:=q G (N.trans sG);rw[em,I]at z;exact z
 ·rw[ZS ha,bd]at em;have U:=q H3 N;rw[em]at U;cases Vo:cY wo cs with
  | none=>exists J;exact ay (λ_=>U) nr
  | some a=>exists J;have eP:¬ V.int a=V.int m:=λz=>ha (by rw[Vo,V.int.inj z]);exact ay (λ_=>U) (λz=>absurd (by rw[show qJ (some a)=V.int a from J,ZS eP];rfl) z)
noncomputable def bZ(part dQ:Int):List TS.I3->Option (List P2)
 | []=>some []
 | c::cs=>if dQ<c.2.2*part then(if c.1<c.2.1 then none else(bZ part dQ cs).map λl=>(c.1,c.2.2)::l)else bZ part dQ cs
noncomputable def sT(o:Option (List P2))(told:List P2):Bool:=match o with
 | none=>false
 | some ps=>decide (ps=told)
def EI(h:Paired (j5 H) xs ps):Hn H xs ps:=by refine⟨Paired.length h,λj x q B hq=>?_⟩;obtain⟨y,e,r⟩:=SN h B;rw[hq]at e;cases e;exact r
theorem Mv:∀{a b:List P2},a.Pairwise (λp q=>p.1<q.1)->b.Pairwise (λp q=>p.1<q.1)->(∀ p,p∈a↔p∈b)->a=b
 | [],[],_,_,_=>rfl
 | [],y::b,_,_,h=>absurd ((h y).mpr ZQ) (by simp)
 | x::a,[],_,_,h=>absurd ((h x).mp ZQ) (by simp)
 | x::a,y::b,ha,hb,h=>by
  have I:=List.pairwise_cons.mp ha;have B:=List.pairwise_cons.mp hb;have e:x=y:=by
   rcases ad ((h x).mp ZQ)with z | z
   ·exact z
   ·rcases ad ((h y).mpr ZQ)with M | M
    ·exact M.symm
    ·have h1:=B.1 x z;have h2:=I.1 y M;lia
  subst e;congr 1;refine Mv I.2 B.2 λp=>?_;constructor
  ·intro hp;rcases ad ((h p).mp (ZU _ hp))with z | z
   ·have:=I.1 p hp;rw[z]at this;lia
   ·exact z
  ·intro hp;rcases ad ((h p).mpr (ZU _ hp))with z | z
   ·have:=B.1 p hp;rw[z]at this;lia
   ·exact z
inductive S7(K:Fg)(vs:List V)(H:Hp)(Q:VK)(E:XK):Prop
 |mk(b ga tl:Addr)(v:V)(p:Pp)(low part:Int)(ts:List V)(told:List P2)(L:Nat)(xs:List V)(gs:List G3)(_:vs=[.ref b,.ref ga,v,.int part,.ref tl])(_:H tl=some (.lst ts))(_:Paired (j5 H) ts told)(_:au K H b [.int low,.int (L:Int)])(_:L<=40)(_:H ga=some (.lst xs))(_:aE H L xs gs)(_:(∀ g∈gs,aK L g))(_:gs.length<=100)(_:bt H v p)(_:p.aS<=90000)(_:(pU L (Wh gs) p -> ∀ c∈bq L low p,0<=c.2.2/\c.2.2<=1000))(_:∀ H',ag H H'->Q (.bl (aH L (Wh gs) p&&(sT (bZ part p.m (bq L low p)) told))) H')
def Rj:z.C P w 46 "shows_often" we (S7 K):=by
 have sc:=RF;specialize z.gR;obtain⟨b,ga,tl,v,p,low,part,ts,told,L,xs,gs,rfl,xf,CL,hb,hL,eG,hg,jK,rG,hp,md,Vg,q⟩:=h;refine⟨_,(aj (aW (Eh (uQ (aC (iJ z) hr (bW (aG bh kb ah) kv bv))))
 (az bx))
 (aj (aF 5 sc.nd (tS fU))
 (aj (pO bn J (cw (aC (yd z) hr (aY kb bv))) (IE J (cF (cq 6 sc.nd) (cF (cq 7 sc.nd) (cF (cq 8 sc.nd) jq))))
 (bF (aW (aN cD (ae m5 (pr 8) bi) (aG bh bv ah))
 (aj (aW (aN bS (pr 6) (pr 7))
 (az bx))
 (bF (d6 (bG YF YM YN ke (pr 5) (ar (tT (aY (pr 6) (pr 8)))))))))))
 (az (ki (wG hr.units) (pr 5) (pr 4)))))),?_⟩
 symm;refine⟨_,_,hb,J,ga,v,p,L,xs,gs,J,hL,eG,hg,jK,rG,hp,λH1 s1=>⟨_,J,?_⟩⟩;by_cases UZ:aH L (Wh gs) p=false
 ·rw[UZ];have z:=q H1 s1;rw[UZ,bd]at z;exact bM z
 have Z:aH L (Wh gs) p=true:=(by cases h:aH L (Wh gs) p with | true=>rfl | false=>exact absurd h UZ)
 have hk:=iP.mp Z;rw[Z];rw[Z]at q;simp only[Bool.true_and]at q;have Vg:=Vg hk;have hf:=eX hk;refine aU ?_;refine⟨aZ J,λU Ka H2 s2 e2=>?_⟩;have W:=s1.trans s2;refine⟨b,v,p,low,L,J,W.cJ hb,hL,hp.tk (.same W),hf,{},λD zs H3 s3 Cb hD hz=>?_⟩;have e3:=s3 _ _ e2;have hDD:D≠U:=λz=>by rw[z,e2]at Cb;cases Cb
 have back:∀ G,aq U H3 G->ag H G:=λG k c o h=>k c o (λz=>by have h1:=s1 _ _ h;rw[z,Ka]at h1;cases h1) (s3 _ _ (W _ _ h));have eQ:=ZT (pK L low p) md;generalize bq L low p=cs at *;refine⟨D,J,⟨_,ao.of hD⟩,iT (K:=K) (a:=D) (xs:=zs) (λj σ G=>lT λ(I:List P2) (fs:List V) (w5 w6 w7:Option V)=>gB (σ=[some (.ref b),some (.ref ga),some v,some (.int part),some (.ref tl),some (.ref U),w5,w6,w7]) (aq U H3 G) (G U=some (.lst fs)) (Paired (j5 G) fs I) (fs.length<=j) (bZ part p.m cs=(bZ part p.m (cs.drop j)).map λl=>I++l)) ⟨[],[],_,_,_,J,aq.refl _ _,e3,.nil,ZF _,by show bZ part p.m cs=(bZ part p.m cs).map λl=>l;cases bZ part p.m cs <;> rfl⟩ (by rintro _ _ G _ ⟨_,_,_,_,_,_,k,_⟩;exact ao.of (k _ _ hDD hD)) ?_ ?_⟩
 ·rintro j z σ G hj ⟨I,fs,w5,w6,w7,rfl,Y,N,O,S,B⟩;have KI:aw H3 G:=.keep Y e3;obtain⟨c,gc,t,rfl,ht⟩:=SN hz hj;have hcb:=Vg c (ZV gc);have hjl:j<cs.length:=(ac gc).1;obtain⟨t',et',Z0⟩:=EJ (K:=K) KI ⟨t,J,ht⟩;cases et';obtain⟨ap,X2,ev,yq,Vm⟩:=(hp.tk (.same (back G Y))).t1 (K:=K);subst ev;rw[zA gc]at B;have hbe:bZ part p.m (c::cs.drop (j+1))=if p.m<c.2.2*part then(if c.1<c.2.1 then none else(bZ part p.m (cs.drop (j+1))).map λl=>(c.1,c.2.2)::l)else bZ part p.m (cs.drop (j+1)):=J;rw[hbe]at B;exists t,_,J,Z0,J,_,_,J,_,_,J,_,_,J,J;refine⟨_,_,J,J,.inl ⟨{},{}⟩,X2,_,yq,Vm,ay (λk=>?_) (λk=>?_)⟩
  ·rw[ZL (ZI k)]at B;refine ay (λk2=>?_) (λk2=>?_)
   ·rw[ZL (ZI k2)]at B;have M:=q G (back G Y);rw[B]at M;exact M
   ·rw[ZJ λz=>k2 (ZG z)]at B;refine⟨.inl ⟨J,_,ao.of N⟩,aZ J,λa ha G2 t2 xr=>?_⟩;have Xw:=t2 _ _ N;have We:aw G2 (upd G2 U (.lst (fs++[.ref a]))):=aw.set Xw;exists U,fs,.ref a,J,J,Xw,Nat.lt_of_le_of_lt S (WG hjl (Dq {}));exists I++[(c.1,c.2.2)],fs++[.ref a],_,_,_,J,λc' o' n h=>by rw[bC n];exact t2 _ _ (Y _ _ n h),ax,SO (L2.Paired.fZ O λ_ _ z=>(z.tk (.same t2)).tk We) (.cons ⟨a,J,(We _ _).1 xr⟩ .nil),by rw[ZM];exact Nat.succ_le_succ S
    rw[B];cases bZ part p.m (cs.drop (j+1)) with
    | none=>rfl
    | some l=>show some (I++((c.1,c.2.2)::l))=some (I++[(c.1,c.2.2)]++l);rw[YS];rfl
  ·rw[ZJ λz=>k (ZG z)]at B;exact⟨I,fs,_,_,_,J,Y,N,O,Nat.le_succ_of_le S,B⟩
 ·rintro σ G ⟨I,fs,w5,w6,w7,rfl,Y,N,O,S,B⟩;rw[Paired.length hz,drop_length]at B;have sb:=back G Y;exists U,tl,fs,ts,I,told,J,J,ao.of N,ao.of (sb _ _ xf),EI O,EI (L2.Paired.fZ CL λ_ _ z=>z.tk (.same sb));have M:=q G sb;rw[B]at M;replace M:Q (.bl (decide (I++[]=told))) G:=M;rw[append_nil]at M;exact M
def cu(n:Int)(c:TS.I3):Bool:=decide (0<c.2.2)&&decide (n<c.2.1)
noncomputable def Ct(n:Int)(cs:List TS.I3):Option P2->Bool
 | none=>!(cs.any (cu n))
 | some q=>decide (n<q.1)&&(decide (0<q.2)&&(decide (cY q.1 cs=some q.2)&&!(cs.any λc=>cu n c&&decide (c.1<q.1))))
inductive Ha(K:Fg)(vs:List V)(H:Hp)(Q:VK)(E:XK):Prop
 |mk(b ga:Addr)(v tv:V)(p:Pp)(low n:Int)(told:Option P2)(L:Nat)(xs:List V)(gs:List G3)(_:vs=[.ref b,.ref ga,v,.int n,tv])(_:j6 H tv told)(_:au K H b [.int low,.int (L:Int)])(_:L<=40)(_:H ga=some (.lst xs))(_:aE H L xs gs)(_:(∀ g∈gs,aK L g))(_:gs.length<=100)(_:bt H v p)(_:p.aS<=100000)(_:∀ H',ag H H'->Q (.bl (aH L (Wh gs) p&&(Ct n (bq L low p) told))) H')
def O7:z.C P w 46 "shows_up" wj (Ha K):=by
 have sc:=Pn;specialize z.lB;obtain⟨b,ga,v,tv,p,low,n,told,L,xs,gs,rfl,Uq,hb,hL,eG,hg,jK,rG,hp,md,q⟩:=h;refine⟨_,(aj (aW (Eh (uQ (aC (iJ z) hr (bW (aG bh kb ah) kv bv))))
 (az bx))
 (aj (aF 5 sc.nd (aC (yd z) hr (aY kb bv)))
 (aj (ID (i:=6) (cl:=[("number", s.heap.objs.size+1+0)]) (cn:=["number"]) (N:=["number"]) (fr:=[3]) (bB:=aI mS) sc.nd J (Or.inl J) J (cw (pr 5)) (λC s₂ H₂ fp=>kb) (λC s₂ H₂ fp=>(PW.pt (iV (aN cD (aG (kW (K:=K) J) kb ah) ah) (mu (aN cD (aG (kW (K:=K) J) kb ah) kv))))) (by ac_rfl) ⟨by ac_rfl,trivial⟩ J J J eT J (by ac_rfl) (.inl J))
 (aj (aW (aN AX (pr 4) dG)
 (az (ki av (dH z.bE (ar (pr 6))) ah)))
 (aj (aF 7 sc.nd (aG bh (pr 4) ah))
 (aj (aW (PW.pt (pw_or (aN dq (pr 7) bi) (pw_or (aN dq (aG bh (pr 4) ah) ah) (yc (aN bX (aC (aa0 z) hr (aY (pr 5) (pr 7))) (aG bh (pr 4) ah))))))
 (az bx))
 (az (cK (Fb J) () z.Km sQ (ar (vw (x := "least") (cl:=[("worth", s.heap.objs.size+1+1)]) (cn:=["worth"]) (TN:=["greatest", "things"]) (N:=["worth"]) (fr:=[7]) (bB:=aI mS) J (cw (pr 6)) (λC s₂ H₂ fp=>(ki gA kb bi)) (λC s₂ H₂ fp=>qa) (λC s₂ H₂ fp=>(kF (K:=K) (n:=3) J J (cF (kg (i:=0) (show(["least", "greatest", "things", "worth"]:List Str).Nodup from ⟨⟩) J (Or.inl J)) (cF (kg (i:=1) (show(["least", "greatest", "things", "worth"]:List Str).Nodup from ⟨⟩) J (Or.inl J)) (cF (kg (i:=2) (show(["least", "greatest", "things", "worth"]:List Str).Nodup from ⟨⟩) J (Or.inl J)) jq))))) (by ac_rfl) ⟨by ac_rfl,trivial⟩ J J J ⟨⟨⟩,⟨⟩,⟨⟩,⟨⟩⟩ J)))))))))),?_⟩
 symm;refine⟨_,_,hb,J,ga,v,p,L,xs,gs,J,hL,eG,hg,jK,rG,hp,λH1 s1=>⟨_,J,?_⟩⟩;by_cases W:aH L (Wh gs) p=false
 ·rw[W];have z:=q H1 s1;rw[W,bd]at z;exact bM z
 have U:aH L (Wh gs) p=true:=(by cases h:aH L (Wh gs) p with | true=>rfl | false=>exact absurd h W)
 have hk:=iP.mp U;rw[U];rw[U]at q;simp only[Bool.true_and]at q;have hf:=eX hk;refine aU ?_;refine⟨b,v,p,low,L,J,s1.cJ hb,hL,hp.tk (.same s1),hf,md,λD zs H2 s2 _ hD hz=>?_⟩;have Dx:=s1.trans s2;have B_:=ZT (pK L low p) md;generalize bq L low p=cs at *;have kj:zs.length=cs.length:=Paired.length hz;refine⟨_,J,⟨_,ao.of hD⟩,λD3 ec=>?_⟩;refine yb (K:=K) (xs:=zs) (Dq {}) (λi ys G=>G=upd H2 D3 (.lst ys)/\ys.length<=i/\Paired (fN K H2) ys ((cs.take i).filter (cu n))) ⟨J,ZF _,.nil⟩ (λi ys G ⟨e,_⟩=>by rw[e];exact ao.of (aM ec _ _ _ hD)) (λi ys G ⟨e,e2,_⟩=>⟨by rw[e];exact ax,e2⟩) ?_ ?_
 ·rintro i z ys G WH ⟨rfl,e2,e3⟩;obtain⟨c,gc,t,rfl,ht⟩:=SN hz WH;have hlt:=(ac WH).1;have W3:=(aM ec (.lst ys)).cJ ht;have et:(cs.take (i+1)).filter (cu n)=(cs.take i).filter (cu n)++[c].filter (cu n):=by rw[WK,gc,YW];rfl
  have Z:cu n c=(decide (0<c.2.2)&&decide (n<c.2.1)):=J;have no:cu n c=false->Paired (fN K H2) ys ((cs.take (i+1)).filter (cu n)):=λe=>by
   rw[et,filter_cons_of_neg (by rw[e];exact fnt),filter_nil,append_nil];exact e3
  exists _,_,W3,J;by_cases c1:0<c.2.2
  ·refine ay (λ_=>?_) (na c1);exists _,_,W3,J;by_cases c2:n<c.2.1
   ·refine ay (λ_=>?_) (na c2);exists ax,by rw[kX],by rw[ZM];exact Nat.succ_le_succ e2
    rw[et,filter_cons_of_pos (by rw[Z,ZG c1,ZG c2];rfl)];exact SO e3 (.cons ⟨t,J,ht⟩ .nil)
   ·refine ay (ny c2) (λ_=>?_);exact⟨_,{},J,{},J,Nat.le_succ_of_le e2,no (by rw[Z,ZS c2,be])⟩
  ·refine ay (ny c1) (λ_=>?_);refine ay nf (λ_=>?_);exact⟨_,{},J,{},J,Nat.le_succ_of_le e2,no (by rw[Z,ZS c1,bd])⟩
 rintro ys G ⟨rfl,e2,e3⟩;rw[kj,WR]at e3;have s3:=aM ec (.lst ys);have XM:=@ax H2 D3 (.lst ys);generalize upd H2 D3 (.lst ys)=H3 at *;have O:=Dx.trans s3;have xc:ys.length=(cs.filter (cu n)).length:=Paired.length e3;cases told with
 | none=>
  cases(show tv = .bf from Uq);refine⟨J,bM ?_⟩;exists D3,_,J,.inl (ao.of XM),J;rw[cm];have B:=q H3 O;have e:Ct n cs none=decide ((ys.length:Int)=0):=by
   show(!(cs.any (cu n)))=_;rw[xc];cases z:cs.any (cu n) with
   | true=>
    obtain⟨c,Y,M⟩:=List.any_eq_true.mp z;have:0<(cs.filter (cu n)).length:=List.length_pos_iff.mpr λy=>by
     have:=List.mem_filter.mpr ⟨Y,M⟩;rw[y]at this;cases this
    rw[ZS {}];rfl
   | false=>
    have:cs.filter (cu n)=[]:=List.filter_eq_nil_iff.mpr λc Y y=>by
     rw[List.any_eq_true.mpr ⟨c,Y,y⟩]at z;cases z
    rw[this];rfl
  rw[e]at B;exact B
 | some r=>
  obtain⟨a0,rfl,J4⟩:j5 H tv r:=Uq;have Xm:=O _ _ J4;refine⟨J,aU ?_⟩;exists _,_,au.of Xm,J;have eU:Ct n cs (some r)=(decide (n<r.1)&&(decide (0<r.2)&&(decide (cY r.1 cs=some r.2)&&!(cs.any λc=>cu n c&&decide (c.1<r.1))))):=J;have I:=q H3 O;by_cases c1:r.1<=n
  ·refine ay (λ_=>?_) (na c1);refine ay (λ_=>?_) nr;rw[eU,ZS (show ¬ n<r.1 by lia),bd]at I;exact I
  refine ay (ny c1) (λ_=>?_);exists _,_,au.of Xm,J;by_cases c2:r.2<=0
  ·refine ay (λ_=>?_) (na c2);refine ay (λ_=>?_) nr;rw[eU,ZS (show ¬ 0<r.2 by lia),bd,be]at I;exact I
  refine ay (ny c2) (λ_=>?_);rw[ZG (show n<r.1 by lia),ZG (show 0<r.2 by lia),Bool.true_and,Bool.true_and]at eU;have Zm:Paired (fN K H3) zs cs:=L2.Paired.fZ hz λ_ _ z=>EJ (.same s3) z;refine⟨D,zs,cs,r.1,J,s3 _ _ hD,Zm,B_,λH4 s4=>?_⟩;have S:=O.trans s4;have ha4:=S _ _ J4;exists _,_,au.of ha4,J;by_cases ha:cY r.1 cs=some r.2
  ·rw[ha,ZG J,Bool.true_and]at eU;rw[ha];exists J;refine ay (λz=>absurd z (by rw[show qJ (some r.2)=V.int r.2 from J,ZG (show V.int r.2=V.int r.2 from J)];exact fnt)) (λ_=>?_);have XJ:=s4 _ _ XM;have e34:Paired (fN K H4) ys (cs.filter (cu n)):=L2.Paired.fZ e3 λ_ _ z=>EJ (.same (s3.trans s4)) z;refine⟨_,J,⟨_,ao.of XJ⟩,λD5 oj=>?_⟩;refine vL (xs:=ys) (Dq {}) (λj us G=>G=upd H4 D5 (.lst us)/\us.length<=j/\us=(((cs.filter (cu n)).take j).map λc=>decide (r.1<=c.1)).map V.bl) ⟨J,ZF _,J⟩ (λj us G ⟨e,_⟩=>by rw[e];exact ao.of (aM oj _ _ _ XJ)) (λj us G ⟨e,h2,_⟩=>⟨by rw[e];exact ax,h2⟩) ?_ ?_
   ·rintro j z us G Ub ⟨rfl,xr,rZ⟩;obtain⟨c,gc,ta,rfl,Uo⟩:=SN e34 Ub;intro yG B0
    obtain⟨x0,x1,x2,rfl⟩:=l_3 B0
    ·refine⟨ta,_,J,(aM oj _).cJ Uo,J,_,_,J,_,_,J,_,_,J,J,⟨[_,_,_],J,J⟩,bM ?_⟩;exists _,_,J,J,ax,by rw[kX],by rw[ZM];exact Nat.succ_le_succ xr
     rw[WK,gc,WF,WF,<- rZ];rfl
   ·rintro us G ⟨rfl,xr,rfl⟩;rw[xc,WR];have s5:=aM oj (.lst (((cs.filter (cu n)).map λc=>decide (r.1<=c.1)).map V.bl));exists D5,_,J,ao.of ax;have B:=q _ (S.trans s5);have ee:(((cs.filter (cu n)).map λc=>decide (r.1<=c.1)).all id) = !(cs.any λc=>cu n c&&decide (c.1<r.1)):=by
     cases z:cs.any λc=>cu n c&&decide (c.1<r.1) with
     | true=>
      obtain⟨c,Y,M⟩:=List.any_eq_true.mp z;rw[WZ]at M;show _=false;rw[List.all_eq_false];exact⟨_,List.mem_map.mpr ⟨c,List.mem_filter.mpr ⟨Y,M.1⟩,J⟩,by
       have:=ZI M.2;show ¬ decide (r.1<=c.1)=true;rw[ZS {}];exact fnt⟩
     | false=>
      show _=true;rw[all_eq_true];intro y hy;obtain⟨c,Y,rfl⟩:=eE hy;obtain⟨Ca,hc2⟩:=List.mem_filter.mp Y;by_cases y2:r.1<=c.1
      ·exact ZG y2
      ·rw[List.any_eq_true.mpr ⟨c,Ca,by rw[hc2,ZG (show c.1<r.1 by lia)];rfl⟩]at z;cases z
    rw[eU,<- ee]at B;exact B
  ·rw[ZS ha,bd]at eU;have B:=q H4 S;rw[eU]at B;cases Vo:cY r.1 cs with
   | none=>exists J;exact ay (λ_=>B) nr
   | some al=>exists J;have eP:¬ V.int al=V.int r.2:=λz=>ha (by rw[Vo,V.int.inj z]);exact ay (λ_=>B) (λz=>absurd (by rw[show qJ (some al)=V.int al from J,ZS eP];rfl) z)
noncomputable def ur:List (Addr×Pos×Str):=[(427,⟨323,41,323,114⟩, "paper_below.<locals>.<lambda>"),(434,⟨326,41,326,99⟩, "paper_least.<locals>.<lambda>"),(441,⟨334,4,339,19⟩, "paper_most.<locals>.must_split"),(448,⟨343,41,343,94⟩, "paper_often.<locals>.<lambda>"),(455,⟨347,4,350,49⟩, "paper_up.<locals>.must_split")]
noncomputable def fh(H:Hp):Prop:=∀ q∈ur,Tab H q.1 q.2.1 q.2.2
def ed(H H':Hp):Prop:=∀ a o,(∀ ps,o ≠ .fG ps)->H a=some o->H' a=some o
def fh.same(t:fh H)(s:ag H H'):fh H':=λq hq=>(t q hq).same s
def ed.of(s:ag H H'):ed H H':=λa o _ e=>s a o e
def ed.trans(a:ed H H1)(b:ed H1 H2):ed H H2:=λc o n e=>b c o n (a c o n e)
def ed.tk(k:ed H H'):aw H H':=λ_ _=>⟨λh=>k _ _ (by intro _ z;cases z) h,λ_ h=>k _ _ (by intro _ z;cases z) h⟩
def ed.l(k:ed H H')(h:H a=some (.lst xs)):H' a=some (.lst xs):=k _ _ (by intro _ z;cases z) h
def ed.t(k:ed H H')(h:H a=some (.tup xs)):H' a=some (.tup xs):=k _ _ (by intro _ z;cases z) h
def yO:∀ q∈ur,∀ q'∈ur,q.1=q'.1->q=q':=⟨⟩
def fh.step{B:Addr×Pos×Str}(M:B∈ur)(t:fh H)(kp:∀ b o,b≠B.1->H b=some o->H1 b=some o)(h1:Tab H1 B.1 B.2.1 B.2.2)(s:ag H1 H3):ed H H3/\fh H3:=by
 obtain⟨O,W,_⟩:=t B M;have I:∀ a o,(∀ ps,o ≠ .fG ps)->H a=some o->H1 a=some o:=λa o n e=>kp a o (λz=>by
  subst z;rw[W]at e;cases e;exact n _ J) e
 refine⟨λa o n e=>s _ _ (I a o n e),λq hq=>?_⟩;by_cases c:q.1=B.1
 ·rw[yO q hq B M c];exact h1.same s
 ·obtain⟨ps,e,h2,U⟩:=t q hq;refine Tab.same ⟨ps,kp _ _ c e,h2,?_⟩ s;rcases U with h | ⟨Y,S,vs,N,a,b,d⟩
  ·exact .inl h
  ·exact .inr ⟨Y,S,vs,N,a,I _ _ (by intro _ z;cases z) b,d⟩
def KY(num:Int):List Int->Bool
 | [a,b,c]=>decide (0<c)&&(decide (a<num)&&decide (num<=b))
 | _=>false
def KW(wo:Int):List Int->Bool
 | [a,b,_]=>decide (a<=wo)&&decide (wo<=b)
 | _=>false
def KU(wo m:Int):List Int->Bool
 | [a,b,c]=>if b<wo then decide (m<=c)else if wo<a then decide (m<c)else true
 | _=>false
def KS(part W:Int):List Int->Bool
 | [_,_,c]=>decide (W<c*part)
 | _=>false
noncomputable def KR(n:Int)(f:Option P2):List Int->Bool
 | [a,b,c]=>if c=0\/b<=n then false else match f with
  | none=>true
  | some q=>decide (a<=q.1)
 | _=>false
structure jg(K:Fg)(H:Hp)(b ga:Addr)(xs:List V)(low:Int)(L:Nat)(gs:List G3):Prop where
 b:H b=some (.tup [.int low,.int (L:Int)])
 le:L<=40
 g:H ga=some (.lst xs)
 at_:aE H L xs gs
 gd:∀ g∈gs,aK L g
 ln:gs.length<=100
 eS:(Wh gs).length<=900
 tb:fh H
def jg.kp{K:Fg}{H H':Hp}{b B:Addr}{xs:List V}{low:Int}{L:Nat}{gs:List G3}(g:jg K H b B xs low L gs)(k:ed H H')(t:fh H'):jg K H' b B xs low L gs:=⟨k.t g.b,g.le,k.l g.g,g.at_.tk k.tk,g.gd,g.ln,g.eS,t⟩
noncomputable def iD(low:Int)(L:Nat)(gs:List G3)(ψ:List Int->Bool)(H:Hp)(Q:VK):Prop:=∀(H':Hp)(v:V),ed H H'->fh H'->bt H' v (bH (f3 ψ) L low (Wh gs))->Q v H'
inductive S6(K:Fg)(vs:List V)(H:Hp)(Q:VK)(E:XK):Prop
 |mk(b ga:Addr)(xs:List V)(low num:Int)(L:Nat)(gs:List G3)(_:vs=[.ref b,.ref ga,.int num])(_:jg K H b ga xs low L gs)(_:iD low L gs (KY num) H Q)
inductive Ir(K:Fg)(vs:List V)(H:Hp)(Q:VK)(E:XK):Prop
 |mk(b ga:Addr)(xs:List V)(low part:Int)(L:Nat)(gs:List G3)(_:vs=[.ref b,.ref ga,.int part])(_:jg K H b ga xs low L gs)(_:0<=part)(_:part<=1000)(_:iD low L gs (KS part ((Wh gs).length:Nat)) H Q)
inductive AQ(K:Fg)(vs:List V)(H:Hp)(Q:VK)(E:XK):Prop
 |mk(b ga:Addr)(xs:List V)(low num:Int)(L:Nat)(gs:List G3)(_:vs=[.ref b,.ref ga,.int num])(_:jg K H b ga xs low L gs)(_:iD low L gs (KR num ((Cv L low (Wh gs)).find? λq=>decide (num<q.1))) H Q)
inductive Iq(K:Fg)(vs:List V)(H:Hp)(Q:VK)(E:XK):Prop
 |mk(b ga:Addr)(xs:List V)(low:Int)(kn L:Nat)(gs:List G3)(_:vs=[.ref b,.ref ga,.int (kn:Int)])(_:jg K H b ga xs low L gs)(_:kn<(Wh gs).length)(_:iD low L gs (KW (low+cN L (Wh gs) kn)) H Q)
inductive qf(K:Fg)(vs:List V)(H:Hp)(Q:VK)(E:XK):Prop
 |mk(b ga:Addr)(xs:List V)(low wo m:Int)(L:Nat)(gs:List G3)(_:vs=[.ref b,.ref ga])(_:jg K H b ga xs low L gs)(_:xG (cX 1 0 L low (Wh gs))=some (wo,m))(_:iD low L gs (KU wo m) H Q)
def Ip:z.C P w 47 "paper_below" lX (S6 K):=by
 have sc:=RD;refine z.dX.jd sc (λvs H Q E h=>?_) (λf A outer s H vs Q E hr h=>?_)
 ·obtain⟨b,W,xs,low,num,L,gs,rfl,_⟩:=h;rfl
 obtain⟨b,W,xs,low,num,L,gs,rfl,g,q⟩:=h;exists _,(az (Qp (cl:=[("number", s.heap.objs.size+1)]) (is:=[2]) (pG z) hr.m () ⟨⟨J,J,J,J⟩,trivial⟩ (bW kb kv (MV J z.dX.hd z.Kl J J J))))
 symm;refine⟨g.tb _ (.head _),λfa c oc vs tq pm Lx H1 yt hf hc hd Z N kp=>⟨[.int num],J,λH2 M B=>?_⟩⟩;have S:=(g.tb.step (.head _) kp N (ag.refl _))
 have I:=(g.kp S.1 S.2).kp (.of M) (S.2.same M);refine⟨b,W,fa,xs,low,L,gs,λns=>bR λ(a b c:Int)=>ns=[a,b,c],KY num,J,au.of I.b,I.le,ao.of I.g,I.at_,I.gd,I.ln,I.eS,zP _ (.nil _) (ps:=["least", "greatest", "things"]) (ys:=["number"]) Jh J (by simp) (M _ _ hf) (M _ _ hc) hd Z B (wK λ_ _ _=>J) (λns ⟨a,b,c,e⟩=>by rw[e];rfl) ?_,λa b c _ _=>⟨a,b,c,J⟩,λH' v s' hp Y bk=>?_⟩
 ·intro P w mg base A outer s;exists _,fP (ki jG (pv 2) ah) (kJ (vh jF ix (pv 0) (pv 3) (pv 1)));rintro ns ⟨a,b,c,rfl⟩;exists _,J,_,_,J,J,_,J;refine ay (λh=>?_) (λh=>?_)
  ·exists _,J,_,J,_,_,J,J,_,J;refine ay (λh'=>⟨_,J,_,_,J,J,?_⟩) (λh'=>?_)
   ·show V.bl _=V.bl (decide (0<c)&&(decide (a<num)&&decide (num<=b)));rw[show decide (0<c)=true from h,show decide (a<num)=true from h',Bool.true_and,Bool.true_and]
   ·show V.bl _=V.bl (decide (0<c)&&(decide (a<num)&&decide (num<=b)));rw[show decide (a<num)=false from Bool.eq_false_iff.mpr h',bd,be]
  ·show V.bl _=V.bl (decide (0<c)&&(decide (a<num)&&decide (num<=b)));rw[show decide (0<c)=false from Bool.eq_false_iff.mpr h,bd]
 ·have O:ag H1 Y:=λb o e=>bk _ _ (s' _ _ (M _ _ e)) (.inl (by rw[e];simp));have U:=g.tb.step (.head _) kp N O;exact q Y v U.1 U.2 (hp.tp λb xs e=>bk _ _ e (.inr (by intro _ _ z;cases z)))
def S5:z.C P w 47 "paper_often" ["bounds", "gathering", "part"] (Ir K):=by
 have sc:=RB;refine z.dU.jd sc (λvs H Q E h=>?_) (λf A outer s H vs Q E hr h=>?_)
 ·obtain⟨b,Y,xs,low,part,L,gs,rfl,_⟩:=h;rfl
 obtain⟨b,Y,xs,low,part,L,gs,rfl,g,p0,p1,q⟩:=h;refine⟨_,(aj (aF 3 sc.nd (aC (dE z) hr (ar kv)))
 (az (Qp (cl:=[("whole", s.heap.objs.size+2),("part", s.heap.objs.size+1)]) (is:=[3,2]) (pG z) hr.m () ⟨⟨J,J,J,J⟩,⟨J,J,J,J⟩,trivial⟩ (bW kb kv (MV J z.dU.hd z.Kl J J J))))),?_⟩
 symm;refine⟨Y,xs,L,gs,J,ao.of g.g,g.at_,ZT g.ln ∅,λH0 U=>?_⟩;have hm:(448,⟨343,41,343,94⟩,("paper_often.<locals>.<lambda>" : Str))∈ur:=⟨⟩
 have O:=g.kp (.of U) (g.tb.same U);rw[IL g.gd];refine⟨O.tb _ hm,λfa c oc vs tq pm Lx H1 yt hf hc hd hv N kp=>⟨[.int ((Wh gs).length:Nat),.int part],J,λH2 M B=>?_⟩⟩;have W:=(O.tb.step hm kp N (ag.refl _))
 have I:=(O.kp W.1 W.2).kp (.of M) (W.2.same M);refine⟨b,Y,fa,xs,low,L,gs,λns=>bR λ(a b c:Int)=>aP (ns=[a,b,c]) (0<=c) (c<=1000),KS part ((Wh gs).length:Nat),J,au.of I.b,I.le,ao.of I.g,I.at_,I.gd,I.ln,I.eS,zP _ (.nil _) (ps:=["least", "greatest", "things"]) (ys:=["whole", "part"]) Jh J (by simp) (M _ _ hf) (M _ _ hc) hd hv B (wK λ_ _ _=>J) (λns ⟨a,b,c,e,_,_⟩=>by rw[e];rfl) ?_,λa b c h0 h1=>⟨a,b,c,J,h0,h1⟩,λH' v s' hp H3 bk=>?_⟩
 ·intro P w mg base A outer s;exists _,Ai jG (ae m5 (pv 2) (pv 4)) (pv 3) (uZ _);rintro ns ⟨a,b,c,rfl,c0,c1⟩;exact⟨_,J,_,J,_,_,J,J,.inl ⟨{},{}⟩,_,J,_,_,J,J,J⟩
 ·have S:ag H1 H3:=λb o e=>bk _ _ (s' _ _ (M _ _ e)) (.inl (by rw[e];simp));have Z:=O.tb.step hm kp N S;exact q H3 v ((ed.of U).trans Z.1) Z.2 (hp.tp λb xs e=>bk _ _ e (.inr (by intro _ _ z;cases z)))
def S4:z.C P w 47 "paper_least" qx (Iq K):=by
 have sc:=RC;refine z.dW.jd sc (λvs H Q E h=>?_) (λf A outer s H vs Q E hr h=>?_)
 ·obtain⟨b,ga,xs,low,N,L,gs,rfl,_⟩:=h;rfl
 obtain⟨b,ga,xs,low,N,L,gs,rfl,g,hk,q⟩:=h;refine⟨_,(aj (aF 3 sc.nd (aG bh (aC (Fy z) hr (bW kb kv bv)) ah))
 (az (Qp (cl:=[("worth", s.heap.objs.size+1)]) (is:=[3]) (pG z) hr.m () ⟨⟨J,J,J,J⟩,trivial⟩ (bW kb kv (MV J z.dW.hd z.Kl J J J))))),?_⟩
 symm;refine⟨b,ga,xs,low,L,N,gs,J,au.of g.b,g.le,g.g,g.at_,g.gd,g.ln,g.eS,hk,λpa j pl H0 W Z _=>?_⟩;have hm:(434,⟨326,41,326,99⟩,("paper_least.<locals>.<lambda>" : Str))∈ur:=⟨⟩
 have S:=g.kp (.of W) (g.tb.same W);refine⟨_,_,Z,J,S.tb _ hm,λfa c oc vs tq pm Lx H1 yt hf hc hd hv O kp=>⟨[.int (low+cN L (Wh gs) N)],J,λH2 M B=>?_⟩⟩;have Y:=(S.tb.step hm kp O (ag.refl _))
 have I:=(S.kp Y.1 Y.2).kp (.of M) (Y.2.same M);refine⟨b,ga,fa,xs,low,L,gs,λns=>bR λ(a b c:Int)=>ns=[a,b,c],KW (low+cN L (Wh gs) N),J,au.of I.b,I.le,ao.of I.g,I.at_,I.gd,I.ln,I.eS,zP _ (.nil _) (ps:=["least", "greatest", "things"]) (ys:=["worth"]) Jh J (by simp) (M _ _ hf) (M _ _ hc) hd hv B (wK λ_ _ _=>J) (λns ⟨a,b,c,e⟩=>by rw[e];rfl) ?_,λa b c h0 h1=>⟨a,b,c,J⟩,λH' v s' hp H3 bk=>?_⟩
 ·intro P w mg base A outer s;exists _,vh ix ix (pv 0) (pv 3) (pv 1);rintro ns ⟨a,b,c,rfl⟩;generalize low+cN L (Wh gs) N=wo at *;exists _,J,_,J,_,_,J,J,_,J;refine ay (λh=>⟨_,J,_,_,J,J,?_⟩) (λh=>?_)
  ·show V.bl _=V.bl (decide (a<=wo)&&decide (wo<=b));rw[show decide (a<=wo)=true from h,Bool.true_and]
  ·show V.bl _=V.bl (decide (a<=wo)&&decide (wo<=b));rw[show decide (a<=wo)=false from Bool.eq_false_iff.mpr h,bd]
 ·have U:ag H1 H3:=λb o e=>bk _ _ (s' _ _ (M _ _ e)) (.inl (by rw[e];simp));have k3:=S.tb.step hm kp O U;exact q H3 v ((ed.of W).trans k3.1) k3.2 (hp.tp λb xs e=>bk _ _ e (.inr (by intro _ _ z;cases z)))
def vD:z.C P w 47 "paper_most" qw (qf K):=by
 have sc:=QL;refine z.eI.jd sc (λvs H Q E h=>?_) (λf A outer s H vs Q E hr h=>?_)
 ·obtain⟨b,ga,xs,low,wo,m,L,gs,rfl,_⟩:=h;rfl
 obtain⟨b,ga,xs,low,wo,m,L,gs,rfl,g,J2,q⟩:=h;refine⟨_,(aj (aF 2 sc.nd (aC (wI z) hr (aY kb kv)))
 (aj (aW (aN AX bv dG)
 (bF dF))
 (aj (aF 3 sc.nd (aG bh bv ah))
 (aj (aF 4 sc.nd (aG bh bv ah))
 (aj (MU (i:=5) J z.eI.hd z.Kl J J J J J sc.nd J (Or.inl J) (.inr J))
 (az (Qp (cl:=[("worth", s.heap.objs.size+2),("many", s.heap.objs.size+1)]) (is:=[3,4]) (pG z) hr.m () ⟨⟨J,J,J,J⟩,⟨J,J,J,J⟩,trivial⟩ (bW kb kv (pr 5))))))))),?_⟩
 symm;refine⟨b,ga,xs,low,L,gs,J,au.of g.b,g.le,ao.of g.g,g.at_,g.gd,g.ln,g.eS,λH0 v0 Y N=>?_⟩;rw[J2]at N;obtain⟨a0,rfl,O⟩:lP H0 v0 (wo,m):=N;refine⟨J,aU ?_⟩;have hm:(441,⟨334,4,339,19⟩,("paper_most.<locals>.must_split" : Str))∈ur:=⟨⟩
 have U:=g.kp (.of Y) (g.tb.same Y);exists _,_,au.of O,J;exists _,_,au.of O,J;refine⟨U.tb _ hm,λfa c oc vs tq doc pm Lx H1 yt hf hc hd hv S kp=>?_⟩;have Z:=(U.tb.step hm kp S (ag.refl _))
 refine⟨[.int wo,.int m],J,λH2 M B=>?_⟩;have I:=(U.kp Z.1 Z.2).kp (.of M) (Z.2.same M);refine⟨b,ga,fa,xs,low,L,gs,λns=>bR λ(a b c:Int)=>ns=[a,b,c],KU wo m,J,au.of I.b,I.le,ao.of I.g,I.at_,I.gd,I.ln,I.eS,Ee _ (.nil _) (ps:=["least", "greatest", "things"]) (ys:=["worth", "many"]) Jh J (by simp) (M _ _ hf) (M _ _ hc) hd hv B (wK λ_ _ _=>J) (λns ⟨a,b,c,e⟩=>by rw[e];rfl) ?_,λa b c h0 h1=>⟨a,b,c,J⟩,λH' v s' hp H3 bk=>?_⟩
 ·intro P w mg base A outer s;exists _,aj (aW (tV jF (pv 1) (pv 3)) (az (ki gA (pv 2) (pv 4)))) (aj (aW (tV jG (pv 0) (pv 3)) (az (ki jG (pv 2) (pv 4)))) (az bx));rintro ns ⟨a,b,c,rfl⟩;refine⟨_,J,_,J,_,_,J,J,_,J,ay (λh=>?_) (λh=>?_)⟩
  ·exists _,J,_,J,_,_,J,J;show V.bl _=V.bl (if b<wo then decide (m<=c)else _);rw[ZL (ZI h)]
  refine⟨_,J,_,J,_,_,J,J,_,J,ay (λh'=>?_) (λh'=>?_)⟩
  ·exists _,J,_,J,_,_,J,J;show V.bl _=V.bl (if b<wo then _ else if wo<a then _ else true);rw[ZJ λz=>h (ZG z),ZL (ZI h')]
  ·show V.bl _=V.bl (if b<wo then _ else if wo<a then _ else true);rw[ZJ λz=>h (ZG z),ZJ λz=>h' (ZG z)]
 ·have W:ag H1 H3:=λb o e=>bk _ _ (s' _ _ (M _ _ e)) (.inl (by rw[e];simp));have k3:=U.tb.step hm kp S W;exact q H3 v ((ed.of Y).trans k3.1) k3.2 (hp.tp λb xs e=>bk _ _ e (.inr (by intro _ _ z;cases z)))
def G_:z.C P w 47 "paper_up" lX (AQ K):=by
 have sc:=Pl;refine z.gg.jd sc (λvs H Q E h=>?_) (λf A outer s H vs Q E hr h=>?_)
 ·obtain⟨b,ga,xs,low,num,L,gs,rfl,_⟩:=h;rfl
 obtain⟨b,ga,xs,low,num,L,gs,rfl,g,q⟩:=h;refine⟨_,(aj (aF 3 sc.nd (aC (NT z) hr (bW kb kv bv)))
 (aj (MU (i:=4) J z.gg.hd z.Kl J J J J J sc.nd J (Or.inl J) (.inr J))
 (az (Qp (cl:=[("number", s.heap.objs.size+1),("found", s.heap.objs.size+2)]) (is:=[2,3]) (pG z) hr.m () ⟨⟨J,J,J,J⟩,⟨J,J,J,J⟩,trivial⟩ (bW kb kv (pr 4)))))),?_⟩
 symm;refine⟨b,ga,xs,low,num,L,gs,J,au.of g.b,g.le,g.g,g.at_,g.gd,g.ln,g.eS,λS H0 s0 U=>?_⟩;have hm:(455,⟨347,4,350,49⟩,("paper_up.<locals>.must_split" : Str))∈ur:=⟨⟩
 have g0:=g.kp (.of s0) (g.tb.same s0);generalize (Cv L low (Wh gs)).find? (λq=>decide (num<q.1))=fo at *;refine⟨g0.tb _ hm,λfa c oc vs tq doc pm Lx H1 yt hf hc hd hv Y kp=>?_⟩;have k1:=(g0.tb.step hm kp Y (ag.refl _))
 refine⟨[.int num,S],J,λH2 N B=>?_⟩;have M:=(g0.kp k1.1 k1.2).kp (.of N) (k1.2.same N);obtain⟨H9,tp,W⟩:∃ H9:Hp,mh H9 H2/\VX H9 S fo:=by
  cases fo with
  | none=>exact⟨_,.nil _,U⟩
  | some p=>
   obtain⟨Z,rfl,I⟩:lP H0 S p:=U;refine⟨λx=>if x=Z then some (.tup [.int p.1,.int p.2])else none,λx o e=>?_,Z,J,ZL J⟩;by_cases c:x=Z
   ·have e':=(ZL c).symm.trans e;cases e';rw[c];exact⟨N _ _ (k1.1.t I),_,J⟩
   ·cases(ZJ c).symm.trans e
 refine⟨b,ga,fa,xs,low,L,gs,λns=>bR λ(a b c:Int)=>ns=[a,b,c],KR num fo,J,au.of M.b,M.le,ao.of M.g,M.at_,M.gd,M.ln,M.eS,Ee H9 tp (ps:=["least", "greatest", "things"]) (ys:=["number", "found"]) Jh J (by simp) (N _ _ hf) (N _ _ hc) hd hv B (wK λ_ _ _=>J) (λns ⟨a,b,c,e⟩=>by rw[e];rfl) ?_,λa b c h0 h1=>⟨a,b,c,J⟩,λH' v s' hp H3 bk=>?_⟩
 ·intro P w mg base A outer s;exists _,aj (aW (PW.pt (pw_or (tV av (pv 2) ah) (yc (tV ix (pv 1) (pv 3))))) (az bx)) (az (IS (ki AX (pv 4) dG) (kJ (ki ix (pv 0) (yj (w_ (K:=K) J) (pv 4) ah (λ_ _=>J))))));rintro ns ⟨a,b,O,rfl⟩;refine⟨_,J,J,_,J,ay (λh=>?_) (λh=>?_)⟩
  ·refine ay (λ_=>?_) nr;show V.bl _=V.bl (if O=0\/b<=num then false else _);rw[ZL (.inl (V.int.inj (ZI h)))]
  ·have h0:¬ O=0:=λz=>h (ZG (congrArg V.int z));refine⟨_,J,_,J,_,_,J,J,_,J,ay (λh'=>?_) (λh'=>?_)⟩
   ·show V.bl _=V.bl (if O=0\/b<=num then false else _);rw[ZL (.inr (ZI h'))]
   ·have e:∀ x:Bool,(if O=0\/b<=num then false else x)=x:=λx=>ZJ λz=>z.elim h0 λz=>h' (ZG z);cases fo with
    | none=>cases(show S = .bf from W);refine⟨_,J,J,_,J,bM ?_⟩;show V.bl _=V.bl (if O=0\/b<=num then false else true);rw[e]
    | some p=>obtain⟨Z,rfl,I⟩:lP H9 S p:=W;refine⟨_,J,J,_,J,aU ?_⟩;exists _,J,_,J,Z,_,_,_,J,J,au.of I,J,_,_,J,J;show V.bl _=V.bl (if O=0\/b<=num then false else decide (a<=p.1));rw[e]
 ·have Cw:ag H1 H3:=λb o e=>bk _ _ (s' _ _ (N _ _ e)) (.inl (by rw[e];simp));have k3:=g0.tb.step hm kp Y Cw;exact q H3 v ((ed.of s0).trans k3.1) k3.2 (hp.tp λb xs e=>bk _ _ e (.inr (by intro _ _ z;cases z)))
def Q5{e:Nat}{w:Int}{us:List Int}(h:us.Perm vs):(af e w us).Perm (af e w vs):=(h.filter _).map _
theorem PV(q:Int->Bool)(m:Int)(ns:List Int):(ns.filter q).length=((ns.filter λn=>decide (n<m)).filter q).length+((ns.filter λn=>decide (m<=n)).filter q).length
:=by
 induction ns with
 | nil=>rfl
 | cons n ns M=>
  by_cases c:n<m
  ·have I:¬ m<=n:={}
   rw[filter_cons (p:=λn=>decide (n<m)),ZL (ZG c),filter_cons (p:=λn=>decide (m<=n)),ZJ (by rw[ZS I];exact fnt)];by_cases B:q n=true
   ·rw[filter_cons_of_pos B,filter_cons_of_pos B,WB,WB];lia
   ·rw[filter_cons_of_neg B,filter_cons_of_neg B];exact M
  ·have I:m<=n:={}
   rw[filter_cons (p:=λn=>decide (n<m)),ZJ (by rw[ZS c];exact fnt),filter_cons (p:=λn=>decide (m<=n)),ZL (ZG I)];by_cases B:q n=true
   ·rw[filter_cons_of_pos B,filter_cons_of_pos B,WB,WB];lia
   ·rw[filter_cons_of_neg B,filter_cons_of_neg B];exact M
theorem Ws{num:Int}{e:Nat}{low:Int}{ns:List Int}{p:Pp}(hw:bz low e ns)(hd:pU e (bD low ns) p)(I:(bq e low p).any (br num)=false):bA num (bq e low p)=((ns.filter λn=>decide (n<num)).length:Int)
:=by
 induction p generalizing e low ns with
 | all n=>
  have U:n=(ns.length:Int):=by have:=R6 hd;rw[ZK]at this;exact this
  have hp:=b7 e;rw[Tp]at I ⊢;have B:br num (low,low+2^e-1,n)=false:=by have:(br num (low,low+2^e-1,n)||false)=false:=I;rwa [Bool.or_false]at this
  have es:bA num [(low,low+2^e-1,n)]=(if low+2^e-1<num then n else 0)+0:=J;rw[es,Int.add_zero];by_cases N:low+2^e-1<num
  ·rw[ZL N,List.filter_eq_self.mpr λx M=>ZG (by have:=hw x M;lia)];exact U
  ·rw[ZJ N];by_cases W:low<num
   ·have Y:¬ 0<n:=λz=>by
     have:br num (low,low+2^e-1,n)=true:=by show(decide (0<n)&&(decide (low<num)&&decide (num<=low+2^e-1)))=true;rw[ZG z,ZG W,ZG {}];rfl
     rw[B]at this;cases this
    have:ns=[]:=eq_nil_of_length_eq_zero {};rw[this];rfl
   ·rw[List.filter_eq_nil_iff.mpr λx M z=>by have:=hw x M;have:=ZI z;lia];rfl
 | split n l r L R=>
  obtain _ | e:=e
  ·exact hd.elim
  have B:(bq e low l++bq e (low+2^e) r).any (br num)=false:=I;rw[List.any_append,Bool.or_eq_false_iff]at B;have h1:=hd.2.1;have h2:=hd.2.2;rw[O_ hw]at h1;rw[O9 hw]at h2;have S:=L hw.TL h1 B.1;have O:=R hw.U9 h2 B.2;show bA num (bq e low l++bq e (low+2^e) r)=_;have es:bA num (bq e low l++bq e (low+2^e) r)=bA num (bq e low l)+bA num (bq e (low+2^e) r):=by unfold bA;rw[WF,sum_append]
  rw[es,S,O,PV (λn=>decide (n<num)) (low+2^e) ns];lia
def r0{num many:Int}{cs:List TS.I3}(h:gQ cs num many=true):cs.any (br num)=false/\bA num cs=many:=by
 grind [gQ,br,bA]
theorem AO{part dQ lo hi:Int}{cs:List TS.I3}{ps:List P2}(M:Chain lo cs hi)(h:bZ part dQ cs=some ps):ps.Pairwise (λp q=>p.1<q.1)/\(∀ p∈ps,lo<=p.1) /\ ∀ p,p∈ps↔∃ c∈cs,c.1=p.1/\c.2.1=p.1/\c.2.2=p.2/\dQ<c.2.2*part
:=by
 induction cs generalizing lo ps with
 | nil=>
  cases h;exact⟨.nil,λp hp=>absurd hp (by simp),λp=>⟨λz=>absurd z (by simp),λ⟨c,M,_⟩=>absurd M (by simp)⟩⟩
 | cons c cs i=>
  have e0:bZ part dQ (c::cs)=if dQ<c.2.2*part then(if c.1<c.2.1 then none else(bZ part dQ cs).map λl=>(c.1,c.2.2)::l)else bZ part dQ cs:=J;rw[e0]at h;have h1:=M.1;have h2:=M.2.1;by_cases k:dQ<c.2.2*part
  ·rw[ZL k]at h;by_cases k2:c.1<c.2.1
   ·rw[ZL k2]at h;cases h
   ·rw[ZJ k2]at h;cases ho:bZ part dQ cs with
    | none=>rw[ho]at h;cases h
    | some qs=>
     rw[ho]at h;cases h;obtain⟨Z,W,U⟩:=i M.2.2 ho;refine⟨List.pairwise_cons.mpr ⟨λp hp=>?_,Z⟩,λp hp=>?_,λp=>?_⟩
     ·have:=W p hp;show c.1<p.1;lia
     ·rcases ad hp with z | z
      ·rw[z];show lo<=c.1;lia
      ·have:=W p z;lia
     ·constructor
      ·intro hp;rcases ad hp with z | z
       ·rw[z];exact⟨c,ZQ,J,by show c.2.1=c.1;lia,J,k⟩
       ·obtain⟨I,B,z'⟩:=(U p).mp z;exact⟨I,ZU _ B,z'⟩
      ·rintro ⟨I,B,S,Y,O,N⟩;rcases ad B with z | z
       ·subst z;exact List.mem_cons.mpr (.inl (Prod.ext S.symm O.symm))
       ·exact ZU _ ((U p).mpr ⟨I,z,S,Y,O,N⟩)
  ·rw[ZJ k]at h;obtain⟨Z,W,U⟩:=i M.2.2 h;refine⟨Z,λp hp=>by have:=W p hp;lia,λp=>?_⟩;rw[U p];constructor
   ·rintro ⟨I,B,z⟩;exact⟨I,ZU _ B,z⟩
   ·rintro ⟨I,B,S,Y,O,N⟩;rcases ad B with z | z
    ·subst z;exact absurd N k
    ·exact⟨I,z,S,Y,O,N⟩
theorem Av{part dQ:Int}{cs:List TS.I3}(h:bZ part dQ cs≠none)(c)(B:c∈cs)(hk:dQ<c.2.2*part):¬ c.1<c.2.1:=by
 induction cs with
 | nil=>cases B
 | cons d cs i=>
  have M:bZ part dQ (d::cs)=if dQ<d.2.2*part then(if d.1<d.2.1 then none else(bZ part dQ cs).map λl=>(d.1,d.2.2)::l)else bZ part dQ cs:=J;rw[M]at h;by_cases k:dQ<d.2.2*part
  ·rw[ZL k]at h;by_cases I:d.1<d.2.1
   ·rw[ZL I]at h;exact absurd J h
   ·rw[ZJ I]at h;rcases ad B with z | z
    ·rw[z];exact I
    ·exact i (λy=>h (by rw[y];rfl)) z
  ·rw[ZJ k]at h;rcases ad B with z | z
   ·rw[z]at hk;exact absurd hk k
   ·exact i h z
def aa1{e:Nat}{low part dQ:Int}{ws ms:List Int}{p:Pp}{told:List P2}(hw:bz low e ws)(hd:pU e (bD low ws) p)(hm:∀ x,x∈ms↔x∈ws)(hs:ms.Pairwise (·<·))(og:1<=part)(Uq:0<=dQ)(h:sT (bZ part dQ (bq e low p)) told=true):told=(bj ws ms).filter λq=>decide (dQ<q.2*part):=by
 have N:=Ge (low:=low) (eX hd);cases O:bZ part dQ (bq e low p) with
 | none=>rw[O]at h;cases h
 | some ps=>
  rw[O]at h;have S:ps=told:=ZI h;subst S;obtain⟨i1,_,i3⟩:=AO N O;have U:=Av (part:=part) (dQ:=dQ) (cs:=bq e low p) (by rw[O];exact λz=>by cases z);refine Mv i1 ?_ λq=>?_
  ·refine List.Pairwise.filter _ ?_;unfold bj;rw[pairwise_map];exact hs
  ·rw[i3 q,mem_filter];constructor
   ·rintro ⟨c,hc,c1,c2,c3,c4⟩;have pc:=(u_ hw hd c hc).1;rw[c1,c2,IB]at pc;have Z:0<c.2.2:=by refine Classical.byContradiction λz=>?_;have:c.2.2*part<=0*part:=Int.mul_le_mul_of_nonneg_right {} {};lia
    exists List.mem_map.mpr ⟨q.1,(hm _).mpr (List.count_pos_iff.mp {}),Prod.ext J (by show((ws.count q.1:Nat):Int)=q.2;lia)⟩;rw[<- c3];exact ZG c4
   ·rintro ⟨hq,hk⟩;obtain⟨x,hx,rfl⟩:=eE hq;have W:=ZI hk;have I:=(hm x).mp hx;obtain⟨d,B,d1,d2⟩:=kU N (hw x I).1 (hw x I).2;have Y:=(u_ hw hd d B).1;have pg:=PX (ns:=ws) d1 d2;have hle:((ws.count x:Nat):Int)*part<=d.2.2*part:=Int.mul_le_mul_of_nonneg_right {} {};have M:dQ<d.2.2*part:=by have U1:dQ<((ws.count x:Nat):Int)*part:=W;lia
    have hn:=U d B M;have e1:d.1=x:={}
    have e2:d.2.1=x:={}
    rw[e1,e2,IB]at Y;exact⟨d,B,e1,e2,Y,M⟩
def xC{ws us:List Int}{low n:Int}(h:ws.Perm (us.map λo=>low+o)):ws.count n=us.count (n-low):=by rw[h.count_eq,count_eq_countP,countP_map,count_eq_countP];refine countP_congr λo _=>?_;show(low+o==n)=true↔(o==n-low)=true;rw[beq_iff_eq,beq_iff_eq];lia
def Au{L:Nat}{low:Int}{us ws ms:List Int}(B:fE L us)(I:ws.Perm (us.map λo=>low+o))(hm:∀ w,w∈ms↔w∈ws)(hs:ms.Pairwise (·<·)):bj ws ms=cX 1 0 L low us:=by
 refine Mv ?_ (vd L low us B) λ⟨x,m⟩=>?_
 ·unfold bj;rw[pairwise_map];exact hs
 ·rw[FC L low us B x m,<- xC I];unfold bj;rw[mem_map];constructor
  ·rintro ⟨y,M,e⟩;have N:=List.count_pos_iff.mpr ((hm y).mp M);cases e;exact⟨J,{}⟩
  ·rintro ⟨rfl,h⟩;exact⟨x,(hm x).mpr (List.count_pos_iff.mp {}),J⟩
theorem Mu{x:Int}{W:List Int}{k:Nat}(hs:W.Pairwise (· <= ·))(h1:W.countP (λy=>decide (y<x))<=k)(h2:k<W.countP (λy=>decide (y<x+1))):W[k]? = some x:=by
 induction W generalizing k with
 | nil=>cases h2
 | cons a W i=>
  obtain⟨M,B⟩:=List.pairwise_cons.mp hs;rw[countP_cons]at h1 h2;by_cases O:a<x
  ·rw[ZL (ZG O)]at h1;rw[ZL (ZG {})]at h2;cases k with
   | zero=>lia
   | succ k=>rw[getElem?_cons_succ];exact i B {} {}
  ·rw[ZJ (λz=>O (ZI z))]at h1;have U:W.countP (λy=>decide (y<x))=0:=List.countP_eq_zero.mpr λy I z=>by
    have:=M y I;have:=ZI z;lia
   by_cases N:a<x+1
   ·rw[ZL (ZG N)]at h2;cases k with
    | zero=>rw[List.getElem?_cons_zero];congr 1;lia
    | succ k=>rw[getElem?_cons_succ];exact i B {} {}
   ·rw[ZJ (λz=>N (ZI z))]at h2;have S:W.countP (λy=>decide (y<x+1))=0:=List.countP_eq_zero.mpr λy I z=>by
     have:=M y I;have:=ZI z;lia
    lia
inductive Qs where
 | below (n a:Int)
 | least (k:Nat) (wo:Int)
 | most (wo m:Int)
 | aL (part:Int) (ps:List P2)
 | up (n:Int) (o:Option P2)
noncomputable def Qs.yg(len:Int):Qs->List Int->Bool
 | .below n _=>KY n
 | .least _ wo=>KW wo
 | .most wo m=>KU wo m
 | .aL part _=>KS part len
 | .up n o=>KR n o
noncomputable def Qs.sh(len:Int):Qs->List TS.I3->Bool
 | .below n a,cs=>gQ cs n a
 | .least k wo,cs=>Ti k wo cs
 | .most wo m,cs=>cU wo m cs
 | .aL part ps,cs=>sT (bZ part len cs) ps
 | .up n o,cs=>Ct n cs o
noncomputable def Qs.ok(ws ms:List Int):Qs->Prop
 | .below n a=>a=((ws.filter λx=>decide (x<n)).length:Int)
 | .least k wo=>(ws.filter λx=>decide (x<wo)).length<=k/\k<(ws.filter λx=>decide (x<wo)).length+ws.count wo
 | .most wo m=>0<m/\m=(ws.count wo:Int)/\(∀ x,(ws.count x:Int)<=m) /\ ∀ x,x<wo->(ws.count x:Int)<m
 | .aL part ps=>1<=part/\ps=(bj ws ms).filter λq=>decide ((ws.length:Int)<q.2*part)
 | .up n none=>∀ x∈ws,x<=n
 | .up n (some q)=>n<q.1/\0<q.2/\q.2=(ws.count q.1:Int) /\ ∀ x∈ws,n<x->q.1<=x
theorem Q4{wo:Int}{cs:List TS.I3}{c:TS.I3}(hc:c∈cs)(h1:c.1=wo)(h2:c.2.1=wo):∃ a,cY wo cs=some a:=by
 induction cs with
 | nil=>cases hc
 | cons d cs i=>
  have B:cY wo (d::cs)=if gN wo d=true then some d.2.2 else cY wo cs:=J;rw[B];by_cases hd:gN wo d=true
  ·rw[ZL hd];exact⟨_,J⟩
  ·rw[ZJ hd];rcases ad hc with z | z
   ·refine absurd ?_ hd;rw[<- z];show(decide (c.1=wo)&&decide (c.2.1=wo))=true;rw[ZG h1,ZG h2];rfl
   ·exact i z
def HM(ws:List Int)(n:Int):(ws.filter λx=>decide (x<n)).length=ws.countP λx=>decide (x<n):=List.countP_eq_length_filter.symm
section
variable {L:Nat}{low:Int}{ws ms:List Int}{p:Pp}(hw:bz low L ws)(hd:pU L (bD low ws) p)
include hw hd
theorem R5{c:TS.I3}{wo:Int}(M:c∈bq L low p)(h1:c.1=wo)(h2:c.2.1=wo):cY wo (bq L low p)=some (ws.count wo:Int):=by obtain⟨a,I⟩:=Q4 M h1 h2;obtain⟨d,B,S,O,N⟩:=iO I;have:=(u_ hw hd d B).1;rw[S,O,IB,N]at this;rw[I,this]
theorem AN{q:Qs}(hm:∀ x,x∈ms↔x∈ws)(hs:ms.Pairwise (·<·))(hq:q.ok ws ms)(O:∀ c∈bq L low p,c.1=c.2.1\/q.yg ws.length [c.1,c.2.1,c.2.2]=false):q.sh ws.length (bq L low p)=true:=by
 have Y:=Ge (low:=low) (eX hd);have W:=u_ hw hd;have one:∀ c∈bq L low p,c.1=c.2.1->c.2.2=(ws.count c.1:Int):=λc B e=>by
  have:=(W c B).1;rw[<- e,IB]at this;exact this
 have S:∀ x,0<ws.count x -> ∃ c∈bq L low p,c.1<=x/\x<=c.2.1:=λx hx=>by
  have:=hw x (List.count_pos_iff.mp hx);exact kU Y this.1 this.2
 cases q with
 | below n a=>
  have nb:(bq L low p).any (br n)=false:=List.any_eq_false.mpr λc B z=>by
   have I:(decide (0<c.2.2)&&(decide (c.1<n)&&decide (n<=c.2.1)))=true:=z;rcases O c B with e | e
   ·rw[WZ,WZ]at I;have:=ZI I.2.1;have:=ZI I.2.2;lia
   ·exact absurd (I.symm.trans e) ∅
  show gQ _ n a=true;rw[uV nb,Ws hw hd nb];exact ZG hq.symm
 | least k wo=>
  obtain⟨h1,h2⟩:=hq;obtain⟨c,B,Z,c2⟩:=S wo {};have e:c.1=c.2.1:=(O c B).resolve_right λz=>by
   have I:(decide (c.1<=wo)&&decide (wo<=c.2.1))=false:=z;rw[ZG Z,ZG c2]at I;cases I
  have U:=R5 hw hd B (wo:=wo) {} {};have nb:=(dZ Y U).1;show Ti k wo _=true;unfold Ti;rw[U,Ws hw hd nb];show(decide _&&decide _)=true;rw[ZG {},ZG {}];rfl
 | most wo m=>
  obtain⟨h0,h1,h2,h3⟩:=hq;obtain⟨c,B,Z,c2⟩:=S wo {};have e:c.1=c.2.1:=(O c B).resolve_right λz=>by
   have I:(if c.2.1<wo then decide (m<=c.2.2)else if wo<c.1 then decide (m<c.2.2)else true)=false:=z;rw[ZJ {},ZJ {}]at I;cases I
  have U:=R5 hw hd B (wo:=wo) {} {};have no:(bq L low p).any (dn wo m)=false:=List.any_eq_false.mpr λd N z=>by
   have I:(decide (m<d.2.2)||(decide (d.2.2=m)&&decide (d.2.1<wo)))=true:=z;rw[Bool.or_eq_true,WZ,WV,WV,WV]at I;rcases O d N with e | e
   ·have:=one d N e;have:=h2 d.1;have:=h3 d.1;lia
   ·have M:(if d.2.1<wo then decide (m<=d.2.2)else if wo<d.1 then decide (m<d.2.2)else true)=false:=e;by_cases k1:d.2.1<wo
    ·rw[ZL k1,decide_eq_false_iff_not]at M;lia
    ·rw[ZJ k1]at M;by_cases k2:wo<d.1
     ·rw[ZL k2,decide_eq_false_iff_not]at M;lia
     ·rw[ZJ k2]at M;cases M
  show cU wo m _=true;unfold cU;rw[U,<- h1,no,ZG h0,ZG J];rfl
 | aL part ps=>
  obtain⟨h1,h2⟩:=hq;have ex:∀ cs:List TS.I3,(∀ c∈cs,(ws.length:Int)<c.2.2*part -> ¬ c.1<c.2.1) -> ∃ l,bZ part ws.length cs=some l:=by
   intro cs
   induction cs with
   | nil=>exact λ_=>⟨_,J⟩
   | cons d cs ih=>
    intro h;obtain⟨l,hl⟩:=ih λc B=>h c (ZU _ B);have e0:bZ part ws.length (d::cs)=if(ws.length:Int)<d.2.2*part then(if d.1<d.2.1 then none else(bZ part ws.length cs).map λl=>(d.1,d.2.2)::l)else bZ part ws.length cs:=J;rw[e0,hl];by_cases k:(ws.length:Int)<d.2.2*part
    ·rw[ZL k,ZJ (h d ZQ k)];exact⟨_,J⟩
    ·rw[ZJ k];exact⟨_,J⟩
  obtain⟨l,hl⟩:=ex (bq L low p) λc B k z=>by
   rcases O c B with e | e
   ·lia
   ·have M:decide ((ws.length:Int)<c.2.2*part)=false:=e;rw[ZG k]at M;cases M
  have hp:=aa1 (part:=part) (dQ:=ws.length) (told:=l) hw hd hm hs h1 {} (by rw[hl];exact ZG J);show sT (bZ part ws.length _) ps=true;rw[hl,h2,hp];exact ZG J
 | up n o=>
  cases o with
  | none=>
   have hq':∀ x∈ws,x<=n:=hq;show(!((bq L low p).any (cu n)))=true;rw[List.any_eq_false.mpr λc B z=>?_]
   ·rfl
   have I:(decide (0<c.2.2)&&decide (n<c.2.1))=true:=z;rw[WZ,WV,WV]at I;rcases O c B with e | e
   ·have h1:=one c B e;have:=hq' c.1 (List.count_pos_iff.mp {});lia
   ·have M:(if c.2.2=0\/c.2.1<=n then false else true)=false:=e;rw[ZJ {}]at M;cases M
  | some r=>
   obtain⟨h1,h2,h3,h4⟩:n<r.1/\0<r.2/\r.2=(ws.count r.1:Int) /\ ∀ x∈ws,n<x->r.1<=x:=hq;obtain⟨c,B,Z,c2⟩:=S r.1 {};have cg:=PX (ns:=ws) Z c2;have cc:=(W c B).1;have e:c.1=c.2.1:=(O c B).resolve_right λz=>by
    have I:(if c.2.2=0\/c.2.1<=n then false else decide (c.1<=r.1))=false:=z;rw[ZJ {},ZG Z]at I;cases I
   have U:=R5 hw hd B (wo:=r.1) {} {};have no:((bq L low p).any λc=>cu n c&&decide (c.1<r.1))=false:=List.any_eq_false.mpr λd N z=>by
    have I:((decide (0<d.2.2)&&decide (n<d.2.1))&&decide (d.1<r.1))=true:=z;rw[WZ,WZ,WV,WV,WV]at I;rcases O d N with e | e
    ·have h5:=one d N e;have:=h4 d.1 (List.count_pos_iff.mp {}) {};lia
    ·have M:(if d.2.2=0\/d.2.1<=n then false else decide (d.1<=r.1))=false:=e;rw[ZJ {},ZG {}]at M;cases M
   show(decide (n<r.1)&&(decide (0<r.2)&&(decide (cY r.1 _=some r.2)&&!(_))))=true;rw[no,U,<- h3,ZG h1,ZG h2,ZG J];rfl
end
theorem mq{φ:Int->Int->Int->Bool}:∀(e:Nat)(low:Int)(us:List Int),pU e us (bH φ e low us)
 | 0,_,_=>rfl
 | e+1,low,us=>by
  unfold bH;split
  ·exact⟨J,mq e _ _,mq e _ _⟩
  ·rfl
theorem fW{e:Nat}{us vs:List Int}{p:Pp}(h:us.Perm vs)(d:pU e us p):pU e vs p:=by
 induction p generalizing e us vs with
 | all n=>cases e <;> (show n=_;rw[<- h.length_eq];exact d)
 | split n l r L R=>
  obtain _ | e:=e
  ·exact d
  ·exact⟨by rw[<- h.length_eq];exact d.1,L (Q5 h) d.2.1,R (Q5 h) d.2.2⟩
theorem HL(e:Nat)(low:Int)(us:List Int)(c)(B:c∈bq e low (bH φ e low us)):c.1=c.2.1\/φ c.1 c.2.1 c.2.2=false
:=by
 induction e generalizing low us with
 | zero=>
  have e:c=(low,low+2^0-1,(us.length:Int)):=eD B;rw[e];exact .inl (by show low=low+2^0-1;lia)
 | succ e i=>
  unfold bH at B;split at B
  ·rcases eC (show c∈bq e low _++bq e (low+2^e) _ from B)with h | h
   ·exact i low _ h
   ·exact i _ _ h
  ·rename_i k;have e:c=(low,low+2^(e+1)-1,(us.length:Int)):=eD B;rw[e];exact .inr (Bool.eq_false_iff.mpr k)
def gI(low:Int)(e:Nat)(g:Int):Nat:=if low<=g/\g<low+2^e then 1 else 0
def xm(low:Int)(e:Nat)(g:Int):gI low e g+gI (low+2^e) e g<=gI low (e+1) g:=by
 have h2:(2:Int)^(e+1)=2^e+2^e:=by rw[Int.pow_succ];lia
 have hp:=b7 e;unfold gI;split <;> split <;> split <;> lia
theorem mJ(g:Int)(h:∀ a b c:Int,φ a b c=true->c≠0\/(a<=g/\g<=b))(e:Nat)(low:Int)(us:List Int):(bH φ e low us).aS<=e*(us.length+gI low e g)+1
:=by
 induction e generalizing low us with
 | zero=>
  show 1<=_;lia
 | succ e i=>
  unfold bH;split
  ·rename_i k;have N:=i low (af e 0 us);have M:=i (low+2^e) (af e 1 us);have hs:=vK (e:=e) us;have O:=xm low e g;have h1:1<=us.length+gI low (e+1) g:=by
    rcases h _ _ _ k with z | z
    ·lia
    ·have:gI low (e+1) g=1:=ZL {};lia
   show(bH φ e low (af e 0 us)).aS+(bH φ e (low+2^e) (af e 1 us)).aS<=_;have I:e*((af e 0 us).length+gI low e g)+e*((af e 1 us).length+gI (low+2^e) e g)<=e*(us.length+gI low (e+1) g):=by rw[<- Nat.mul_add];exact Nat.mul_le_mul_left _ {}
   have B:(e+1)*(us.length+gI low (e+1) g)=e*(us.length+gI low (e+1) g)+(us.length+gI low (e+1) g):=Nat.succ_mul ..;lia
  ·show 1<=_;lia
def Qs.g:Qs->Int
 | .least _ wo=>wo
 | .most wo _=>wo
 | _=>0
def Qs.lv{q:Qs}(h:q.ok ws ms)(len:Int)(N:0<=len):∀ a b c:Int,f3 (q.yg len) a b c=true->c≠0\/(a<=q.g/\q.g<=b):=λa b c k=>by
 cases q with
 | below n x=>have B:(decide (0<c)&&(decide (a<n)&&decide (n<=b)))=true:=k;rw[WZ,WV]at B;exact .inl {}
 | least B wo=>have B:(decide (a<=wo)&&decide (wo<=b))=true:=k;rw[WZ,WV,WV]at B;exact .inr B
 | most wo m=>
  have B:(if b<wo then decide (m<=c)else if wo<a then decide (m<c)else true)=true:=k;have O:=h.1;by_cases I:b<wo
  ·rw[ZL I,WV]at B;exact .inl {}
  ·rw[ZJ I]at B;by_cases M:wo<a
   ·rw[ZL M,WV]at B;exact .inl {}
   ·exact .inr ⟨by show a<=wo;lia,by show wo<=b;lia⟩
 | aL part ps=>have B:len<c*part:=ZI k;refine .inl λz=>?_;rw[z,Int.zero_mul]at B;lia
 | up n o=>refine .inl λz=>?_;have B:(if c=0\/b<=n then false else _)=true:=k;rw[ZL (.inl z)]at B;cases B
noncomputable def Qs.pap(low:Int)(L:Nat)(us:List Int)(q:Qs):Pp:=bH (f3 (q.yg us.length)) L low us
section
variable {L:Nat}{low:Int}{us ws ms:List Int}{q:Qs}(hw:bz low L ws)(hp:(bD low ws).Perm us)(hL:L<=40)(h9:us.length<=900)(hm:∀ x,x∈ms↔x∈ws)(hs:ms.Pairwise (·<·))(hq:q.ok ws ms)
include hw hp hL h9 hm hs hq
theorem oI:q.sh us.length (bq L low (q.pap low L us))=true:=by
 have B:us.length=ws.length:=by rw[<- hp.length_eq,ZK]
 have hd:pU L (bD low ws) (q.pap low L us):=fW hp.symm (mq L low us);have:=AN hw hd hm hs hq (λc I=>by rw[<- B];exact HL L low us c I);rw[B];exact this
end
structure dc(C:Addr)(H:Hp)(x ka b:Addr)(low:Int)(L:Nat)(rs cs:LL):Prop where
 o:∃ dx,H x=some (.ins C dx [("bounds", .ref b),("kept", .ref ka)])
 hb:H b=some (.tup [.int low,.int (L:Int)])
 hL:L<=40
 len:cs.length=rs.length
 eS:rs.length<=100
 hk:∃ es:List V,aP (H ka=some (.lst es)) (es.length=rs.length) (∀(j:Nat)(r c:List Int),rs[j]? = some r->cs[j]? = some c ->
  bR λ(p a:Addr) (v:V)=>cP (es[j]? = some (.ref p)) (H p=some (.tup [v,.ref a])) (AL H v (grow low L r)) (H a=some (.tup (c.map V.int))))
 ok:∀ r∈rs,bz low L r/\r.length<=200
def dc.keep{low:Int}{L:Nat}(M:dc C H x ka b low L rs cs)(k:aq p H H')(e:H p=some (.lst ys))(n:ka≠p):dc C H' x ka b low L rs cs:=by obtain⟨dx,B⟩:=M.o;obtain⟨es,h1,h2,O⟩:=M.hk;have tk:aw H H':=.keep k e;refine⟨⟨dx,k _ _ (bc B e (by intro z;cases z)) B⟩,(tk _ _).1 M.hb,M.hL,M.len,M.eS,⟨es,k _ _ n h1,h2,λj r c hr N=>?_⟩,M.ok⟩;obtain⟨I,a,v,Y,W,U,S⟩:=O j r c hr N;exact⟨I,a,v,Y,(tk _ _).1 W,U.tk tk,(tk _ _).1 S⟩
def dc.same{low:Int}{L:Nat}(M:dc C H x ka b low L rs cs)(s:ag H H'):dc C H' x ka b low L rs cs:=by obtain⟨dx,I⟩:=M.o;obtain⟨es,h1,h2,O⟩:=M.hk;have tk:aw H H':=.same s;refine⟨⟨dx,s _ _ I⟩,s _ _ M.hb,M.hL,M.len,M.eS,⟨es,s _ _ h1,h2,λj r c hr N=>?_⟩,M.ok⟩;obtain⟨B,a,v,Y,W,U,S⟩:=O j r c hr N;exact⟨B,a,v,Y,s _ _ W,U.tk tk,s _ _ S⟩
def dc.snoc{low:Int}{L:Nat}{B:LL}{r c:List Int}(M:dc C H x ka b low L B cs)(I:H ka=some (.lst es))(k:aq ka H H')(hp:H' p=some (.tup [v,.ref a]))
  (hv:AL H v (grow low L r)) (ha:H a=some (.tup (c.map V.int))) (hw:bz low L r) (hl:r.length<=200) (hn:B.length<=99) (h':H' ka=some (.lst (es++[.ref p]))):dc C H' x ka b low L (B++[r]) (cs++[c]):=by
 obtain⟨dx,W⟩:=M.o;obtain⟨N,h1,h2,h3⟩:=M.hk;obtain rfl:N=es:=by rw[I]at h1;injection h1 with h1;injection h1 with h1;exact h1.symm
 have tk:aw H H':=.keep k I;have hlen:=M.len;refine⟨⟨dx,k _ _ (bc W I (by intro z;cases z)) W⟩,(tk _ _).1 M.hb,M.hL,by rw[ZM,ZM,M.len];rfl,by rw[ZM];show B.length+1<=100;lia,⟨_,h',by rw[ZM,ZM,h2];rfl,λj O Y hr S=>?_⟩,λO h1=>?_⟩
 ·by_cases hj:j<B.length
  ·rw[WO hj]at hr;rw[WO {}]at S;obtain⟨p',a',Z,e1,e2,e3,e4⟩:=h3 j O Y hr S;exact⟨p',a',Z,by rw[WO {}];exact e1,(tk _ _).1 e2,e3.tk tk,(tk _ _).1 e4⟩
  ·have U:j=B.length:=by have:=(ac hr).1;rw[ZM]at this;have t2:j<B.length+1:=this;lia
   subst U;rw[WM (ZF _),Nat.sub_self]at hr;rw[WM {},show B.length-cs.length=0 by lia]at S;obtain rfl:r=O:=am hr;obtain rfl:c=Y:=am S;exact⟨p,a,v,by rw[WM {},show B.length-N.length=0 by lia];rfl,hp,hv.tk tk,(tk _ _).1 ha⟩
 ·rcases eC h1 with h | h
  ·exact M.ok _ h
  ·obtain rfl:O=r:=by simpa using h
   exact⟨hw,hl⟩
def Made(C:Addr)(H:Hp)(x ka b:Addr)(low:Int)(L:Nat)(B cs:LL)(r c:List Int)(Q:VK):Prop:=
 ∀ H':Hp,aq ka H H'->dc C H' x ka b low L (B++[r]) (cs++[c])->Q (.int (B.length:Int)) H'
def Made.of{low:Int}{L:Nat}(q:Made C H x ka b low L rs cs r c Q)(s:ag H H1):Made C H1 x ka b low L rs cs r c Q:=
 λH' k M=>q H' ((aq.same s).trans k) M
inductive Ft(u0:Fg)(C:Addr)(vs:List V)(H:Hp)(Q:VK)(E:XK):Prop
 |mk(x ka b a:Addr)(v:V)(low:Int)(L:Nat)(rs cs:LL)(r c:List Int)(_:vs=[.ref x,v,.ref a])(_:dc C H x ka b low L rs cs)(_:AL H v (grow low L r))(_:H a=some (.tup (c.map V.int)))(_:bz low L r)(_:r.length<=200)(_:rs.length<=99)(_:Made C H x ka b low L rs cs r c Q)
inductive mB(u0:Fg)(C:Addr)(vs:List V)(H:Hp)(Q:VK)(E:XK):Prop
 |mk(x b dx:Addr)(low:Int)(L:Nat)(_:vs=[.ref x,.ref b])(_:H x=some (.ins C dx []))(_:H b=some (.tup [.int low,.int (L:Int)]))(_:L<=40)(_:∀(ka:Addr)(H':Hp),H ka=none->aq x H H'->dc C H' x ka b low L [[]] [[]]->Q .bf H')
inductive mz(u0:Fg)(C:Addr)(vs:List V)(H:Hp)(Q:VK)(E:XK):Prop
 |mk(x ka b:Addr)(j:Nat)(low:Int)(L:Nat)(rs cs:LL)(r c:List Int)(_:vs=[.ref x,.int (j:Int)])(_:dc C H x ka b low L rs cs)(_:rs[j]? = some r)(_:cs[j]? = some c)(_:∀(p a:Addr)(v:V),H p=some (.tup [v,.ref a])->AL H v (grow low L r)->H a=some (.tup (c.map V.int))->Q (.ref p) H)
inductive PU(u0:Fg)(C:Addr)(vs:List V)(H:Hp)(Q:VK)(E:XK):Prop
 |mk(x ka b:Addr)(j:Nat)(low:Int)(L:Nat)(rs cs:LL)(r:List Int)(_:vs=[.ref x,.int (j:Int)])(_:dc C H x ka b low L rs cs)(_:rs[j]? = some r)(_:∀ v:V,AL H v (grow low L r)->Q v H)
inductive Su(u0:Fg)(C:Addr)(vs:List V)(H:Hp)(Q:VK)(E:XK):Prop
 |mk(x ka b:Addr)(j st en:Nat)(low:Int)(L:Nat)(rs cs:LL)(r:List Int)(_:vs=[.ref x,.int (j:Int),.int (st:Int),.int (en:Int)])(_:dc C H x ka b low L rs cs)(_:rs[j]? = some r)(_:st<=en)(_:en<=r.length)(_:∀(p:Addr)(v:V)(H':Hp),ag H H'->AL H' v (grow low L r)->H' p=some (.tup [v,.int (st:Int),.int (en:Int)])->Q (.ref p) H')
inductive R3(K:Fg)(C:Addr)(vs:List V)(H:Hp)(Q:VK)(E:XK):Prop
 |mk(x ka b l:Addr)(low:Int)(L:Nat)(rs cs:LL)(r:List Int)(_:vs=[.ref x,.ref l])(_:dc C H x ka b low L rs cs)(_:ao K H l (r.map V.int))(_:bz low L r)(_:r.length<=200)(_:rs.length<=99)(_:Made C H x ka b low L rs cs r [] Q)
def dc.row{low:Int}{L j:Nat}(M:dc C H x ka b low L rs cs)(h:rs[j]? = some r):∃ c,cs[j]? = some c:=by have:=(ac h).1;have:=M.len;exact⟨cs[j]'{},ZP _⟩
def Fs(z:Bz K mg base uA uB uC uD uE uF uG uH):ij P w K mg base 1 uG "keep" ["self", "tree", "sources"] (Ft K uG):=by
 have sc:=MJ;refine z.sD.jd z.bU λf fd F=>F.k sc λ_ _ _ s H _ Q _ hr h=>?_;obtain⟨x,ka,b,a,v,low,L,W,cs,r,c,rfl,M,hv,ha,hw,hl,hn,q⟩:=h;refine⟨_,(aj (d6 (bG YF YM YN ke (HH kb J) (ar (vj (aY kv bv)))))
 (az (ae lW (dH z.bE (ar (HH kb J))) ah))),?_⟩
 symm;obtain⟨dx,hx⟩:=M.o;obtain⟨es,I,N,_⟩:=M.hk;refine⟨x,_,dx,_,_,J,hx,z.bU,z.nK,J,.inl ⟨J,_,ao.of I⟩,aZ J,λp hp=>?_⟩;obtain⟨H1,gz,U,e1⟩:=cH hp (.tup [v,.ref a]);rw[gz];have B:=U _ _ I;exists ka,es,_,J,J,B,by rw[N];exact fM {}
 have Y:aq ka H (upd H1 ka (.lst (es++[.ref p]))):=(aq.same U).trans (aq.set ka H1 _);have Z:=@ax H1 ka (.lst (es++[.ref p]));have e3:upd H1 ka (.lst (es++[.ref p])) p=some (.tup [v,.ref a]):=(aw.set B _ _).1 e1;generalize upd H1 ka (.lst (es++[.ref p]))=H2 at *;have M2:=M.snoc I Y e3 hv ha hw hl hn Z;obtain⟨S,O⟩:=M2.o;exists x,_,S,_,_,J,O,z.bU,z.nK,J,ka,_,J,.inl (ao.of Z);have en:(((es++[V.ref p]).length:Nat):Int)-1=(W.length:Int):=by rw[ZM,N];show((W.length+1:Nat):Int)-1=_;lia
 show Q (.int ((((es++[V.ref p]).length:Nat):Int)-1)) H2;rw[en];exact q _ Y M2
def NQ(z:Bz K mg base uA uB uC uD uE uF uG uH):xP P w K mg base 2 uG jC (mB K uG):=by
 have sc:=NZ;specialize z.nU;obtain⟨x,b,dx,low,L,rfl,hx,hb,hL,q⟩:=h;refine⟨_,(aj (Ff kb kv J)
 (aj (Ff kb (zX fU) J)
 (bF (d6 (Bp (Fs z) hr.m kb (aY dG (vj fU))))))),?_⟩
 symm;exists x,_,dx,_,J,hx,z.bU,z.nB,∅;have Y:b≠x:=bc hb hx (by intro z;cases z);have k1:aq x H (upd H x (.ins uG dx (cb "bounds" (.ref b) []))):=aq.set x H _;have e1:upd H x (.ins uG dx (cb "bounds" (.ref b) [])) x=some (.ins uG dx [("bounds", .ref b)]):=ax;generalize upd H x (.ins uG dx (cb "bounds" (.ref b) []))=H1 at *;refine⟨aZ J,λka B=>?_⟩;have N:H ka=none:=by
  cases e:H ka with
  | none=>rfl
  | some o=>
   exfalso;by_cases I:ka=x
   ·rw[I,e1]at B;cases B
   ·rw[k1 _ _ I e]at B;cases B
 obtain⟨H2,Z,s2,e2⟩:=cH B (.lst []);rw[Z];exists x,_,dx,_,J,s2 _ _ e1,z.bU,z.nK,by show 1<1000;decide
 have I:ka≠x:=λh=>by rw[h,e1]at B;cases B
 have k3:aq x H2 (upd H2 x (.ins uG dx (cb "kept" (.ref ka) [("bounds", .ref b)]))):=aq.set x H2 _;have e3:upd H2 x (.ins uG dx (cb "kept" (.ref ka) [("bounds", .ref b)])) x=some (.ins uG dx [("bounds", .ref b),("kept", .ref ka)]):=ax;generalize upd H2 x (.ins uG dx (cb "kept" (.ref ka) [("bounds", .ref b)]))=H3 at *;refine⟨x,dx,_,J,e3,J,aZ J,λp hp=>?_⟩;obtain⟨H4,Z,U,e4⟩:=cH hp (.tup []);rw[Z];have S:aq x H H3:=k1.trans ((aq.same s2).trans k3);have M:dc uG H4 x ka b low L [] []:=⟨⟨dx,U _ _ e3⟩,U _ _ (S _ _ Y hb),hL,J,∅,⟨[],U _ _ (k3 _ _ I e2),J,λj r c g=>by cases g⟩,λr g=>by cases g⟩
 refine⟨x,ka,b,p,.bf,low,L,[],[],[],[],J,M,by rw[vq];rfl,e4,(λ_ h=>by cases h),∅,∅,λH5 k5 M5=>?_⟩;refine q ka H5 N ?_ M5;intro c o hc O;refine k5 c o ?_ (U _ _ (S _ _ hc O));intro W;rw[W,N]at O;cases O
def NO(z:Bz K mg base uA uB uC uD uE uF uG uH):ij P w K mg base 1 uG "found" jA (mz K uG):=by
 have sc:=NY;refine z.nT.jd z.bU λf fd F=>F.k sc λ_ _ _ s H _ Q _ hr h=>?_;obtain⟨x,ka,b,j,low,L,rs,cs,r,c,rfl,M,g,O,q⟩:=h;refine⟨_,(aj (aW (PW.pt (pw_or (aN bS kv ah) (yc (aN gA kv (dH z.bE (ar (HH kb J)))))))
 (bF dF))
 (az (aG cS (HH kb J) kv))),?_⟩
 symm;obtain⟨dx,I⟩:=M.o;obtain⟨es,B,N,S⟩:=M.hk;obtain⟨p,a,v,Z,Y,W,U⟩:=S j r c g O;have hj:=(ac g).1;exists x,_,dx,_,_,J,I,z.bU,z.nK,J,ka,_,J,.inl (ao.of B),_,_,J,J;refine ay (λc=>absurd (ZI c) {}) (λ_=>?_);exact⟨x,_,dx,_,_,J,I,z.bU,z.nK,J,_,_,ao.of B,dm Z,q p a v Y W U⟩
def DQ(z:Bz K mg base uA uB uC uD uE uF uG uH):ij P w K mg base 2 uG "tree" jA (PU K uG):=by
 have sc:=MK;refine z.su.jd z.bU λf fd F=>F.k sc λ_ _ _ s H _ Q _ hr h=>?_;obtain⟨x,ka,b,j,low,L,B,cs,r,rfl,M,g,q⟩:=h;exists _,(az (aG bh (Bp (NO z) hr.m kb (ar kv)) ah))
 symm;obtain⟨dx,I⟩:=M.o;obtain⟨c,N⟩:=M.row g;exact⟨x,dx,_,J,I,J,x,ka,b,j,low,L,B,cs,r,c,J,M,g,N,λp a v S O _=>⟨_,_,au.of S,J,q v O⟩⟩
def Fq(z:Bz K mg base uA uB uC uD uE uF uG uH):ij P w K mg base 3 uG "stretch" ["self", "make", "start", "end"] (Su K uG):=by
 have sc:=FI;refine z.j3.jd z.bU λf fd F=>F.k sc λ_ _ _ s H _ Q _ hr h=>?_;obtain⟨x,ka,b,j,st,S,low,L,N,cs,r,rfl,M,g,h1,h2,q⟩:=h;refine⟨_,(aj (aF 4 sc.nd (Bp (DQ z) hr.m kb (ar kv)))
 (aj (aW (Eh (Ek dq dq dq ah bv bi (aC (Gv z) hr (ar (pr 4)))))
 (bF dF))
 (az (vj (bW (pr 4) bv bi))))),?_⟩
 symm;obtain⟨dx,O⟩:=M.o;refine⟨x,dx,_,J,O,J,x,ka,b,j,low,L,N,cs,r,J,M,g,λv I=>?_⟩;exists _,J,_,J;refine ay (λ_=>?_) (λc=>absurd (ZG {}) c);exists v,_,J,I,_,J;rw[DW];refine du {} ?_;refine⟨aZ J,λp hp=>?_⟩;have B:=aM hp (.tup [v,.int (st:Int),.int (S:Int)]);exact q p v _ B (I.same B) ax
def O6(z:Bz K mg base uA uB uC uD uE uF uG uH):ij P w K mg base 43 uG "of_row" jz (R3 K uG):=by
 have sc:=Pb;refine z.lL.jd z.bU λf fd F=>F.k sc λ_ _ _ s H _ Q _ hr h=>?_;obtain⟨x,ka,b,l,low,L,S,cs,r,rfl,M,Y,hw,W,hm,q⟩:=h;exists _,(az (Bp (Fs z) hr.m kb (aY (aC (Gw z) hr (aY (HH kb J) kv)) (tT fU))))
 symm;obtain⟨dx,N⟩:=M.o;refine⟨x,dx,_,J,N,J,x,_,dx,_,_,J,N,z.bU,z.nB,J,b,l,low,L,r,J,au.of M.hb,M.hL,Y,{},hw,λH1 v O U=>?_⟩;refine⟨aZ J,λp hp H2 I Z=>?_⟩;have B:=O.trans I;exact⟨x,ka,b,p,v,low,L,S,cs,r,[],J,M.same B,U.same I,Z,hw,W,hm,q.of B⟩
def dep:Pp->Nat
 | .all _=>0
 | .split _ l r=>1+max (dep l) (dep r)
def nodes:Pp->Nat
 | .all _=>1
 | .split _ l r=>1+nodes l+nodes r
def okN(n:Int):Prop:=0<=n/\n<10^50
def ou:Pp->Prop
 | .all n=>okN n
 | .split n l r=>okN n/\ou l/\ou r
def aB:Pp->List Nat
 | .all n=>fg n
 | .split n l r=>fg n++40::(aB l++44::(aB r++[41]))
def fY{n:Int}(h:okN n):(∀ c∈fg n,bV c=true)/\kx (fg n)=some n/\1<=(fg n).length/\(fg n).length<=50:=by
 obtain⟨m,rfl⟩:=Int.eq_ofNat_of_zero_le h.1;have hm:m<10^50:=by have:=h.2;lia
 have B:=rT 49 m hm;exact⟨λc I=>(R8 c).mpr (SQ m c I),pF hm,B.1,B.2⟩
theorem EH:∀{p:Pp},ou p->nodes p<=(aB p).length
 | .all n,h=>(fY h).2.2.1
 | .split n l r,h=>by
  have h1:=EH h.2.1;have h2:=EH h.2.2;show 1+nodes l+nodes r<=(fg n++40::(aB l++44::(aB r++[41]))).length;simp only[ZM,WB,length_nil];lia
theorem zz:∀ p:Pp,1<=nodes p
 | .all _=>ZF _
 | .split _ l r=>by show 1<=1+nodes l+nodes r;lia
def QA(n:Int)(l r:Pp):(aB (.split n l r)).length=(fg n).length+(aB l).length+(aB r).length+3:=by
 show(fg n++40::(aB l++44::(aB r++[41]))).length=_;simp;lia
noncomputable def cG:Nat->List Nat->Option (Pp×List Nat)
 | e,l=>match kx (l.takeWhile bV) with
  | none=>none
  | some n=>if(l.dropWhile bV).head?≠some 40 then some (.all n,l.dropWhile bV)else match e with
   | 0=>none
   | e+1=>match cG e ((l.dropWhile bV).drop 1) with
    | none=>none
    | some (a,I)=>if I.head?≠some 44 then none else match cG e (I.drop 1) with
     | none=>none
     | some (b,B)=>if B.head?≠some 41 then none else some (.split n a b,B.drop 1)
def qt{e:Nat}{l:List Nat}(h:kx (l.takeWhile bV)=none):cG e l=none:=by cases e <;> (unfold cG;rw[h])
def DP{e:Nat}{l:List Nat}{n:Int}(h:kx (l.takeWhile bV)=some n)(h1:(l.dropWhile bV).head?≠some 40):cG e l=some (.all n,l.dropWhile bV):=by
 grind [kx,bV,cG]
def qr{l:List Nat}{n:Int}(h:kx (l.takeWhile bV)=some n)(h1:(l.dropWhile bV).head? = some 40):cG 0 l=none:=by
 grind [kx,bV,cG]
def EG{e:Nat}{l:List Nat}{n:Int}(h:kx (l.takeWhile bV)=some n)(h1:(l.dropWhile bV).head? = some 40):cG (e+1) l=match cG e ((l.dropWhile bV).drop 1) with
    | none=>none
    | some (a,I)=>if I.head?≠some 44 then none else match cG e (I.drop 1) with
     | none=>none
     | some (b,B)=>if B.head?≠some 41 then none else some (.split n a b,B.drop 1):=by
 rw[cG,h];dsimp only;rw[ZJ (λz=>z h1)]
def NN(l:List Nat):l.dropWhile bV=l.drop (l.takeWhile bV).length:=by
 grind [bV,List.takeWhile_append_dropWhile,drop_left]
def oF{r:List Nat}(h:∀ c∈a,bV c=true)(hr:∀ c,r.head? = some c->bV c=false):(a++r).takeWhile bV=a/\(a++r).dropWhile bV=r:=by
 have z:r.takeWhile bV=[]/\r.dropWhile bV=r:=by
  cases r with
  | nil=>exact⟨J,J⟩
  | cons c r=>have:=hr c J;exact⟨by rw[List.takeWhile_cons,this];rfl,by rw[List.dropWhile_cons,this];rfl⟩
 rw[List.takeWhile_append_of_pos h,List.dropWhile_append_of_pos h,z.1,z.2,append_nil];exact⟨J,J⟩
theorem DO{p:Pp}{e:Nat}{r:List Nat}(h:ou p)(hd:dep p<=e)(hr:∀ c,r.head? = some c->bV c=false/\c≠40):cG e (aB p++r)=some (p,r)
:=by
 induction p generalizing e r with
 | all n=>
  obtain⟨h1,h2,_⟩:=fY h;obtain⟨t1,I⟩:=oF h1 (r:=r) λc B=>(hr c B).1;show cG e (fg n++r)=_;rw[DP (n:=n) (by rw[t1];exact h2) (by rw[I];exact λz=>(hr 40 z).2 J),I]
 | split n a b L R=>
  obtain _ | e:=e
  ·exact absurd hd (by show ¬ 1+max _ _<=0;lia)
  obtain⟨h1,h2,_⟩:=fY h.1;have N:dep a<=e/\dep b<=e:=by have:1+max (dep a) (dep b)<=e+1:=hd;lia
  obtain⟨t1,I⟩:=oF h1 (r:=40::(aB a++44::(aB b++41::r))) λc B=>by cases B;rfl
  have S:aB (.split n a b)++r=fg n++40::(aB a++44::(aB b++41::r)):=by show(fg n++40::(aB a++44::(aB b++[41])))++r=_;simp
  rw[S,EG (n:=n) (by rw[t1];exact h2) (by rw[I];rfl),I]
  show(match cG e (aB a++44::(aB b++41::r)) with
    | none=>none
    | some (a,O)=>if O.head?≠some 44 then none else match cG e (O.drop 1) with
     | none=>none
     | some (b,M)=>if M.head?≠some 41 then none else some (Pp.split n a b,M.drop 1))=_
  rw[L h.2.1 N.1 (λc B=>by cases B;exact⟨J,∅⟩)]
  show(match cG e (aB b++41::r) with
        | none=>none
        | some (b,M)=>if M.head?≠some 41 then none else some (Pp.split n a b,M.drop 1))=_
  rw[R h.2.2 N.2 (λc B=>by cases B;exact⟨J,∅⟩)];rfl
def cL{n:Int}(B:-(10^60)<n)(h1:n<10^60):n.natAbs.log2<1920:=by
 by_cases h:n.natAbs=0
 ·rw[h];decide
 ·have h2:n.natAbs<2^200:=WG (show n.natAbs<10^60 by lia) ∅;have:n.natAbs.log2<200:=(Nat.log2_lt h).mpr h2;lia
def IK{n:Int}(B:-(10^50)<n)(h1:n<10^50):(tx n).length<=51:=(zD (x:=tx n) (x_ B h1)).2
def aA{n:Nat}(h:n<=100000):n<=sizeLine:=ZT h ∅
def BdN(ns:List Int):Prop:=∀ n∈ns,-(10^50)<n/\n<10^50
def XA:V->V
 | .int n=>.str (tx n)
 | v=>v
def xl(ns:List Int):(ns.map V.int).map XA=(ns.map tx).map V.str:=by rw[map_map,map_map];rfl
theorem pJ{x:Str}{c:Nat}(h:x.cps.toList=c::r):Txt.startswith x "-" = decide (c=45):=by
 have B:x.length=x.cps.toList.length:=by simp[Str.length]
 show(decide (0+("-" : Str).length<=x.length)&&Builtin.Str.subAt x "-" 0)=_;rw[StrLaws.subAt_eq,h,B,h,show("-" : Str).cps.toList=[45] from ⟨⟩,show("-" : Str).length=1 from ⟨⟩];have I:decide (0+1<=(c::r).length)=true:=ZG (by rw[WB];lia);rw[I,Bool.true_and];show([c]==[45])=_;by_cases z:c=45
 ·subst z;rfl
 ·rw[ZS z];exact beq_eq_false_iff_ne.mpr λy=>z (List.cons.inj y).1
def oV{x:Str}(h:x.cps.toList=45::r):Txt.startswith x "-" = true:=by rw[pJ h];rfl
def NM{x:Str}{c:Nat}(h:x.cps.toList=c::r)(B:c≠45):Txt.startswith x "-" = false:=by
 grind [pJ]
def zb{x:Str}{c:Nat}(h:x.cps.toList=c::r):Txt.slice x (some 1) none=bI r:=by
 have e:=StrLaws.sliceText_from (x:=x) (i:=1) (by rw[h,WB];lia)
 refine Eq.trans (show Txt.slice x (some 1) none=_ from e) ?_;rw[h];show(⟨((r).take (((c::r).length:Int)-1).toNat).toArray⟩:Str)=bI r;rw[WP (by rw[WB];lia)];rfl
inductive SY(u0:Fg)(vs:List V)(H:Hp)(Q:VK)(E:XK):Prop
 |mk(n:Int)(_:vs=[.int n])(_:-(10^60)<n)(_:n<10^60)(_:Q (.str (tx n)) H)
inductive Io(u0:Fg)(vs:List V)(H:Hp)(Q:VK)(E:XK):Prop
 |mk(x:Str)(_:vs=[.str x])(_:x.length<=100000)(_:∀ H',ag H H'->Q (.bl (cR x.cps.toList)) H')
inductive Im(u0:Fg)(vs:List V)(H:Hp)(Q:VK)(E:XK):Prop
 |mk(x:Str)(n:Int)(_:vs=[.str x])(_:kx x.cps.toList=some n)(_:∀ H',ag H H'->Q (.int n) H')
def SX:z.C P w 1 "show_number" ["number"] (SY K):=by
 have sc:=RA;specialize z.gW;obtain⟨n,rfl,B,h1,q⟩:=h;exists _,(az (ei gD () z.cj kh (ar kb)))
 exact⟨n,J,cL B h1,q⟩
def Ri:z.C P w 1 "are_figures" ["text"] (Io K):=by
 have sc:=Ry;specialize z.hU;obtain⟨x,rfl,hl,q⟩:=h;obtain⟨_,ft,W,rfl⟩:=z.XD;refine⟨_,(aj (aW (PW.pt (pw_or (Eh (Fh dq dq ah (cK DX () z.bE Hq (ar kb)) ah)) (yc (PW.pt (iV (aN av (aG F8 kb ah) aR) (mu (aN bX kb aR)))))))
 (az bx))
 (az (cK (Fb J) () z.Km sQ (ar (kf (cl:=[]) (cn:=[]) (N:=[]) (fr:=[]) (bB:=aI vO) J (By kb) (λC s₂ H₂ fp=>(Ai Ih kb (kR (v:=.str "0123456789") (u:=.str "0123456789" ft) () W ⟨_,J⟩) J)) (by ac_rfl) trivial J J J eT J))))),?_⟩
 symm;have S:x.length<=sizeLine:=aA hl;have hx:x.length=x.cps.toList.length:=by simp[Str.length]
 have I:(1<=x.cps.toList.length/\x.cps.toList.length<=50)->(!(decide (x.cps.toList.head? = some 48)&&!decide (x.cps.toList=[48])))=true -> ∀ D,H D=none->Q (.bl (((x.cps.toList.map bV).all id))) (upd H D (.lst (x.cps.toList.map λc=>V.bl (bV c)))):=λh1 h2 D B=>by
  have e:cR x.cps.toList=(x.cps.toList.map bV).all id:=by unfold cR;rw[ZG h1.1,ZG h1.2,h2,all_map];rfl
  rw[<- e];exact q _ (aM B _)
 have no:∀ b:Bool,cR x.cps.toList=b->Q (.bl b) H:=λb e=>by rw[<- e];exact q H (ag.refl H)
 exists _,J,S,_,J;rw[hx];by_cases M:1<=x.cps.toList.length
 ·refine d_ (ZG (show(1:Int)<=(x.cps.toList.length:Int) by lia)) ⟨_,J,?_⟩;by_cases c2:x.cps.toList.length<=50
  ·rw[ZG (show(x.cps.toList.length:Int)<=50 by lia)];refine aU ?_;cases e:x.cps.toList with
   | nil=>rw[e]at M;exact absurd M ∅
   | cons c r=>
    exists x,0,c,J,J,S,by rw[e];exact dm (j:=0) J,J
    by_cases Z:c=48
    ·subst Z;rw[ZG (show V.str ⟨#[48]⟩=V.str "0" from congrArg V.str ⟨⟩)];refine bM ⟨J,?_⟩;by_cases Y:r=[]
     ·subst Y;rw[ZG (show V.str x=V.str "0" from congrArg V.str (Gp (by rw[e];decide +kernel)))];refine aU ?_;exact⟨_,J,λD B=>E6 (x:=x) (g:=λc=>V.bl (bV c)) B S (λc hc H1 Q1 s1 U=>⟨⟨#[c]⟩, "0123456789", J,J,by rw[StrLaws.found_one];exact U⟩) ⟨D,x.cps.toList.map bV,J,ao.of (by rw[map_map];exact ax),I ⟨M,c2⟩ (by rw[e];decide) D B⟩⟩
     ·rw[ZS (show ¬ V.str x=V.str "0" from λz=>Y (by
       have O:x.cps.toList=[48]:=by rw[V.str.inj z];decide +kernel
       rw[e]at O;exact(List.cons.inj O).2))]
      refine bM ?_;refine no _ ?_;unfold cR;rw[e,ZS (show ¬ 48::r=[48]from λz=>Y (List.cons.inj z).2)];simp
    ·rw[ZS (show ¬ V.str ⟨#[c]⟩=V.str "0" from λz=>Z (by
      have O:[c]=[48]:=by have z2:=congrArg (λy:Str=>y.cps.toList) (V.str.inj z);rw[show("0" : Str).cps.toList=[48] from ⟨⟩]at z2;exact z2
      exact(List.cons.inj O).1))]
     refine aU ?_;refine aU ?_;exact⟨_,J,λD B=>E6 (x:=x) (g:=λc=>V.bl (bV c)) B S (λc hc H1 Q1 s1 U=>⟨⟨#[c]⟩, "0123456789", J,J,by rw[StrLaws.found_one];exact U⟩) ⟨D,x.cps.toList.map bV,J,ao.of (by rw[map_map];exact ax),I ⟨M,c2⟩ (by rw[e,ZS (show ¬(c::r).head? = some 48 from λz=>Z (am z))];rfl) D B⟩⟩
  ·rw[ZS (show ¬(x.cps.toList.length:Int)<=50 by lia)];refine bM ?_;refine no _ ?_;unfold cR;rw[ZS c2];simp
 ·refine dS (ZS (show ¬(1:Int)<=(x.cps.toList.length:Int) by lia)) ⟨_,J,?_⟩;refine bM ?_;refine no _ ?_;unfold cR;rw[ZS M];rfl
def Il:z.C P w 2 "read_number" ["text"] (Im K):=by
 have sc:=Rz;specialize z.gX;obtain⟨x,n,rfl,B,q⟩:=h;refine⟨_,(aj (aW (Eh (uQ (cK iS () z.bp dy (aY kb (iN (v:=.ty "str") (u:=.type "str") () z.cj kh J)))))
 (bF dF))
 (aj (aF 1 sc.nd (vR (uQ (bG WW PySem.F.slot_str_startswith PySem.F.type_str_startswith M6 kb (ar aR))) (Am Hm kb (yf ah) Mt) kb))
 (aj (aW (PW.pt (pw_or (aN av kb aR) (yc (Eh (uQ (aC (Ri z) hr (ar kv)))))))
 (bF dF))
 (az (ei FX () z.BW Em (ar kb)))))),?_⟩
 symm;obtain⟨hi,U⟩:=zD B;have S:x.length<=sizeLine:=aA {};exists _,_,_,_,J,.str _,Bm,true,J;refine aU ?_;exists J,x, "-", J,J,_,J;cases e:x.cps.toList with
 | nil=>rw[e]at B;cases B
 | cons c r=>
  rw[e,kL]at B;by_cases N:c=45
  ·subst N;rw[ZL J]at B;have M:cR r=true/\r≠[48]:=by
    by_cases z:cR r=true/\r≠[48]
    ·exact z
    ·rw[ZJ z]at B;cases B
   refine d_ (oV e) ⟨_,J,_,J,S,?_⟩;rw[zb e];exists J;rw[ZS (show ¬ V.str x=V.str "-0" from λz=>M.2 (by
    have I:x.cps.toList=[45,48]:=by rw[V.str.inj z];decide +kernel
    rw[e]at I;exact(List.cons.inj I).2))]
   refine aU ⟨bI r,J,by rw[Ey];have:=(z_ M.1).2.2;lia,λH1 O=>⟨_,J,?_⟩⟩;rw[qU,M.1];refine aU ?_;exact⟨x,n,J,{},hi,q H1 O⟩
  ·rw[ZJ N]at B;have M:cR (c::r)=true:=by
    by_cases z:cR (c::r)=true
    ·exact z
    ·rw[ZJ z]at B;cases B
   refine dS (NM e N) ?_;exists J;rw[ZS (show ¬ V.str x=V.str "-0" from λz=>N (by
    have I:x.cps.toList=[45,48]:=by rw[V.str.inj z];decide +kernel
    rw[e]at I;exact(List.cons.inj I).1))]
   refine aU ⟨_,J,{},λH1 O=>⟨_,J,?_⟩⟩;rw[e,M];refine aU ?_;exact⟨x,n,J,{},hi,q H1 O⟩
def qI(k:ag H H')(hr:H r=none):ag H (upd H' r o):=λc u z=>by
 rw[bC (cO z hr)];exact k c u z
def l9(x:Str):x.length=x.cps.toList.length:=by simp[Str.length]
def Qz{x:Str}{a b:Nat}(B:a<=b)(I:b<=x.cps.toList.length):Txt.slice x (some (a:Int)) (some (b:Int))=bI ((x.cps.toList.drop a).take (b-a)):=by exact StrLaws.sliceText_nat x B (by rw[l9];exact I)
def DN{x:Str}{a:Nat}(O:a<=x.cps.toList.length):Txt.slice x (some (a:Int)) (some ((a:Int)+1))=bI ((x.cps.toList.drop a).take 1):=by
 by_cases c:a+1<=x.cps.toList.length
 ·have e:=Qz (x:=x) (a:=a) (b:=a+1) {} c;rw[show a+1-a=1 by lia]at e;exact e
 ·have I:a=x.length:=by rw[l9];lia
  have N:∀ u:Option Int,Txt.slice x (some (a:Int)) u=StrLaws.sliceText x (some (a:Int)) u:=λu=>J;have M:StrLaws.sliceText x (some (a:Int)) (some ((a:Int)+1))=StrLaws.sliceText x (some (a:Int)) (some (a:Int)):=by
   unfold StrLaws.sliceText;rw[show Builtin.Str.strSliceIndices (some (a:Int)) (some ((a:Int)+1)) 1 x.length=Builtin.Str.strSliceIndices (some (a:Int)) (some (a:Int)) 1 x.length by
    rw[I];have h1:¬((x.length:Int)+1<0):={}
    have h2:¬((x.length:Int)<0):={}
    have B:max (0:Int) (min ((x.length:Int)+1) (x.length:Int))=max (0:Int) (min (x.length:Int) (x.length:Int)):={}
    simp only[Builtin.Str.strSliceIndices,h1,h2,B,if_false,ZL (show(1:Int) > 0 by decide)]]
  rw[N,M,StrLaws.sliceText_nat x (ZF a) {}];rw[drop_of_length_le {},take_nil,take_nil];rfl
theorem PR(x:Str)(w:Nat):∀(B:List Nat)(a:Nat),(StrLaws.partsFrom x w a B).length=B.length+1
 | [],a=>rfl
 | c::cs,a=>by
  show(_::StrLaws.partsFrom x w _ cs).length=_;rw[WB,PR x w cs,WB]
def gH(x y:Str):(Builtin.Str.partsBetween x (Builtin.Str.occurrences x y 0 x.length (x.length+1)) y.length).length<=x.length+2:=by rw[StrLaws.partsBetween_eq,PR];have:=StrLaws.occ_length_le x y 0 x.length (x.length+1);lia
inductive Bc(u0:Fg)(vs:List V)(H:Hp)(Q:VK)(E:XK):Prop
 |mk(x sg:Str)(pl:Nat)(_:vs=[.str x,.int (pl:Int),.str sg])(_:x.length<=90000)(_:pl<=x.cps.toList.length)(_:(x.cps.toList.drop pl).take 1=sg.cps.toList)(_:Q (.int ((pl:Int)+1)) H)
def Th:z.C P w 1 "place_behind" ["text", "place", "sign"] (Bc K):=by
 have sc:=kE;specialize z.gb;obtain⟨x,B,pl,rfl,I,hp,hs,q⟩:=h;refine⟨_,(aj (aW (aN bX (Am Hm kb (yf kv) (yf (ae dk kv ah))) bv)
 (bF dF))
 (az (ae dk kv ah))),?_⟩
 exists _,J,_,J,_,J,aA {};rw[DN hp];exists J;rw[ZG (show V.str (bI ((x.cps.toList.drop pl).take 1))=V.str B from congrArg V.str (by rw[hs,zE]))];refine aU ?_;exact q
theorem xU:∀{m:List Nat}{j:Nat},j<(m.takeWhile bV).length -> ∃ c,m[j]? = some c/\bV c=true
 | [],j,h=>absurd h (by simp)
 | c::r,j,h=>by
  cases B:bV c with
  | false=>rw[List.takeWhile_cons,B]at h;exact absurd h (by simp)
  | true=>
   rw[List.takeWhile_cons,B]at h;cases j with
   | zero=>exact⟨c,J,B⟩
   | succ j=>exact xU (m:=r) (j:=j) (by simpa using h)
theorem oE{m:List Nat}{c:Nat}(h:m[(m.takeWhile bV).length]? = some c):bV c=false:=by
 induction m with
 | nil=>simp at h
 | cons d r i=>
  cases B:bV d with
  | false=>
   rw[List.takeWhile_cons,B]at h;have e:d=c:=by simpa using h
   rw[<- e];exact B
  | true=>rw[List.takeWhile_cons,B]at h;exact i (by simpa using h)
def uj(m:List Nat):m.take (m.takeWhile bV).length=m.takeWhile bV:=by
 grind [bV,List.takeWhile_append_dropWhile,take_left]
def yK(m:List Nat):(m.takeWhile bV).length<=m.length:=List.Sublist.length_le (List.takeWhile_sublist _)
def R1{m:List Nat}{c:Nat}(h:m.head? = some c):m.take 1=[c]:=by
 cases m with
 | nil=>cases h
 | cons d r=>cases h;rfl
theorem qu{e:Nat}{l rest:List Nat}{p:Pp}(h:cG e l=some (p,rest)):∃ n,kx (l.takeWhile bV)=some n /\
  (((l.dropWhile bV).head?≠some 40/\p = .all n/\rest=l.dropWhile bV) \/
    lT λ(U:Nat) (a b:Pp) (B I:List Nat)=>xR ((l.dropWhile bV).head? = some 40) (e=U+1) (cG U ((l.dropWhile bV).drop 1)=some (a,B)) (B.head? = some 44) (cG U (B.drop 1)=some (b,I)) (I.head? = some 41) (p = .split n a b) (rest=I.drop 1)):=by
 cases h1:kx (l.takeWhile bV) with
 | none=>rw[qt h1]at h;cases h
 | some n=>
  exists n,J;by_cases h2:(l.dropWhile bV).head? = some 40
  ·cases e with
   | zero=>rw[qr h1 h2]at h;cases h
   | succ e=>
    rw[EG h1 h2]at h;cases S:cG e ((l.dropWhile bV).drop 1) with
    | none=>rw[S]at h;cases h
    | some q=>
     obtain⟨a,B⟩:=q;rw[S]at h;dsimp only at h;by_cases O:B.head? = some 44
     ·rw[ZJ (λz=>z O)]at h;cases N:cG e (B.drop 1) with
      | none=>rw[N]at h;cases h
      | some W=>
       obtain⟨b,I⟩:=W;rw[N]at h;dsimp only at h;by_cases M:I.head? = some 41
       ·rw[ZJ (λz=>z M)]at h;cases h;exact .inr ⟨e,a,b,B,I,h2,J,S,O,N,M,J,J⟩
       ·rw[ZL M]at h;cases h
     ·rw[ZL O]at h;cases h
  ·rw[DP h1 h2]at h;cases h;exact .inl ⟨h2,J,J⟩
def DM{D:Ends}(X:St->Hp->Prop)(B:∀ σ H,X σ H->D.nx σ H)(h:(∀ σ H,X σ H->D.nx σ H)->u7 c tb D σ H):u7 c tb D σ H:=h B
abbrev SM:Nat:=1
abbrev SK:Nat:=100
inductive IG(u0:Fg)(e:Nat)(vs:List V)(H:Hp)(Q:VK)(E:XK):Prop
 |mk(v:V)(p:Pp)(_:vs=[v])(_:bt H v p)(_:ou p)(_:dep p<=e)(_:(aB p).length<=90000)(_:Q (.str (bI (aB p))) H)
def vc(K:Fg):Sp:=λvs H Q E=>∃ e,e<=SK/\IG K e vs H Q E
abbrev fH:Nat:=2
abbrev gM:Nat:=100
inductive iu(u0:Fg)(e:Nat)(vs:List V)(H:Hp)(Q:VK)(E:XK):Prop
 |mk(x:Str)(st:Nat)(dp:Int)(p:Pp)(rest:List Nat)(_:vs=[.str x,.int (st:Int),.int dp])(_:dp=100-(e:Int))(_:x.length<=90000)(_:st<=x.cps.toList.length)(_:cG e (x.cps.toList.drop st)=some (p,rest))(_:∀(a:Addr)(v:V)(k:Nat)(H':Hp),ag H H'->H' a=some (.tup [v,.int (k:Int)])->bt H' v p->k<=x.cps.toList.length->rest=x.cps.toList.drop k->Q (.ref a) H')
def HK(K:Fg):Sp:=λvs H Q E=>∃ e,e<=gM/\iu K e vs H Q E
inductive SJ(u0:Fg)(vs:List V)(H:Hp)(Q:VK)(E:XK):Prop
 |mk(x:Str)(p:Pp)(_:vs=[.str x])(_:x.length<=90000)(_:cG 100 x.cps.toList=some (p,[]))(_:∀(v:V)(H':Hp),ag H H'->bt H' v p->Q v H')
def qe:z.C P w 102 "show_paper" ["paper"] (vc K):=by
 have sc:=QI;refine z.i4.eh (k:=SM) (sp:=IG K) SK λe oi B f fd F=>F.k sc λ_ _ _ s H _ Q _ hr h=>?_;obtain⟨v,p,rfl,hp,W,hd,hl,q⟩:=h;refine⟨_,(aj (aF 1 sc.nd (aQ (SX z) (hr.mono (ZT (by decide:1<=SM) (ce _ _))) () (ar (aG bh kb ah))))
 (aj (aW (aN av (aG bh kb ah) aR)
 (az kv))
 (aj (aF 2 sc.nd (aQ B (hr.mono (ZF _)) () (ar (aG bh kb ah))))
 (aj (aF 3 sc.nd (aQ B (hr.mono (ZF _)) () (ar (aG bh kb ah))))
 (az (wA (mM (Pu kv) (mM aR (mM (Pu bv) (mM aR (mM (Pu bi) (mM aR Bx)))))))))))),?_⟩
 symm;cases p with
 | all n=>
  obtain⟨a,rfl,I⟩:=hp;have M:okN n:=W;have O:=M.1;have N:=M.2;exists _,_,au.of I,J,n,J,{},{}
  exists _,_,au.of I,J,J;exact d_ (ZG J) q
 | split n l r=>
  obtain⟨a,x,y,rfl,I,Z,Y⟩:=hp;obtain⟨M,U,S⟩:=W;have O:=M.1;have N:=M.2;have hd':1+max (dep l) (dep r)<=e:=hd;have Lg:=QA n l r;cases e with
  | zero=>lia
  | succ e=>
   exists _,_,au.of I,J,n,J,{},{}
   exists _,_,au.of I,J,J;refine dS (ZS (show ¬ V.str "split" = V.str "all" from λz=>absurd (V.str.inj z) ⟨⟩)) ?_;exists _,_,au.of I,J,x,l,J,Z,U,{},{}
   exists _,_,au.of I,J,y,r,J,Y,S,{},{}
   have l1:(tx n).length=(fg n).length:=Ey _;have l2:(bI (aB l)).length=(aB l).length:=Ey _;have l3:(bI (aB r)).length=(aB r).length:=Ey _;have c1:("(" : Str).length=1:=⟨⟩
   have c2:("," : Str).length=1:=⟨⟩
   have c3:(")" : Str).length=1:=⟨⟩
   have c0:(Str.empty:Str).length=0:=J;exists _,J,aA {},_,J,aA (by rw[Str.length_append];lia),_,J,aA (by simp only[Str.length_append];lia),_,J,aA {},_,J,aA (by simp only[Str.length_append];lia),_,J,aA (by simp only[Str.length_append];lia),_,J,aA {},_,J,aA (by simp only[Str.length_append];lia),_,J,aA (by simp only[Str.length_append];lia),aA (by simp only[Str.length_append];lia);refine Eq.mp (congrArg (λz=>Q (.str z) H) (Gp ?_)) q;simp only[PyProof.Rows.cps_toList_append];show fg n++40::(aB l++44::(aB r++[41]))=_;rw[show("(" : Str).cps.toList=[40] from ⟨⟩,show("," : Str).cps.toList=[44] from ⟨⟩,show(")" : Str).cps.toList=[41] from ⟨⟩];show _=[]++fg n++[40]++aB l++[44]++aB r++[41];simp
def SI:z.C P w 103 "read_paper_from" ["text", "start", "depth"] (HK K):=by
 have sc:=vF;refine z.eH.eh (k:=fH) (sp:=iu K) gM λe oi B f fd F=>F.k sc λ_ _ _ s H _ Q _ hr h=>?_;obtain⟨x,st,W,p,rest,rfl,Xj,hl,Ur,hp,q⟩:=h;obtain⟨_,ft,hft,rfl⟩:=z.XD;refine⟨_,(aj (aF 3 sc.nd (pv 1))
 (aj (vy bn (PW.pt (iV (tV jF (pv 3) (cK DX () z.bE Hq (ar (pv 0)))) (mu (A6 Ih (aG F8 (pv 0) (pv 3)) (kR (v:=.str "0123456789") (u:=.str "0123456789" ft) () hft ⟨_,J⟩) J))))
 (bF (aF 3 sc.nd (ae IA (pv 3) ah))))
 (aj (aF 4 sc.nd (aQ (Il z) (hr.mono (ZT (by decide:2<=fH) (ce _ _))) () (ar (Am Hm (pv 0) (yf (pv 1)) (yf (pv 3))))))
 (aj (aW (tV bX (Am Hm (pv 0) (yf (pv 3)) (yf (ae IA (pv 3) ah))) aR)
 (az (vj (aY (vj (aY aR (pv 4))) (pv 3)))))
 (aj (aW (tV av (pv 2) ah)
 (bF dF))
 (aj (aF 5 sc.nd (aQ B (hr.mono (ZF _)) () (bW (pv 0) (ae IA (pv 3) ah) (ae IA (pv 2) ah))))
 (aj (aF 6 sc.nd (aQ B (hr.mono (ZF _)) () (bW (pv 0) (aQ (Th z) (hr.mono (ZT (by decide:1<=fH) (ce _ _))) () (bW (pv 0) (aG HG (pv 5) ah) aR)) (ae IA (pv 2) ah))))
 (az (vj (aY (vj (dI aR (pv 4) (aG HG (pv 5) ah) (aG HG (pv 6) ah))) (aQ (Th z) (hr.mono (ZT (by decide:1<=fH) (ce _ _))) () (bW (pv 0) (aG HG (pv 6) ah) aR)))))))))))),?_⟩
 symm;have hz:x.length<=sizeLine:=aA {};have WJ:=l9 x;generalize hL:x.cps.toList=L at *;have ZC:=yK (L.drop st);rw[length_drop]at ZC;exists _,J;refine DM (λσ G=>σ=[some (.str x),some (.int (st:Int)),some (.int W),some (.int ((st+((L.drop st).takeWhile bV).length:Nat):Int)),none,none,none]/\G=H) ?ex (λhx=>⟨λm σ G=>∃ j:Nat,cP (m=((L.drop st).takeWhile bV).length-j) (j<=((L.drop st).takeWhile bV).length) (σ=[some (.str x),some (.int (st:Int)),some (.int W),some (.int ((st+j:Nat):Int)),none,none,none]) (G=H),
  ⟨_,0,J,ZX _,J,J⟩,?_⟩)
 rotate_left
 focus
  rintro m σ G ⟨j,rfl,hj,rfl,rfl⟩;exists _,J,_,J,x,J,hz,_,_,J,J,_,J;rw[WJ];by_cases c1:st+j<L.length
  ·rw[ZG (show((st+j:Nat):Int)<(L.length:Int) by lia)];have g1:L[st+j]? = some L[st+j]:=ZP c1;refine bM ⟨_,J,_,J,x,_,_,J,J,hz,by rw[hL];exact dm g1,⟨#[L[st+j]]⟩, "0123456789", J,J,_,J,?_⟩;rw[StrLaws.found_one];by_cases c2:j<((L.drop st).takeWhile bV).length
   ·obtain⟨c,hc,hd⟩:=xU c2;rw[getElem?_drop,g1]at hc;cases hc;have O:decide (L[st+j]∈("0123456789" : Str).cps.toList)=true:=hd;refine d_ O ⟨λσ G'=>σ=[some (.str x),some (.int (st:Int)),some (.int W),some (.int ((st+(j+1):Nat):Int)),none,none,none]/\G'=G,?_,?_⟩
    ·rintro σ G' ⟨rfl,rfl⟩;exact⟨_,{},j+1,J,c2,J,J⟩
    ·refine⟨_,J,_,_,J,J,?_,J⟩;show[some (V.str x),some (V.int (st:Int)),some (V.int W),some (V.int (((st+j:Nat):Int)+1)),none,none,none]=_;rw[show((st+j:Nat):Int)+1=((st+(j+1):Nat):Int) by lia]
   ·have je:j=((L.drop st).takeWhile bV).length:={}
    have O:decide (L[st+j]∈("0123456789" : Str).cps.toList)=false:=oE (m:=L.drop st) (by rw[<- je,getElem?_drop,g1]);refine dS O (hx _ _ ⟨?_,J⟩);rw[je]
  ·rw[ZS (show ¬((st+j:Nat):Int)<(L.length:Int) by lia)];have je:j=((L.drop st).takeWhile bV).length:={}
   refine aU (aU (hx _ _ ⟨?_,J⟩));rw[je]
 case ex=>
  rintro σ G ⟨rfl,rfl⟩;obtain⟨n,hn,M⟩:=qu hp;generalize hk:((L.drop st).takeWhile bV).length=k at *;have hdw:(L.drop st).dropWhile bV=L.drop (st+k):=by rw[NN,hk,drop_drop]
  rw[hdw]at M;have Ll:st+k<=L.length:={}
  exists _,J,_,J,_,J,_,J,_,J,x,J,hz;have Z4:Txt.slice x (some (st:Int)) (some ((st+k:Nat):Int))=bI ((L.drop st).takeWhile bV):=by rw[Qz {} (by rw[hL];lia),hL,show st+k-st=k by lia,<- hk,uj]
  rw[Z4];refine⟨bI ((L.drop st).takeWhile bV),n,J,hn,λH1 s1=>?_⟩;have Z5:Txt.slice x (some ((st+k:Nat):Int)) (some (((st+k:Nat):Int)+1))=bI ((L.drop (st+k)).take 1):=by rw[DN (by rw[hL];exact Ll),hL]
  exists _,J,_,J,_,J,_,J,_,_,J,J,_,J,x,J,hz;rw[Z5];exists J,_,J;have CA:("(" : Str)=bI [40]:=⟨⟩
  rcases M with ⟨N,rfl,I⟩ | ⟨e',a,b,r1,r2,N,rfl,og,S,oa,U,rfl,I⟩
  ·rw[ZS (show ¬ V.str (bI ((L.drop (st+k)).take 1))=V.str "(" from λz=>N (by
    have z1:(L.drop (st+k)).take 1=[40]:=by have z2:=congrArg (λy:Str=>y.cps.toList) (V.str.inj z);rw[CA]at z2;exact z2
    cases hc:L.drop (st+k) with
    | nil=>rw[hc]at z1;cases z1
    | cons c r=>rw[hc]at z1;cases z1;rfl))]
   refine bM ⟨_,J,aZ J,λa ha=>⟨_,J,aZ J,λb hb=>?_⟩⟩;refine q b (.ref a) (st+k) _ (s1.trans ((aM ha _).trans (aM hb _))) ax ⟨a,J,aM hb _ _ _ ax⟩ Ll I
  ·rw[ZG (show V.str (bI ((L.drop (st+k)).take 1))=V.str "(" from congrArg V.str (by rw[R1 N,CA]))];refine aU ?_;have eP:¬ V.int W=V.int 100:=λz=>by
    have:=V.int.inj z;lia
   exists _,J,J,_,J;refine dS (ZS eP) ?_;have hlt:st+k<L.length:=by
    by_cases z:st+k<L.length
    ·exact z
    ·rw[drop_of_length_le {}]at N;cases N
   have e1:((st+k:Nat):Int)+1=((st+k+1:Nat):Int):={}
   rw[drop_drop]at og;exists _,J,_,J,_,_,J,J,_,J,_,_,J,J;refine⟨x,st+k+1,W+1,a,r1,by rw[<- e1];rfl,{},hl,by rw[hL];lia,by rw[hL];exact og,λlo v1 Y H2 s2 JU Zz U1 JR=>?_⟩;rw[hL]at U1 JR;subst JR;have aa9:Y<L.length:=by
    by_cases z:Y<L.length
    ·exact z
    ·rw[drop_of_length_le {}]at S;cases S
   rw[drop_drop]at oa;exists _,J,_,J,_,J,lo,_,_,_,J,J,au.of JU,J,x, ",", Y,J,hl,by rw[hL];exact U1,by rw[hL,R1 S];decide +kernel
   have e2:(Y:Int)+1=((Y+1:Nat):Int):={}
   rw[e2];refine⟨_,J,_,_,J,J,x,Y+1,W+1,b,r2,J,{},hl,by rw[hL];lia,by rw[hL];exact oa,λup v2 Z H3 s3 Lc Zy Xg Uz=>?_⟩;rw[hL]at Xg Uz;subst Uz;have UR:=s3 _ _ JU;have Uj:=Zz.same s3;have aa8:Z<L.length:=by
    by_cases z:Z<L.length
    ·exact z
    ·rw[drop_of_length_le {}]at U;cases U
   rw[drop_drop]at I;refine⟨_,J,_,J,lo,_,_,_,J,J,au.of UR,J,_,J,up,_,_,_,J,J,au.of Lc,J,aZ J,λpa yq=>?_⟩;have s4:=aM yq (.tup [V.str "split", .int n,v1,v2]);refine⟨_,J,_,J,up,_,_,_,J,J,au.of (s4 _ _ Lc),J,x, ")", Z,J,hl,by rw[hL];exact Xg,by rw[hL,R1 U];decide +kernel,?_⟩;refine⟨aZ J,λpb hpb=>?_⟩;have s5:=aM hpb (.tup [V.ref pa,.int ((Z:Int)+1)]);refine q pb (.ref pa) (Z+1) _ (s1.trans (s2.trans (s3.trans (s4.trans s5)))) ax ?_ {} I;exact⟨pa,v1,v2,J,s5 _ _ ax,(Uj.same s4).same s5,(Zy.same s4).same s5⟩
def As:z.C P w 104 "read_paper" ["text"] (SJ K):=by
 have sc:=QH;specialize z.i5;obtain⟨x,p,rfl,U,hp,q⟩:=h;refine⟨_,(aj (aW (Eh (uQ (cK iS () z.bp dy (aY kb (iN (v:=.ty "str") (u:=.type "str") () z.cj kh J)))))
 (bF dF))
 (aj (aF 1 sc.nd (aC (SI z) hr (bW kb ah ah)))
 (aj (aW (aN bX (aG bh kv ah) (cK DX () z.bE Hq (ar kb)))
 (bF dF))
 (az (aG bh kv ah))))),?_⟩
 symm;have O:x.length<=sizeLine:=aA {};exists _,_,_,_,J,.str _,Bm,true,J;refine aU ?_;refine⟨100,ZF _,x,0,0,p,[],J,∅,U,ZX _,hp,λa v k H1 N M S W B=>?_⟩;have I:k=x.cps.toList.length:=by have:=congrArg List.length B;rw[length_drop,length_nil]at this;lia
 exists _,_,au.of M,J,x,J,O,J;rw[l9,I,ZG J];refine aU ?_;exact⟨_,_,au.of M,J,q v H1 N S⟩
abbrev P3:=Nat×Nat×Nat
inductive Vl where
 | n (i:Int)
 | g (ps:List P3)
 | c (p:P2)
 | x (o:Option P2)
 | l (ps:List P2)
 | pp (p:Pp)
def iw(p:P3):List Int:=[(p.1:Int),(p.2.1:Int),(p.2.2:Int)]
def tP(p:P3):Str:=Str.join ⟨#[58]⟩ ((iw p).map tx)
def tG(ps:List P3):Str:=Str.join ⟨#[43]⟩ (ps.map tP)
def tC(p:P2):Str:=Str.join ⟨#[58]⟩ [tx p.1,tx p.2]
def tX:Option P2->Str
 | none=>⟨#[45]⟩
 | some p=>tC p
noncomputable def tL(ps:List P2):Str:=if ps=[] then⟨#[45]⟩else Str.join ⟨#[44]⟩ (ps.map tC)
noncomputable def Vl.wd:Vl->Str
 | .n i=>tx i
 | .g ps=>tG ps
 | .c p=>tC p
 | .x o=>tX o
 | .l ps=>tL ps
 | .pp p=>bI (aB p)
def fw(lead:Str):List Str:=if lead = "" then[] else[lead]
noncomputable abbrev dC(lead nm:Str)(xs:List Vl):Str:=Str.join ⟨#[32]⟩ (fw lead++nm::xs.map Vl.wd)
def uc(p:P3):Prop:=p.1<=1000/\p.2.1<=1000/\p.2.2<=1000
def mi(p:P2):Prop:=(-(10^50)<p.1/\p.1<10^50)/\0<=p.2/\p.2<10^50
def cA(k:Str):Vl->Prop
 | .n i=>(-(10^50)<i/\i<10^50)/\((k = "count" /\ 0<=i)\/k = "number" \/ (k = "part" /\ 1<=i))
 | .g ps=>k = "gathering" /\ ps≠[]/\ps.length<=8 /\ ∀ p∈ps,uc p
 | .c p=>k = "counted" /\ mi p
 | .x o=>k = "next" /\ ∀ p,o=some p->mi p
 | .l ps=>k = "list" /\ ps.length<=100 /\ ∀ p∈ps,mi p
 | .pp p=>k = "paper" /\ ou p/\dep p<=100/\(aB p).length<=20000
def j4(K:Fg)(H:Hp)(v:V)(p:P3):Prop:=∃ a,v = .ref a/\au K H a ((iw p).map V.int)
def iE(K:Fg)(H:Hp)(xs:List V)(ps:List P3):Prop:=xs.length=ps.length /\ ∀(j:Nat)(x:V)(p:P3),xs[j]? = some x->ps[j]? = some p->j4 K H x p
def ic(K:Fg)(H:Hp)(v:V):Vl->Prop
 | .n i=>v = .int i
 | .g ps=>aO λD xs=>aP (v = .ref D) (ao K H D xs) (iE K H xs ps)
 | .c p=>j5 H v p
 | .x o=>j6 H v o
 | .l ps=>aO λ(D:Addr) (xs:List V)=>aP (v = .ref D) (H D=some (.lst xs)) (Paired (j5 H) xs ps)
 | .pp p=>bt H v p
def cM(K:Fg)(H:Hp)(xs:List V)(ys:List Vl):Prop:=xs.length=ys.length /\ ∀(j:Nat)(x:V)(y:Vl),xs[j]? = some x->ys[j]? = some y->ic K H x y
def j4.same(h:j4 K H v p)(s:ag H H'):j4 K H' v p:=by obtain⟨a,e,h⟩:=h;exact⟨a,e,s.cJ h⟩
def iE.same(h:iE K H xs ps)(s:ag H H'):iE K H' xs ps:=⟨h.1,λj x p h1 h2=>(h.2 j x p h1 h2).same s⟩
theorem ic.same(h:ic K H v x)(s:ag H H'):ic K H' v x:=by
 cases x with
 | n i=>exact h
 | g ps=>obtain⟨D,xs,e,h1,h2⟩:=h;exact⟨D,xs,e,s.seq h1,h2.same s⟩
 | c p=>exact j5.tk (.same s) h
 | x o=>exact j6.tk (.same s) h
 | l ps=>obtain⟨D,xs,e,h1,h2⟩:=h;exact⟨D,xs,e,s _ _ h1,L2.Paired.fZ h2 λ_ _ z=>z.tk (.same s)⟩
 | pp p=>exact bt.tk (.same s) h
def uU(k:aq D H H')(e:H D=some (.lst zs))(h:au K H a xs):au K H' a xs:=by
 rcases h with h | h
 ·rcases h with h | ⟨o,h⟩
  ·exact .inl (.inl (k _ _ (bc h e (by intro z;cases z)) h))
  ·exact .inl (.inr ⟨o,k _ _ (bc h e (by intro z;cases z)) h⟩)
 ·exact .inr h
def Ar{α:Type}{R:V->α->Prop}{xs:List V}{ps:List α}{x:V}{p:α}(h:xs.length=ps.length /\ ∀(j:Nat)(x:V)(p:α),xs[j]? = some x->ps[j]? = some p->R x p)(N:R x p):(xs++[x]).length=(ps++[p]).length /\ ∀(j:Nat)(y:V)(q:α),(xs++[x])[j]? = some y->(ps++[p])[j]? = some q->R y q:=by
 refine⟨by rw[ZM,ZM,h.1] <;> rfl,λj y k h1 h2=>?_⟩;have S:=h.1;rcases iQ h1 with ⟨O,M⟩ | ⟨O,M⟩
 ·rcases iQ h2 with ⟨I,B⟩ | ⟨I,B⟩
  ·exact h.2 j y k M B
  ·lia
 ·rcases iQ h2 with ⟨I,B⟩ | ⟨I,B⟩
  ·lia
  ·rw[M,B];exact N
theorem vC{c d:Nat}:∀{xs:List Str},d∈(Str.join ⟨#[c]⟩ xs).cps.toList->d=c \/ ∃ x∈xs,d∈x.cps.toList
 | [],h=>by
  have e:(Str.join ⟨#[c]⟩ []).cps.toList=[]:=J;rw[e]at h;cases h
 | [x],h=>.inr ⟨x,ZQ ..,h⟩
 | x::y::r,h=>by
  rw[zY,mem_append,mem_append]at h;rcases h with h | h | h
  ·exact .inr ⟨x,ZQ ..,h⟩
  ·exact .inl (by simpa using h)
  ·rcases vC h with e | ⟨z,h1,h2⟩
   ·exact .inl e
   ·exact .inr ⟨z,ZU _ h1,h2⟩
theorem nj{c B:Nat}:∀(xs:List Str),(∀ p∈xs,p.length<=B)->(Str.join ⟨#[c]⟩ xs).length<=xs.length*(B+1)
 | [],_=>by
  show(Str.join ⟨#[c]⟩ []).length<=0*_;rw[Nat.zero_mul];exact ZF 0
 | [x],h=>by
  have:=h x (ZQ ..);show x.length<=1*(B+1);lia
 | x::y::r,h=>by
  have h1:=h x (ZQ ..);have e:∀ z:Str,z.length=z.cps.toList.length:=λz=>by simp[Str.length]
  have I:=nj (c:=c) (y::r) λp hp=>h p (ZU _ hp);rw[e]at I h1 ⊢;rw[zY,ZM,ZM];show _+(1+_)<=((y::r).length+1)*(B+1);rw[Nat.add_mul];lia
def DL{n:Nat}{c:Nat}(B:c<48\/57<c):c ∉ fg (n:Int):=λh=>by
 have:=SQ n c h;lia
def zy{c:Nat}(I:c<48\/58<c):c ∉ (tP p).cps.toList:=λh=>by
 rcases vC h with e | ⟨x,h1,h2⟩
 ·lia
 ·obtain⟨i,hi,rfl⟩:=eE h1;have B:i=(p.1:Int)\/i=(p.2.1:Int)\/i=(p.2.2:Int):=by simpa [iw] using hi
  rcases B with rfl | rfl | rfl <;> exact DL {} h2
def yw{n:Int}{c:Nat}(h:c≠45)(h2:c<48\/57<c):c ∉ fg n:=λB=>by
 rcases Int.lt_or_le n 0 with z | z
 ·obtain⟨m,rfl⟩:∃ m:Nat,n = -((m+1:Nat):Int):=⟨(-n-1).toNat,{}⟩
  rw[DS]at B;rcases ad B with e | e
  ·exact h e
  ·have:=SQ _ c e;lia
 ·obtain⟨m,rfl⟩:=Int.eq_ofNat_of_zero_le z;have:=SQ m c B;lia
def zx{n:Int}:58 ∉ fg n:=yw ∅ (.inr ∅)
def AY{n:Int}:44 ∉ fg n:=yw ∅ (.inl ∅)
def x3(p:P2):58∈(tC p).cps.toList:=by unfold tC;rw[zY];exact WI _ (mem_append_left _ (List.mem_singleton.mpr J))
def ux(p:P2):tX (some p) ≠ "-" := λz=>by
 have h:=x3 p;rw[show tC p=("-" : Str)from z]at h;revert h
 decide +kernel
theorem EF{c:Nat}{x:Str}{d:Nat}(hd:d∈x.cps.toList):∀{xs:List Str},x∈xs->d∈(Str.join ⟨#[c]⟩ xs).cps.toList
 | [y],h=>by rw[eD h]at hd;exact hd
 | y::z::r,h=>by
  rw[zY,mem_append,mem_append];rcases ad h with h | h
  ·rw[h]at hd;exact .inl hd
  ·exact .inr (.inr (EF hd h))
def uv(B:ps≠[]):tL ps ≠ "-" := λz=>by
 rw[show tL ps=Str.join ⟨#[44]⟩ (ps.map tC)from ZJ B]at z;obtain⟨p,r,rfl⟩:=List.exists_cons_of_ne_nil B;have h:=EF (c:=44) (x3 p) (xs:=(p::r).map tC) ZQ;rw[z]at h;revert h
 decide +kernel
def ju{p:P2}{c:Nat}(h1:c≠58)(h2:c ∉ fg p.1)(M:c ∉ fg p.2):c ∉ (tC p).cps.toList:=λh=>by
 rcases vC h with e | ⟨x,I,B⟩
 ·exact h1 e
 ·rcases(by simpa using I:x=tx p.1\/x=tx p.2)with rfl | rfl
  ·exact h2 B
  ·exact M B
theorem Aq:∀{p:Pp}{c:Nat},ou p->c∈aB p->(48<=c/\c<=57)\/c=40\/c=44\/c=41
 | .all n,c,h,I=>.inl ((R8 c).mp ((fY h).1 c I))
 | .split n l r,c,h,I=>by
  have B:c∈fg n++40::(aB l++44::(aB r++[41])):=I;simp only[mem_append,mem_cons,not_mem_nil,or_false]at B;rcases B with z | z | z | z | z | z
  ·exact .inl ((R8 c).mp ((fY h.1).1 c z))
  ·exact .inr (.inl z)
  ·exact Aq h.2.1 z
  ·exact .inr (.inr (.inl z))
  ·exact Aq h.2.2 z
  ·exact .inr (.inr (.inr z))
def ue{x:Vl}(h:cA k x):32 ∉ x.wd.cps.toList:=by
 cases x with
 | n i=>exact A8
 | g ps=>
  intro h;rcases vC h with e | ⟨x,h1,h2⟩
  ·exact absurd e ∅
  ·obtain⟨p,_,rfl⟩:=eE h1;exact zy (.inl ∅) h2
 | c p=>exact ju ∅ A8 A8
 | x o=>
  cases o with
  | none=>show 32 ∉ [45];decide
  | some p=>exact ju ∅ A8 A8
 | l ps=>
  show 32 ∉ (tL ps).cps.toList;unfold tL;split
  ·show 32 ∉ [45];decide
  ·intro h;rcases vC h with e | ⟨x,h1,h2⟩
   ·exact absurd e ∅
   ·obtain⟨p,_,rfl⟩:=eE h1;exact ju ∅ A8 A8 h2
 | pp p=>intro h';have:=Aq h.2.1 (show 32∈aB p from h');lia
def Ap{n:Nat}(h:n<=1000):(tx (n:Int)).length<=51:=IK {} {}
def Ms(h:uc p):(tP p).length<=156:=nj (B:=51) _ λx M=>by
 obtain⟨i,hi,rfl⟩:=eE M;have I:i=(p.1:Int)\/i=(p.2.1:Int)\/i=(p.2.2:Int):=by simpa [iw] using hi
 rcases I with rfl | rfl | rfl
 ·exact Ap h.1
 ·exact Ap h.2.1
 ·exact Ap h.2.2
def Q3(h:mi p):(tC p).length<=104:=nj (B:=51) [tx p.1,tx p.2] λx I=>by
 have h2:=h.2;rcases(by simpa using I:x=tx p.1\/x=tx p.2)with rfl | rfl
 ·exact IK h.1.1 h.1.2
 ·exact IK {} {}
def PQ{ps:List P3}(I:ps.length<=8)(h:∀ p∈ps,uc p):(tG ps).length<=1300:=by
 have:=nj (c:=43) (B:=156) (ps.map tP) λx M=>by
  obtain⟨p,hp,rfl⟩:=eE M;exact Ms (h p hp)
 rw[ZK]at this;have I:=Nat.mul_le_mul I (ZF (156+1));exact ZT this (ZT I ∅)
def DK{ps:List P2}(M:ps.length<=100)(h:∀ p∈ps,mi p):(tL ps).length<=10500:=by
 unfold tL;split
 ·exact(by decide:1<=10500)
 ·have:=nj (c:=44) (B:=104) (ps.map tC) λx I=>by
   obtain⟨p,hp,rfl⟩:=eE I;exact Q3 (h p hp)
  rw[ZK]at this;have N:=Nat.mul_le_mul M (ZF (104+1));exact ZT this (ZT N ∅)
def Q0{x:Vl}(h:cA k x):x.wd.length<=20000:=by
 cases x with
 | n i=>exact ZT (IK h.1.1 h.1.2) ∅
 | g ps=>exact ZT (PQ h.2.2.1 h.2.2.2) ∅
 | c p=>exact ZT (Q3 h.2) ∅
 | x o=>
  cases o with
  | none=>exact(by decide:1<=20000)
  | some p=>exact ZT (Q3 (h.2 p J)) ∅
 | l ps=>exact ZT (DK h.2.1 h.2.2) ∅
 | pp p=>show(bI (aB p)).length<=_;rw[Ey];exact h.2.2.2
structure oq(lead nm:Str)(ks:List Str)(xs:List Vl):Prop where
 len:ks.length=xs.length
 eS:xs.length<=200
 kd:(lead = "" /\ nm = "row" /\ ks=List.replicate xs.length ("number" : Str))\/aO λfk t=>aP ((nm,fk)∈f9) ((nm,t)∈told) (((lead = "paper" /\ ks=fk)\/(lead = "shows" /\ ks=fk++[t, "paper"])))
 val:∀(i:Nat)(k:Str)(x:Vl),ks[i]? = some k->xs[i]? = some x->cA k x
 dQ:(dC lead nm xs).length<=300000
noncomputable def Tx:List Str := "row" :: f9.map (·.1)
def oq.nm{lead nm:Str}{ks:List Str}{xs:List Vl}(s:oq lead nm ks xs):nm∈Tx:=by
 rcases s.kd with ⟨_,h,_⟩ | ⟨B,t,h,_⟩
 ·rw[h];exact ZQ ..
 ·exact ZU _ (mem_map_of_mem (f:=(·.1)) h)
def oq.ld{lead nm:Str}{ks:List Str}{xs:List Vl}(s:oq lead nm ks xs):lead = "" \/ lead = "paper" \/ lead = "shows" := by
 rcases s.kd with ⟨h,_⟩ | ⟨B,t,_,_,⟨h,_⟩ | ⟨h,_⟩⟩
 ·exact .inl h
 ·exact .inr (.inl h)
 ·exact .inr (.inr h)
def qR:∀ x∈Tx,32 ∉ x.cps.toList:=⟨⟩
def qQ:∀ x∈Tx,BX (.str x) [.str "paper", .str "shows"]=false:=⟨⟩
def DJ{xs:List Vl}(s:oq lead nm ks xs):Txt.split (dC lead nm xs) " " = fw lead++nm::xs.map Vl.wd:=by
 rw[KO];refine fX (by simp) λp hp=>?_;rcases eC hp with hp | hp
 ·unfold fw at hp;split at hp
  ·cases hp
  ·rw[eD hp];rcases s.ld with rfl | rfl | rfl <;> decide +kernel
 ·rcases ad hp with rfl | hp
  ·exact qR _ s.nm
  ·obtain⟨m,hm,rfl⟩:=eE hp;obtain⟨i,hi,e⟩:=getElem_of_mem hm;have B:=s.len;exact ue (s.val i ks[i] m (ZP {}) (by rw[<- e];exact ZP hi))
def x5{n:Nat}(h:n<=400000):n<=sizeLine:=ZT h ∅
def Fr(H:Hp)(v:V):Prop:=∀ a,v = .ref a->H a=none
inductive Ss(u0:Fg)(vs:List V)(H:Hp)(Q:VK)(E:XK):Prop
 |mk(n:Int)(_:vs=[.str (tx n)])(_:-(10^50)<n)(_:n<10^50)(_:∀ H',ag H H'->Q (.int n) H')
inductive RZ(u0:Fg)(vs:List V)(H:Hp)(Q:VK)(E:XK):Prop
 |mk(n:Int)(_:vs=[.str (tx n)])(_:0<=n)(_:n<10^50)(_:∀ H',ag H H'->Q (.int n) H')
inductive QZ(u0:Fg)(vs:List V)(H:Hp)(Q:VK)(E:XK):Prop
 |mk(n:Int)(_:vs=[.str (tx n)])(_:1<=n)(_:n<10^50)(_:∀ H',ag H H'->Q (.int n) H')
inductive QY(K:Fg)(vs:List V)(H:Hp)(Q:VK)(E:XK):Prop
 |mk(p:P3)(_:vs=[.str (tP p)])(_:uc p)(_:∀ v H',ag H H'->j4 K H' v p->Fr H v->Q v H')
inductive RY(K:Fg)(vs:List V)(H:Hp)(Q:VK)(E:XK):Prop
 |mk(ps:List P3)(_:vs=[.str (tG ps)])(_:ps≠[])(_:ps.length<=8)(_:(∀ p∈ps,uc p))(_:∀(D:Addr)(xs:List V)(H':Hp),ag H H'->H' D=some (.lst xs)->iE K H' xs ps->H D=none->Q (.ref D) H')
theorem Bw{H:Hp}{p:Pp}{v:V}(h:bt H v p):aO λa xs=>v = .ref a/\H a=some (.tup xs):=by
 cases p;obtain⟨a,e,h⟩:=h;exact⟨a,_,e,h⟩;obtain⟨a,_,_,e,h,_⟩:=h;exact⟨a,_,e,h⟩
inductive SH(u0:Fg)(vs:List V)(H:Hp)(Q:VK)(E:XK):Prop
 |mk(p:P2)(_:vs=[.str (tC p)])(_:mi p)(_:∀ v H',ag H H'->j5 H' v p->Fr H v->Q v H')
inductive Gi(u0:Fg)(vs:List V)(H:Hp)(Q:VK)(E:XK):Prop
 |mk(o:Option P2)(_:vs=[.str (tX o)])(_:(∀ p,o=some p->mi p))(_:∀ v H',ag H H'->j6 H' v o->Fr H v->Q v H')
inductive Gh(u0:Fg)(vs:List V)(H:Hp)(Q:VK)(E:XK):Prop
 |mk(ps:List P2)(_:vs=[.str (tL ps)])(_:ps.length<=100)(_:(∀ p∈ps,mi p))(_:∀(D:Addr)(xs:List V)(H':Hp),ag H H'->H' D=some (.lst xs)->Paired (j5 H') xs ps->H D=none->Q (.ref D) H')
inductive RX(u0:Fg)(vs:List V)(H:Hp)(Q:VK)(E:XK):Prop
 |mk(p:Pp)(_:vs=[.str (bI (aB p))])(_:ou p)(_:dep p<=100)(_:(aB p).length<=20000)(_:∀ v H',ag H H'->bt H' v p->Q v H')
def Fr2(H H':Hp)(v:V):Prop:=∀ a,v = .ref a->H a=none \/ ∃ xs,H' a=some (.tup xs)
inductive pW(K:Fg)(vs:List V)(H:Hp)(Q:VK)(E:XK):Prop
 |mk(k:Str)(x:Vl)(_:vs=[.str k,.str x.wd])(_:cA k x)(_:∀ v H',ag H H'->ic K H' v x->Fr2 H H' v->Q v H')
inductive Sr(K:Fg)(vs:List V)(H:Hp)(Q:VK)(E:XK):Prop
 |mk(ka wa:Addr)(lead nm:Str)(ks:List Str)(xs:List Vl)(_:vs=[.ref ka,.ref wa])(_:oq lead nm ks xs)(_:au K H ka (ks.map V.str))(_:ao K H wa ((xs.map Vl.wd).map V.str))(_:∀(D:Addr)(ys:List V)(H':Hp),ag H H'->H' D=some (.lst ys)->cM K H' ys xs->Q (.ref D) H')
inductive RW(K:Fg)(vs:List V)(H:Hp)(Q:VK)(E:XK):Prop
 |mk(lead nm:Str)(ks:List Str)(xs:List Vl)(_:vs=[.str lead,.str nm,.int (xs.length:Int)])(_:oq lead nm ks xs)(_:∀(a:Addr)(H':Hp),ag H H'->au K H' a (ks.map V.str)->Q (.ref a) H')
inductive Sq(K:Fg)(vs:List V)(H:Hp)(Q:VK)(E:XK):Prop
 |mk(lead nm:Str)(ks:List Str)(xs:List Vl)(_:vs=[.str (dC lead nm xs)])(_:oq lead nm ks xs)(_:∀(p D:Addr)(ys:List V)(H':Hp),ag H H'->H' p=some (.tup [.str lead,.str nm,.ref D])->H' D=some (.lst ys)->cM K H' ys xs->Q (.ref p) H')
def fe(h:a=b):decide (V.str a=V.str b)=true:=ZG (congrArg V.str h)
def de(h:a≠b):decide (V.str a=V.str b)=false:=by
 grind
section
open PyProof.Rows.KTD
def um(h:Dc K a=true):sW K a told:=by
 have e:(λ(d:Str) (v:Value)=>decide (oW v=some d))=λd v=>decide (strOf v=some d):=by funext d v;cases v <;> rfl
 show tabLook (λ(d:Str) (v:Value)=>decide (oW v=some d)) _ a told=true;rw[e];exact h
end
def SG(l:List V):dO l (some 1) none=l.drop 1:=by
 unfold dO;rw[show(some (1:Int))=some ((1:Nat):Int)from J,HT.Q13,HT.Kq];cases l with
 | nil=>rfl
 | cons a r=>rw[YH (by rw[WB];lia)];exact WP (by rw[length_drop];exact ZF _)
def gL:z.C P w 3 "number_of" c_ (Ss K):=by
 have sc:=Qi;specialize z.jT;obtain⟨n,rfl,B,h1,q⟩:=h;exists _,(bF (vU J (az (aC (Il z) hr (ar kb)))))
 exact⟨tx n,n,J,x_ B h1,q⟩
def kM:z.C P w 4 "count_of" c_ (RZ K):=by
 have sc:=Pj;specialize z.lI;obtain⟨n,rfl,I,h1,q⟩:=h;refine⟨_,(aj (aF 1 sc.nd (aC (gL z) hr (ar kb)))
 (aj (aW (aN bS kv ah)
 (bF dF))
 (az kv))),?_⟩
 refine⟨n,J,{},h1,λH1 B=>?_⟩;refine aT (λc=>absurd (ZI c) {}) (λ_=>?_);exact q H1 B
def NL:z.C P w 4 "part_of" c_ (QZ K):=by
 have sc:=Oe;specialize z.nL;obtain⟨n,rfl,I,h1,q⟩:=h;refine⟨_,(aj (aF 1 sc.nd (aC (gL z) hr (ar kb)))
 (aj (aW (aN bS kv ah)
 (bF dF))
 (az kv))),?_⟩
 refine⟨n,J,{},h1,λH1 B=>?_⟩;refine aT (λc=>absurd (ZI c) {}) (λ_=>?_);exact q H1 B
def my:z.C P w 5 "spot_of" c_ (QY K):=by
 have sc:=Oc;specialize z.nH;obtain⟨p,rfl,hp,q⟩:=h;refine⟨_,(aj (aF 1 sc.nd (bG WW PySem.F.slot_str_split PySem.F.type_str_split mT kb (ar aR)))
 (aj (aW (aN bX (dH z.bE (ar kv)) ah)
 (bF dF))
 (az (ei AI () z.eW vN (ar (kf (cl:=[]) (cn:=[]) (N:=[]) (fr:=[]) (bB:=aI Hg) J (cw kv) (λC s₂ H₂ fp=>(aC (kM z) hr (ar kb))) (by ac_rfl) trivial J J J eT J)))))),?_⟩
 symm;have hl:=Ms hp;have hc:=gH (tP p) ":";have hs:Txt.split (tP p) ":" = (iw p).map tx:=by
  rw[show(":" : Str)=⟨#[58]⟩ from ⟨⟩];refine fX (by simp[iw]) λx hx=>?_;obtain⟨i,hi,rfl⟩:=eE hx;have B:i=(p.1:Int)\/i=(p.2.1:Int)\/i=(p.2.2:Int):=by simpa [iw] using hi
  rcases B with rfl | rfl | rfl <;> exact DL (.inr ∅)
 refine⟨J,_, ":", J,J,⟨⟩,aA {},aA {},by rw[hs,ZK];exact aA (by show 3<=_;decide),λl U=>?_⟩;rw[hs];obtain⟨H1,gz,Z,W⟩:=cH U (.lst (((iw p).map tx).map V.str));rw[gz];refine⟨l,_,J,.inl (ao.of W),J,du J ?_⟩;refine⟨l,J,⟨_,ao.of W⟩,λD hD=>eY (K:=K) (xs:=((iw p).map tx).map V.str) (aA (by show 3<=_;decide))
  (λi ys H2=>ys=((iw p).take i).map V.int/\i<=3/\ag H1 H2/\H2 D=some (.lst ys)) ⟨J,ZX _,aM hD _,ax⟩
  (λi ys H2 ⟨_,_,I,_⟩=>ao.of (I _ _ W)) (λi ys H2 ⟨e,hi,_,M⟩=>⟨M,by rw[e,ZK,WL];show min i 3=i;lia⟩) ?_ ?_⟩
 ·rintro i v ys H2 S ⟨e,hi,I,M⟩;rw[WE,WE]at S;cases O:(iw p)[i]? with
  | none=>rw[O]at S;cases S
  | some n=>
   rw[O]at S;cases S;have B:n=(p.1:Int)\/n=(p.2.1:Int)\/n=(p.2.2:Int):=by simpa [iw] using ZV O
   have hn:0<=n/\n<10^50:=by
    have:=hp.1;have:=hp.2.1;have:=hp.2.2;rcases B with rfl | rfl | rfl <;> lia
   refine⟨n,J,hn.1,hn.2,λH3 Y=>⟨Y _ _ M,?_,?_,qI (I.trans Y) hD,ax⟩⟩
   ·rw[e,WK,O,WF];rfl
   ·have:i<3:=(ac O).1;lia
 ·rintro ys H2 ⟨e,hi,I,M⟩;have e':ys=(iw p).map V.int:=e;rw[e']at M;refine⟨D,_,J,.inl ⟨ao.of M,λt ht=>?_⟩⟩;exact q _ _ (Z.trans (I.trans (aM ht _))) ⟨t,J,au.of ax⟩ λa ha=>by cases ha;exact(Z.trans I).free ht
def O5:z.C P w 6 "spots_of" c_ (RY K):=by
 have sc:=Ph;specialize z.lA;obtain⟨ps,rfl,Z,h8,hp,q⟩:=h;refine⟨_,(aj (aF 1 sc.nd (bG WW PySem.F.slot_str_split PySem.F.type_str_split mT kb (ar aR)))
 (aj (aW (aN cD (dH z.bE (ar kv)) ah)
 (bF dF))
 (az (kf (cl:=[]) (cn:=[]) (N:=[]) (fr:=[]) (bB:=aI SE) J (cw kv) (λC s₂ H₂ fp=>(aC (my z) hr (ar kb))) (by ac_rfl) trivial J J J eT J)))),?_⟩
 symm;have hl:(tG ps).length<=1300:=PQ h8 hp;have hc:=gH (tG ps) "+";have hs:Txt.split (tG ps) "+" = ps.map tP:=by rw[show("+" : Str)=⟨#[43]⟩ from ⟨⟩];refine fX (by simpa using Z) λx hx=>?_;obtain⟨i,hi,rfl⟩:=eE hx;exact zy (.inl ∅)
 refine⟨J,_, "+", J,J,⟨⟩,aA {},aA {},by rw[hs,ZK];exact aA {},λl rE=>?_⟩;rw[hs];obtain⟨H1,gz,s1,e1⟩:=cH rE (.lst ((ps.map tP).map V.str));rw[gz];have hlen:((ps.map tP).map V.str).length=ps.length:=by rw[ZK,ZK]
 exists l,_,J,.inl (ao.of e1);rw[hlen];refine aT (λc=>absurd (ZI c) {}) (λ_=>?_);refine⟨l,J,⟨_,ao.of e1⟩,λD hD=>eY (K:=K) (xs:=(ps.map tP).map V.str) (by rw[hlen];exact aA {})
  (λi ys H2=>H2 D=some (.lst ys)/\ys.length=i/\ag H1 H2/\iE K H2 ys (ps.take i)) ⟨ax,J,aM hD _,⟨J,λj x p h1 _=>by cases h1⟩⟩
  (λi ys H2 ⟨_,_,B,_⟩=>ao.of (B _ _ e1)) (λi ys H2 ⟨O,e,_,_⟩=>⟨O,e⟩) ?_ ?_⟩
 ·rintro i v ys H2 I ⟨O,e,B,M⟩;rw[WE,WE]at I;cases U:ps[i]? with
  | none=>rw[U]at I;cases I
  | some p=>
   rw[U]at I;cases I;refine⟨p,J,hp p (ZV U),λv S W Y _=>?_⟩;have e3:=W _ _ O;have kD:aq D S (upd S D (.lst (ys++[v]))):=aq.set D S _;exists e3,ax,by rw[ZM,e] <;> rfl,qI (B.trans W) hD
   rw[WK,U];have up:∀ x p,j4 K S x p->j4 K (upd S D (.lst (ys++[v]))) x p:=λx p ⟨a,e,h⟩=>⟨a,e,uU kD e3 h⟩
   exact Ar ⟨M.1,λj x p h1 h2=>up x p ((M.2 j x p h1 h2).same W)⟩ (up v p Y)
 ·rintro ys H2 ⟨O,e,B,M⟩;rw[hlen,WR]at M;exact q D ys H2 (s1.trans B) O M (s1.free hD)
def iL:z.C P w 5 "counted_of" c_ (SH K):=by
 have sc:=QG;specialize z.i7;obtain⟨p,rfl,hp,q⟩:=h;refine⟨_,(aj (aF 1 sc.nd (bG WW PySem.F.slot_str_split PySem.F.type_str_split mT kb (ar aR)))
 (aj (aW (aN bX (dH z.bE (ar kv)) ah)
 (bF dF))
 (az (vj (aY (aC (gL z) hr (ar (aG cS kv ah))) (aC (kM z) hr (ar (aG cS kv ah)))))))),?_⟩
 symm;have hl:=Q3 hp;have hc:=gH (tC p) ":";obtain⟨⟨p0,Y⟩,p2,W⟩:=hp;have hs:Txt.split (tC p) ":" = [tx p.1,tx p.2]:=by
  rw[show(":" : Str)=⟨#[58]⟩ from ⟨⟩];refine fX (by simp) λx Z=>?_;rcases(by simpa using Z:x=tx p.1\/x=tx p.2)with rfl | rfl
  ·exact zx
  ·exact zx
 refine⟨J,_, ":", J,J,⟨⟩,aA {},aA {},by rw[hs];exact aA (by show 2<=_;decide),λl I=>?_⟩;rw[hs];obtain⟨H1,e1,O,M⟩:=cH I (.lst [.str (tx p.1),.str (tx p.2)]);rw[show([tx p.1,tx p.2].map V.str)=[.str (tx p.1),.str (tx p.2)]from J,e1];refine⟨l,_,J,.inl (ao.of M),J,du J ?_⟩;refine⟨_,_,ao.of M,J,p.1,J,p0,Y,λH2 B=>⟨_,_,ao.of (B _ _ M),J,p.2,J,p2,W,λH3 N=>⟨aZ J,λt S=>?_⟩⟩⟩;have U:=aM S (.tup [.int p.1,.int p.2]);exact q _ _ (O.trans (B.trans (N.trans U))) ⟨t,J,ax⟩ λa ha=>by cases ha;exact(O.trans (B.trans N)).free S
def NK:z.C P w 6 "next_of" c_ (Gi K):=by
 have sc:=Ob;specialize z.nN;obtain⟨o,rfl,I,q⟩:=h;exists _,(az (vR (aN av kb aR) dG (aC (iL z) hr (ar kb))))
 exists J;cases o with
 | none=>exact d_ (fe (show tX none=("-" : Str) from ⟨⟩)) (q .bf H (ag.refl H) J λa N=>by cases N)
 | some p=>exact dS (de (ux p)) ⟨p,J,I p J,λv H' s' B M=>q v H' s' B M⟩
def NJ:z.C P w 6 "list_of" c_ (Gh K):=by
 have sc:=Oa;specialize z.nP;obtain⟨ps,rfl,hl,hp,q⟩:=h;exists _,(az (vR (aN av kb aR) (tS fU) (kf (cl:=[]) (cn:=[]) (N:=[]) (fr:=[]) (bB:=aI Hf) J (cw (bG WW PySem.F.slot_str_split PySem.F.type_str_split mT kb (ar aR))) (λC s₂ H₂ fp=>(aC (iL z) hr (ar kb))) (by ac_rfl) trivial J J J eT J)))
 symm;exists J;by_cases W:ps=[]
 ·subst W;rw[fe (show tL []=("-" : Str) from ⟨⟩)];exact bM ⟨aZ J,λD O _ sZ eZ=>q D [] _ sZ eZ .nil O⟩
 ·have xf:tL ps=Str.join ⟨#[44]⟩ (ps.map tC):=ZJ W;rw[de (uv W)];have hlen:=DK hl hp;have hc:=gH (tL ps) ",";have hs:Txt.split (tL ps) "," = ps.map tC:=by rw[xf,show("," : Str)=⟨#[44]⟩ from ⟨⟩];refine fX (by simpa using W) λx hx=>?_;obtain⟨p,_,rfl⟩:=eE hx;exact ju ∅ AY AY
  refine aU ⟨J,_, ",", J,J,⟨⟩,aA {},aA {},by rw[hs,ZK];exact aA {},λl rE=>?_⟩;rw[hs];obtain⟨H1,e1,s1,f1⟩:=cH rE (.lst ((ps.map tC).map V.str));rw[e1];have M:((ps.map tC).map V.str).length=ps.length:=by rw[ZK,ZK]
  refine⟨l,J,⟨_,ao.of f1⟩,λD O=>eY (K:=K) (xs:=(ps.map tC).map V.str) (by rw[M];exact aA {})
   (λi ys H2=>H2 D=some (.lst ys)/\ys.length=i/\ag H1 H2/\Paired (j5 H2) ys (ps.take i)) ⟨ax,J,aM O _,.nil⟩
   (λi ys H2 ⟨_,_,B,_⟩=>ao.of (B _ _ f1)) (λi ys H2 ⟨S,e,_,_⟩=>⟨S,e⟩) ?_ ?_⟩
  ·rintro i v ys H2 I ⟨S,e,B,Y⟩;rw[WE,WE]at I;cases U:ps[i]? with
   | none=>rw[U]at I;cases I
   | some p=>
    rw[U]at I;cases I;refine⟨p,J,hp p (ZV U),λv H3 Z Zx _=>?_⟩;have e3:=Z _ _ S;have tk:aw H3 (upd H3 D (.lst (ys++[v]))):=.set e3;exists e3,ax,by rw[ZM,e] <;> rfl,qI (B.trans Z) O
    rw[WK,U];exact SO (L2.Paired.fZ Y λ_ _ z=>(z.tk (.same Z)).tk tk) (.cons (Zx.tk tk) .nil)
  ·rintro ys H2 ⟨S,e,B,Y⟩;rw[M,WR]at Y;exact q D ys H2 (s1.trans B) S Y (s1.free O)
def O4:z.C P w 105 "paper_of" c_ (RX K):=by
 have sc:=Pg;specialize z.lD;obtain⟨p,rfl,I,hd,O,q⟩:=h;refine⟨_,(aj (aW (aN av kb aR)
 (bF dF))
 (az (aC (As z) hr (ar kb)))),?_⟩
 have B:bI (aB p) ≠ "" := λz=>by
  have:=EH I;have:=zz p;have e:(bI (aB p)).cps.toList=[]:=by rw[z];decide +kernel
  rw[qU]at e;have S:(aB p).length=0:=by rw[e];rfl
  lia
 exists J;refine dS (de B) ⟨bI (aB p),p,J,by rw[Ey];lia,?_,λv H' s' M=>q v H' s' M⟩;have:=DO (p:=p) (e:=100) (r:=[]) I hd λc N=>by cases N
 rw[append_nil]at this;exact this
def O3:z.C P w 106 "value_of" ["kind", "word"] (pW K):=by
 have sc:=Pe;specialize z.ly;obtain⟨k,x,rfl,B,q⟩:=h;refine⟨_,(aj (aW (aN av kb aR)
 (az (aC (kM z) hr (ar kv))))
 (aj (aW (aN av kb aR)
 (az (aC (gL z) hr (ar kv))))
 (aj (aW (aN av kb aR)
 (az (aC (NL z) hr (ar kv))))
 (aj (aW (aN av kb aR)
 (az (aC (my z) hr (ar kv))))
 (aj (aW (aN av kb aR)
 (az (aC (O5 z) hr (ar kv))))
 (aj (aW (aN av kb aR)
 (az (aC (iL z) hr (ar kv))))
 (aj (aW (aN av kb aR)
 (az (aC (NK z) hr (ar kv))))
 (aj (aW (aN av kb aR)
 (az (aC (NJ z) hr (ar kv))))
 (az (aC (O4 z) hr (ar kv))))))))))),?_⟩
 exists J;cases x with
 | n i=>
  obtain⟨⟨h0,h1⟩,B⟩:=B;have M:∀ H',ag H H'->Q (.int i) H':=λH' s'=>q _ H' s' J (λa I=>by cases I);rcases B with ⟨rfl,B⟩ | rfl | ⟨rfl,B⟩
  ·exact d_ (fe J) ⟨i,J,B,h1,M⟩
  ·refine dS (de ⟨⟩) ⟨J,?_⟩;exact d_ (fe J) ⟨i,J,h0,h1,M⟩
  ·refine dS (de ⟨⟩) ⟨J,?_⟩;refine dS (de ⟨⟩) ⟨J,?_⟩;exact d_ (fe J) ⟨i,J,B,h1,M⟩
 | g ps=>
  obtain⟨rfl,O,h8,hp⟩:=B
  iterate 4
   refine dS (de ⟨⟩) ⟨J,?_⟩
  exact d_ (fe J) ⟨ps,J,O,h8,hp,λD xs H' s' W Y S=>q _ H' s' ⟨D,xs,J,ao.of W,Y⟩ λa I=>by cases I;exact .inl S⟩
 | c p=>
  obtain⟨rfl,hp⟩:=B
  iterate 5
   refine dS (de ⟨⟩) ⟨J,?_⟩
  exact d_ (fe J) ⟨p,J,hp,λv H' s' N U=>q v H' s' N λa I=>.inl (U a I)⟩
 | x o=>
  obtain⟨rfl,hp⟩:=B
  iterate 6
   refine dS (de ⟨⟩) ⟨J,?_⟩
  exact d_ (fe J) ⟨o,J,hp,λv H' s' N U=>q v H' s' N λa I=>.inl (U a I)⟩
 | l ps=>
  obtain⟨rfl,Z,hp⟩:=B
  iterate 7
   refine dS (de ⟨⟩) ⟨J,?_⟩
  exact d_ (fe J) ⟨ps,J,Z,hp,λD xs H' s' W Y S=>q _ H' s' ⟨D,xs,J,W,Y⟩ λa I=>by cases I;exact .inl S⟩
 | pp p=>
  obtain⟨rfl,h1,h2,h3⟩:=B
  iterate 7
   refine dS (de ⟨⟩) ⟨J,?_⟩
  refine dS (de ⟨⟩) ⟨p,J,h1,h2,h3,λv H' s' N=>q v H' s' N λa I=>?_⟩;obtain⟨a',xs,e,h⟩:=Bw N;rw[I]at e;cases e;exact .inr ⟨xs,h⟩
def Fp:z.C P w 107 "values_of" ["kinds", "words"] (Sr K):=by
 have sc:=Qg;specialize z.jR;obtain⟨ka,wa,lead,nm,ks,xs,rfl,S,U,O,q⟩:=h;refine⟨_,(aj (aW (aN bX (dH z.bE (ar kv)) (dH z.bE (ar kb)))
 (bF dF))
 (az (vw (x := "kind") (cl:=[]) (cn:=[]) (TN:=["word"]) (N:=[]) (fr:=[]) (bB:=aI A9) J (wm J z.LG (aY kb kv)) (λC s₂ H₂ fp=>(aC (O3 z) hr (aY kb kv))) (λC s₂ H₂ fp=>qa) (λC s₂ H₂ fp=>(kF (K:=K) (n:=2) J J (cF (kg (i:=0) (show(["kind", "word"]:List Str).Nodup from ⟨⟩) J (Or.inl J)) (cF (kg (i:=1) (show(["kind", "word"]:List Str).Nodup from ⟨⟩) J (Or.inl J)) jq)))) (by ac_rfl) trivial J J J ⟨⟨⟩,⟨⟩,⟨⟩,⟨⟩⟩ J))),?_⟩
 symm;have hl:=S.len;have hf:=S.eS;have l1:((xs.map Vl.wd).map V.str).length=xs.length:=by rw[ZK,ZK]
 have l2:(ks.map V.str).length=xs.length:=by rw[ZK,hl]
 exists wa,_,J,.inl O,ka,_,J,.inr U,J;rw[l1,l2];refine du J ?_;refine⟨ka,wa,J,⟨_,U⟩,⟨_,O⟩,λD hD=>?_⟩;refine Ou (K:=K) (xs:=ks.map V.str) (zs:=(xs.map Vl.wd).map V.str) (by rw[l2];exact aA {}) (by rw[l1,l2]) (λi ys I=>I D=some (.lst ys)/\ys.length=i/\ag H I/\cM K I ys (xs.take i) /\ ∀ x∈ys,x ≠ .ref D) ⟨ax,J,aM hD _,⟨J,λj x p h1 _=>by cases h1⟩,λx B=>by cases B⟩
  (λi ys I ⟨_,_,Y,_⟩=>⟨Y.cJ U,Y.seq O⟩) (λi ys I ⟨h4,e,_⟩=>⟨h4,Nat.le_of_eq e⟩) ?_ ?_
 ·rintro i x y ys I p B Z ⟨h4,e,Y,hA,Xb⟩ hp X3 Ui;rw[WE]at B Z;rw[WE]at Z;cases ek:ks[i]? with
  | none=>rw[ek]at B;cases B
  | some k=>
   rw[ek]at B;cases B;cases en:xs[i]? with
   | none=>rw[en]at Z;cases Z
   | some n=>
    rw[en]at Z;cases Z;have s5:=aM hp (.tup [.str k,.str n.wd])
    obtain⟨x0,x1,rfl⟩:=l_2 Ui
    ·exists p,_,J,au.of ax,J,_,_,J,_,_,J,J,⟨[_,_],J,J⟩
     refine bM ⟨k,n,J,S.val i k n ek en,λv H6 s6 hv kq=>?_⟩;have M:=s5.trans s6;have W:=M _ _ h4;have kD:aq D H6 (upd H6 D (.lst (ys++[v]))):=aq.set D H6 _;have up:∀ x y,x ≠ .ref D->ic K H6 x y->ic K (upd H6 D (.lst (ys++[v]))) x y:=λx y eP h=>by
      cases y with
      | n i=>exact h
      | c p=>exact j5.tk (.set W) h
      | x o=>exact j6.tk (.set W) h
      | pp p=>exact bt.tk (.set W) h
      | l ps=>obtain⟨D',zs,e,h1,h2⟩:=h;exact⟨D',zs,e,kD _ _ (λz=>eP (by rw[e,z])) h1,L2.Paired.fZ h2 λ_ _ z=>z.tk (.set W)⟩
      | g ps=>
       obtain⟨D',zs,e,h1,h2⟩:=h;exact⟨D',zs,e,kD.L6 (λz=>eP (by rw[e,z])) h1,h2.1,λj x p g1 g2=>by
        obtain⟨a,e,h⟩:=h2.2 j x p g1 g2;exact⟨a,e,uU kD W h⟩⟩
     have WU:v ≠ .ref D:=λz=>by
      rcases kq D z with this | ⟨zs,this⟩
      ·rw[s5 _ _ h4]at this;cases this
      ·rw[W]at this;cases this
     refine⟨W,ax,by rw[ZM,e] <;> rfl,qI (Y.trans M) hD,?_,λx B=>?_⟩
     ·rw[WK,en];exact Ar ⟨hA.1,λj x p h1 h2=>up x p (Xb x (ZV h1)) ((hA.2 j x p h1 h2).same M)⟩ (up v n WU hv)
     ·rcases eC B with h | h
      ·exact Xb x h
      ·rw[eD h];exact WU
 ·rintro ys I ⟨h4,e,Y,hA,_⟩;rw[l2,WR]at hA;exact q D ys I Y h4 hA
def z6:z.C P w 1 "kinds_of" ["lead", "name", "many"] (RW K):=by
 have sc:=Pf;specialize z.lE;obtain⟨lead,nm,ks,xs,rfl,S,q⟩:=h;obtain⟨B,I,W⟩:=z.frm;obtain⟨ta,M,O⟩:=z.X7;have TS:=um O;refine⟨_,(aj (aW (PW.pt (iV (aN av kb aR) (mu (aN av kv aR))))
 (az (ae wD (vj (ar aR)) bv)))
 (aj (aW (PW.pt (pw_or (A4 MY kv (kR (v:=.ref B) (u:=.ref B) () I J) J) (yc (PW.pt (iV (aN bX kb aR) (mu (A4 zO kv (kR (v:=.ref ta) (u:=.ref ta) () M J) J)))))))
 (bF dF))
 (aj (aW (aN av kb aR)
 (az (ae En (aG MX (kR (v:=.ref B) (u:=.ref B) () I J) kv) (vj (aY (aG xa (kR (v:=.ref ta) (u:=.ref ta) () M J) kv) aR)))))
 (az (aG MX (kR (v:=.ref B) (u:=.ref B) () I J) kv))))),?_⟩
 symm;have hf:=S.eS;exists J;rcases S.kd with ⟨rfl,rfl,rfl⟩ | ⟨fk,t,Z,ht,hh⟩
 ·refine d_ (fe J) ⟨J,?_⟩;refine d_ (fe J) ⟨aZ J,λa ha=>⟨a,_,_,J,J,ax,{},λp H' s' hp=>?_⟩⟩;refine q p H' ((aM ha _).trans s') ?_;rw[map_replicate];exact hp
 ·have N:lead ≠ "" := by rcases hh with ⟨rfl,_⟩ | ⟨rfl,_⟩ <;> decide +kernel
  obtain⟨Y,dd,h1,h2,h3⟩:=xn W Z;have e2:PyProof.Rows.KTD.datumAt nm told=some t/\PyProof.Rows.KTD.inKeys nm told=true:=by
   have z:∀ p∈told,PyProof.Rows.KTD.datumAt p.1 told=some p.2/\PyProof.Rows.KTD.inKeys p.1 told=true:=⟨⟩
   exact z _ ht
  refine dS (de N) (aU ⟨_,B,_,J,J,Y,?_⟩);rw[h2];refine aU ⟨J,?_⟩;rw[de N];refine bM ⟨_,ta,_,J,J,TS,?_⟩;rw[e2.2];refine aU ⟨J,?_⟩;rcases hh with ⟨rfl,rfl⟩ | ⟨rfl,rfl⟩
  ·exact dS (de ⟨⟩) ⟨B,_,_,dd,J,J,Y,h1,q dd H (ag.refl H) (h3 H)⟩
  ·refine d_ (fe J) ⟨B,_,_,dd,J,J,Y,h1,ta,_,_,t,J,J,TS,e2.1,aZ J,λp hp=>?_⟩;refine⟨dd,p,_,_,J,J,h3 _,au.of ax,?_,λp' H' s' U _=>?_⟩
   ·have fl:∀ f∈f9,f.2.length<=10:=⟨⟩
    have:fk.length<=10:=fl _ Z;rw[ZK];exact aA (show fk.length+2<=100000 by lia)
   ·refine q p' H' ((aM hp _).trans s') ?_;rw[WF];exact U
def PN:z.C P w 108 "read_said" ["row"] (Sq K):=by
 have sc:=Qh;specialize z.jS;obtain⟨lead,nm,ks,xs,rfl,S,q⟩:=h;refine⟨_,(aj (aW (Eh (uQ (cK iS () z.bp dy (aY kb (iN (v:=.ty "str") (u:=.type "str") () z.cj kh J)))))
 (bF dF))
 (aj (aF 1 sc.nd (bG WW PySem.F.slot_str_split PySem.F.type_str_split mT kb (ar aR)))
 (aj (aF 2 sc.nd (vR (A4 pS (aG cS kv ah) (vj (aY aR aR)) J) (aG cS kv ah) aR))
 (aj (gK (aW (aN bX bv aR)
 (bF (aF 1 sc.nd (Am AW kv (yf ah) Mt)))))
 (aj (aF 3 sc.nd (vR (aN cD (dH z.bE (ar kv)) ah) (aG cS kv ah) aR))
 (az (vj (bW bv bi (aC (Fp z) hr (aY (aC (z6 z) hr (bW bv bi (ae lW (dH z.bE (ar kv)) ah))) (Am AW kv (yf ah) Mt))))))))))),?_⟩
 symm;have hl:=S.dQ;have hc:=gH (dC lead nm xs) " ";have hs:=DJ S;have hf:=S.eS;have hld:(fw lead).length<=1:=by unfold fw;split <;> simp
 refine b_ λN1 y1=>?_;refine⟨_,_,_,_,J,.str _,Bm,true,J,aU ?_⟩;refine y1 _ _ (b_ λN0 y0=>?_);refine⟨J,_, " ", J,J,⟨⟩,x5 {},x5 {},by rw[hs,ZM,WB,ZK];exact aA {},λl rE=>?_⟩;rw[hs];obtain⟨H1,e1,s1,U⟩:=cH rE (.lst ((fw lead++nm::xs.map Vl.wd).map V.str));rw[e1];refine y0 _ _ (b_ λN y_=>?_);have R2:∀ H2,ag H1 H2->N [some (.str (dC lead nm xs)),some (.ref l),some (.str lead),none] H2:=by
  intro H2 I;refine y_ _ _ ?_;exists λσ' H3=>∃ O,aP (σ'=[some (.str (dC lead nm xs)),some (.ref O),some (.str lead),none]) (ag H1 H3) (H3 O=some (.lst ((nm::xs.map Vl.wd).map V.str))),?_
  ·exists J;by_cases c:lead = ""
   ·rw[fe c];refine aU ⟨l,J,I,?_⟩;have:=I _ _ U;rw[show fw lead=[]from ZL c]at this;exact this
   ·rw[de c];refine bM ⟨_,J,l,_,J,ao.of (I _ _ U),λW M=>?_⟩;rw[SG,<- map_drop,show fw lead=[lead]from ZJ c];exact⟨W,J,I.trans (aM M _),ax⟩
  ·rintro σ' H3 ⟨O,rfl,s3,f3⟩;have hlen:((nm::xs.map Vl.wd).map V.str).length=xs.length+1:=by rw[ZK,WB,ZK]
   have B:fC ((nm::xs.map Vl.wd).map V.str) 0=some (.str nm):=dm (j:=0) J;exists O,_,J,.inl (ao.of f3);rw[hlen];refine aT (λ_=>?_) (λc=>absurd (ZG {}) c);exists _,_,ao.of f3,B;refine⟨O,_,J,.inl (ao.of f3),lead,nm,ks,xs,by rw[hlen];show[V.str lead,V.str nm,V.int (((xs.length+1:Nat):Int)-1)]=_;rw[show((xs.length+1:Nat):Int)-1=(xs.length:Int) by lia],S,λka H4 s4 U0=>?_⟩;refine⟨_,J,O,_,J,ao.of (s4 _ _ f3),λW M=>?_⟩;rw[SG,<- map_drop,List.drop_one,List.tail_cons];obtain⟨H5,e5,s5,f5⟩:=cH M (.lst ((xs.map Vl.wd).map V.str));rw[e5];refine⟨ka,W,lead,nm,ks,xs,J,S,s5.cJ U0,ao.of f5,λD ys H6 s6 hD hA=>⟨aZ J,λp hp=>?_⟩⟩;have Y:=aM hp (.tup [.str lead,.str nm,.ref D]);exact q p D ys _ (s1.trans (s3.trans (s4.trans (s5.trans (s6.trans Y))))) ax (Y _ _ hD) ⟨hA.1,λj x y h1 h2=>(hA.2 j x y h1 h2).same Y⟩
 by_cases c:lead = ""
 ·have B:fC ((fw lead++nm::xs.map Vl.wd).map V.str) 0=some (.str nm):=by rw[show fw lead=[]from ZL c];exact dm (j:=0) J
  refine⟨_,_,ao.of U,B,aZ J,λt Z=>?_⟩;obtain⟨H2,e2,I,f2⟩:=cH Z (.tup [.str "paper", .str "shows"]);rw[e2];exists t,_,J,.inr (au.of f2),J,J;rw[qQ nm S.nm];have:=R2 H2 I;rw[show some (V.str lead)=some (V.str "") by rw[c]]at this;exact aU this
 ·have B:fC ((fw lead++nm::xs.map Vl.wd).map V.str) 0=some (.str lead):=by rw[show fw lead=[lead]from ZJ c];exact dm (j:=0) J
  refine⟨_,_,ao.of U,B,aZ J,λt Z=>?_⟩;obtain⟨H2,e2,I,f2⟩:=cH Z (.tup [.str "paper", .str "shows"]);rw[e2];exists t,_,J,.inr (au.of f2),J,J;rw[show BX (.str lead) [.str "paper", .str "shows"]=true by rcases S.ld with h | rfl | rfl;exact absurd h c;decide +kernel;decide +kernel];exact bM ⟨_,_,ao.of (I _ _ U),B,R2 H2 I⟩
noncomputable def Qs.wd:Qs->Str
 | .below _ _ => "below"
 | .least _ _ => "least"
 | .most _ _ => "most"
 | .aL _ _ => "often"
 | .up _ _ => "up"
noncomputable def Qs.nm:Qs->List Int
 | .below n _=>[n]
 | .least k _=>[(k:Int)]
 | .most _ _=>[]
 | .aL part _=>[part]
 | .up n _=>[n]
inductive fD(low:Int)(L:Nat)(us:List Int):Str->List Int->(List Int->Bool)->Prop
 | below (n:Int):fD low L us "below" [n] (KY n)
 | least (k:Nat) (h:k<us.length):fD low L us "least" [(k:Int)] (KW (low+cN L us k))
 | most (wo m:Int) (h:xG (cX 1 0 L low us)=some (wo,m)):fD low L us "most" [] (KU wo m)
 | aL (n:Int) (h0:0<=n) (h1:n<=1000):fD low L us "often" [n] (KS n (us.length:Nat))
 | up (n:Int):fD low L us "up" [n] (KR n ((Cv L low us).find? λq=>decide (n<q.1)))
theorem Ao{e:Nat}{low:Int}{us:List Int}{p:Pp}(d:pU e us p)(c)(B:c∈bq e low p):0<=c.2.2/\c.2.2<=(us.length:Int)
:=by
 induction p generalizing e low us with
 | all n=>
  rw[Tp]at B;have I:=R6 d;rw[eD B];show 0<=n/\n<=_;have:n=(us.length:Int):=I;lia
 | split n l r L R=>
  obtain _ | e:=e
  ·cases d
  have hs:=vK (e:=e) us;rcases eC (show c∈bq e low l++bq e (low+2^e) r from B)with h | h
  ·have:=L d.2.1 h;lia
  ·have:=R d.2.2 h;lia
noncomputable def Qs.is(ws ms:List Int):Qs->Prop
 | .below n a=>a=((ws.filter λx=>decide (x<n)).length:Int)
 | .least k wo=>ws[k]? = some wo
 | .most wo m=>xG (bj ws ms)=some (wo,m)
 | .aL part ps=>1<=part/\part<=1000/\ps=(bj ws ms).filter λq=>decide ((ws.length:Int)<q.2*part)
 | .up n o=>o=(bj ws ms).find? λq=>decide (n<q.1)
theorem zw{x:Int}{W:List Int}{k:Nat}(h:W.Pairwise (· <= ·))(e:W[k]? = some x):W.countP (λy=>decide (y<x))<=k/\k<W.countP (λy=>decide (y<x))+W.count x
:=by
 induction W generalizing k with
 | nil=>cases e
 | cons y W i=>
  obtain⟨h1,h2⟩:=List.pairwise_cons.mp h;obtain _ | k:=k
  ·cases e;have z:(x::W).countP (λy=>decide (y<x))=0:=List.countP_eq_zero.mpr λy B=>by
    rw[WV];rcases ad B with rfl | B
    ·lia
    ·have:=h1 y B;lia
   rw[z,count_cons_self];lia
  have I:W[k]? = some x:=e;have M:=i h2 I;have B:=h1 x (ZV I);rw[countP_cons,count_cons];by_cases c:y<x
  ·rw[ZL (ZG c),ZJ (by rw[beq_iff_eq];lia)];lia
  ·rw[ZJ (by rw[WV];exact c),ZL (beq_iff_eq.mpr {})];lia
theorem Gd{B:List P2}{r:P2}(h:B.Pairwise λp q=>p.1<q.1)(e:B.find? f=some r)(q)(hq:q∈B)(hf:f q=true):r.1<=q.1:=by
 induction B with
 | nil=>cases hq
 | cons x B i=>
  obtain⟨h1,h2⟩:=List.pairwise_cons.mp h;rw[find?_cons]at e;cases I:f x with
  | true=>
   rw[I]at e;cases e;rcases ad hq with z | z
   ·rw[z];exact WT _
   ·exact Int.le_of_lt (h1 q z)
  | false=>
   rw[I]at e;rcases ad hq with z | z
   ·rw[z,I]at hf;cases hf
   ·exact i h2 e z
def rH{B:List P2}{r:P2}(h:B.Pairwise λp q=>p.1<q.1)(e:(B.filter f).head? = some r){q:P2}(hq:q∈B)(I:f q=true):r.1<=q.1:=by rw[List.head?_filter]at e;exact Gd h e q hq I
section
variable{ws ms:List Int}(hs:ms.Pairwise (·<·))(hm:∀ x,x∈ms↔x∈ws)
include hs hm
theorem jt:(bj ws ms).Pairwise λp q=>p.1<q.1:=by unfold bj;rw[pairwise_map];exact hs
theorem jy{p:P2}:p∈bj ws ms↔p.1∈ws/\p.2=(ws.count p.1:Int):=by
 unfold bj;rw[mem_map];constructor
 ·rintro ⟨x,B,rfl⟩;exact⟨(hm x).mp B,J⟩
 ·rintro ⟨h1,h2⟩;exact⟨p.1,(hm _).mpr h1,Prod.ext J h2.symm⟩
theorem Qs.rp{q:Qs}(B:ws.Pairwise (· <= ·))(h:q.is ws ms):q.ok ws ms:=by
 cases q with
 | below n a=>exact h
 | least k wo=>have:=zw B h;show _<=k/\k<_+_;rw[HM];exact this
 | most wo m=>
  have h':xG (bj ws ms)=some (wo,m):=h;have U:bj ws ms≠[]:=λz=>by rw[z]at h';cases h'
  obtain⟨r,e,r1,Y,r3⟩:=O0 U;rw[h']at e;cases e;obtain⟨O,N⟩:=(jy hs hm).mp r1;have M:m=(ws.count wo:Int):=N;have c0:0<ws.count wo:=List.count_pos_iff.mpr O;refine⟨{},M,λx=>?_,λx I=>?_⟩
  ·by_cases c:x∈ws
   ·exact Y (x,(ws.count x:Int)) ((jy hs hm).mpr ⟨c,J⟩)
   ·rw[List.count_eq_zero.mpr c];lia
  ·by_cases c:x∈ws
   ·have W:=Y (x,(ws.count x:Int)) ((jy hs hm).mpr ⟨c,J⟩);have Z:(ws.count x:Int)<=m:=W;refine Classical.byContradiction λz=>?_;have:=rH (jt hs hm) r3 (q:=(x,(ws.count x:Int))) ((jy hs hm).mpr ⟨c,J⟩) (ZG (by show(ws.count x:Int)=m;lia));have:wo<=x:=this;lia
   ·rw[List.count_eq_zero.mpr c];lia
 | aL part ps=>exact⟨h.1,h.2.2⟩
 | up n o=>
  have h':o=(bj ws ms).find? λq=>decide (n<q.1):=h;cases o with
  | none=>show ∀ x∈ws,x<=n;intro x I;have:=List.find?_eq_none.mp h'.symm (x,(ws.count x:Int)) ((jy hs hm).mpr ⟨I,J⟩);rw[WV]at this;have:¬ n<x:=this;lia
  | some r=>have e:=h'.symm;obtain⟨O,N⟩:=(jy hs hm).mp (mem_of_find?_eq_some e);have c0:0<ws.count r.1:=List.count_pos_iff.mpr O;have hn:n<r.1:=ZI (find?_some (p:=λq:P2=>decide (n<q.1)) e);exact⟨hn,{},N,λx I S=>Gd (jt hs hm) e (x,(ws.count x:Int)) ((jy hs hm).mpr ⟨I,J⟩) (ZG S)⟩
theorem Qs.rn{q:Qs}{low:Int}{L:Nat}{us:List Int}(B:ws.Pairwise (· <= ·))(M:fE L us)(hp:(bD low ws).Perm us)(h:q.is ws ms):fD low L us q.wd q.nm (q.yg us.length):=by
 have I:ws.Perm (us.map λo=>low+o):=by
  have h1:=hp.map λo=>low+o;have e:(bD low ws).map (λo=>low+o)=ws:=by rw[map_map,show((λo:Int=>low+o)∘λn=>n-low)=id from funext λo=>by show low+(o-low)=o;lia,map_id]
  rw[e]at h1;exact h1
 have N:=Au M I hm hs;cases q with
 | below n a=>exact .below n
 | least k wo=>
  have h':ws[k]? = some wo:=h;have W:k<ws.length:=(ac h').1;have U:us.length=ws.length:=by rw[<- hp.length_eq,ZK]
  obtain⟨S,O⟩:=R_ L us k M {};have cn:∀ o,ws.countP (λy=>decide (y<low+o))=eO us o:=λo=>by
   rw[I.countP_eq,countP_map];refine countP_congr λx _=>?_;show decide (low+x<low+o)=true↔decide (x<o)=true;rw[WV,WV];lia
  have e:=Mu (x:=low+cN L us k) (k:=k) B (by rw[cn];exact S) (by rw[Int.add_assoc,cn];exact O);rw[h']at e;cases e;exact .least k {}
 | most wo m=>have h':xG (bj ws ms)=some (wo,m):=h;rw[N]at h';exact .most wo m h'
 | aL part ps=>exact .aL part (by have:=h.1;lia) h.2.1
 | up n o=>have h':o=(bj ws ms).find? λq=>decide (n<q.1):=h;rw[N]at h';rw[h'];exact .up n
end
def mx{e:Nat}{low w m:Int}{ws:List Int}{p:Pp}(hw:bz low e ws)(hd:pU e (bD low ws) p)(h:cU w m (bq e low p)=true):0<m/\m=((ws.count w:Nat):Int) /\ ∀ x∈ws,((ws.count x:Nat):Int)<=m/\(x<w->((ws.count x:Nat):Int)<m):=by
 have M:=Ge (low:=low) (eX hd);unfold cU at h;rw[WZ,WZ]at h;obtain⟨h0,ha,hn⟩:=h;have Y:=ZI h0;have O:=ZI ha;have U:∀ c∈bq e low p,dn w m c=false:=λc W=>by
  cases z:dn w m c with
  | false=>rfl
  | true=>rw[List.any_eq_true.mpr ⟨c,W,z⟩]at hn;cases hn
 obtain⟨c,W,c1,c2,c3⟩:=iO O;have Z:=(u_ hw hd c W).1;rw[c1,c2,c3,IB]at Z;refine⟨Y,Z,λx S=>?_⟩;obtain⟨d,I,d1,d2⟩:=kU M (hw x S).1 (hw x S).2;have pd:=(u_ hw hd d I).1;have pg:=PX (ns:=ws) d1 d2;have jJ:=List.count_pos_iff.mpr S;have B:(decide (m<d.2.2)||(decide (d.2.2=m)&&decide (d.2.1<w)))=false:=U d I;rw[Bool.or_eq_false_iff,Bool.and_eq_false_iff]at B;have o1:=of_decide_eq_false B.1;refine⟨{},λhxw=>?_⟩;have mt:=(dZ M O).1;have hb:br w d=false:=by
  cases z:br w d with
  | false=>rfl
  | true=>rw[List.any_eq_true.mpr ⟨d,I,z⟩]at mt;cases mt
 have N:(decide (0<d.2.2)&&(decide (d.1<w)&&decide (w<=d.2.1)))=false:=hb;rw[ZG (show 0<d.2.2 by lia),ZG (show d.1<w by lia),Bool.true_and,Bool.true_and]at N;have o2:=of_decide_eq_false N;rcases B.2 with z | z
 ·have:=of_decide_eq_false z;lia
 ·have:=of_decide_eq_false z;lia
def oC{e:Nat}{low n:Int}{ws ms:List Int}{p:Pp}{told:Option P2}(hw:bz low e ws)(hd:pU e (bD low ws) p)(hm:∀ x,x∈ms↔x∈ws)(hs:ms.Pairwise (·<·))(h:Ct n (bq e low p) told=true):((bj ws ms).filter λq=>decide (n<q.1)).head? = told:=by
 have W:=Ge (low:=low) (eX hd);have N:∀ x∈ws,n<x -> ∃ c∈bq e low p,c.1<=x/\x<=c.2.1/\cu n c=true:=λx I S=>by
  obtain⟨d,B,d1,d2⟩:=kU W (hw x I).1 (hw x I).2;have pd:=(u_ hw hd d B).1;have pg:=PX (ns:=ws) d1 d2;have jJ:=List.count_pos_iff.mpr I;exists d,B,d1,d2;show(decide (0<d.2.2)&&decide (n<d.2.1))=true;rw[ZG (show 0<d.2.2 by lia),ZG (show n<d.2.1 by lia)];rfl
 cases told with
 | none=>
  have h':(!(bq e low p).any (cu n))=true:=h;have e0:(bj ws ms).filter (λq=>decide (n<q.1))=[]:=by rw[List.filter_eq_nil_iff];intro q hq z;obtain⟨x,I,rfl⟩:=eE hq;obtain⟨c,Z,_,_,M⟩:=N x ((hm x).mp I) (ZI z);rw[List.any_eq_true.mpr ⟨c,Z,M⟩]at h';cases h'
  rw[e0];rfl
 | some q=>
  have h':(decide (n<q.1)&&(decide (0<q.2)&&(decide (cY q.1 (bq e low p)=some q.2)&&!((bq e low p).any λc=>cu n c&&decide (c.1<q.1)))))=true:=h;rw[WZ,WZ,WZ]at h';obtain⟨h1,h2,h3,h4⟩:=h';have h1':=ZI h1;have VD:=ZI h2;have Y:=ZI h3;obtain⟨c,Z,c1,c2,c3⟩:=iO Y;have pc:=(u_ hw hd c Z).1;rw[c1,c2,c3,IB]at pc;have Z9:q.1∈ms:=(hm _).mpr (List.count_pos_iff.mp {});have no:∀ x∈ms,n<x->q.1<=x:=λx I S=>by
   by_cases z:q.1<=x
   ·exact z
   ·obtain⟨d,B,d1,d2,M⟩:=N x ((hm x).mp I) S;rw[List.any_eq_true.mpr ⟨d,B,by rw[M,ZG (show d.1<q.1 by lia)];rfl⟩]at h4;cases h4
  clear hm Z h h3 Y W N;have key:∀ l:List Int,l.Pairwise (·<·)->q.1∈l->(∀ x∈l,n<x->q.1<=x)->((bj ws l).filter λr=>decide (n<r.1)).head? = some q:=by
   intro l
   induction l with
   | nil=>intro _ z;cases z
   | cons x l ih=>
    intro hs hq U;have O:=List.pairwise_cons.mp hs;have ew:bj ws (x::l)=(x,((ws.count x:Nat):Int))::bj ws l:=J;rw[ew];by_cases z:n<x
    ·rw[filter_cons_of_pos (by exact ZG z)];have hx1:=U x ZQ z;have Zs:x=q.1:=by
      rcases ad hq with y | y
      ·exact y.symm
      ·have:=O.1 _ y;lia
     show some (x,((ws.count x:Nat):Int))=some q;rw[Zs,<- pc]
    ·rw[filter_cons_of_neg (by rw[ZS z];exact fnt)];refine ih O.2 ?_ λy hy=>U y (ZU _ hy);rcases ad hq with y | y
     ·lia
     ·exact y
  exact key ms hs Z9 no
noncomputable def Qs.ne:Qs->Qs->Bool
 | .below _ a,.below _ b=>!decide (b=a)
 | .least _ a,.least _ b=>!decide (b=a)
 | .most wo m,.most B N=>!decide ((B,N)=(wo,m))
 | .aL _ ps,.aL _ I=>!decide (I=ps)
 | .up _ none,.up _ (some _)=>true
 | .up _ (some r),.up _ (some M)=>!decide (M=r)
 | _,_=>false
def Qs.uz:Qs->Qs->Prop
 | .below n _,.below B _=>B=n
 | .least k _,.least M _=>M=k
 | .most _ _,.most _ _=>True
 | .aL p _,.aL I _=>I=p
 | .up n _,.up B (some _)=>B=n
 | _,_=>False
theorem uT{a b:Int}(h:a<b)(us:List Int):us.countP (λx=>decide (x<a))+us.count a<=us.countP λx=>decide (x<b)
:=by
 induction us with
 | nil=>exact ZF _
 | cons u us M=>
  rw[countP_cons,countP_cons,count_cons];by_cases I:u<a
  ·rw[ZL (ZG I),ZL (ZG (show u<b by lia)),ZJ (by rw[beq_iff_eq];lia)];lia
  ·rw[ZJ (by rw[WV];exact I)];by_cases B:u=a
   ·rw[ZL (beq_iff_eq.mpr B),ZL (ZG (show u<b by lia))];lia
   ·rw[ZJ (by rw[beq_iff_eq];exact B)];lia
def EE{L:Nat}{low:Int}{ws ms:List Int}{q q':Qs}(hw:bz low L ws)(hd:pU L (bD low ws) p)(hm:∀ x,x∈ms↔x∈ws)(hs:ms.Pairwise (·<·))(W:ws.Pairwise (· <= ·))(hq:q.is ws ms)(M:q.uz q')(N:q.ne q'=true):q'.sh ws.length (bq L low p)=false:=by
 have S:=Qs.rp hs hm W hq;have hch:=Ge (low:=low) (eX hd);cases e:q'.sh ws.length (bq L low p) with
 | false=>rfl
 | true=>
  exfalso;cases q with
  | below n a=>
   cases q' with
   | below n' a'=>cases(show n'=n from M);have B:(!decide (a'=a))=true:=N;obtain⟨e1,e2⟩:=r0 (show gQ _ n a'=true from e);have e3:=Ws hw hd e1;have h1:a=((ws.filter λx=>decide (x<n)).length:Int):=S;rw[ZG (show a'=a by lia)]at B;cases B
   | _=>exact M.elim
  | least k wo=>
   cases q' with
   | least k' I=>
    cases(show k'=k from M);have B:(!decide (I=wo))=true:=N;have Y:Ti k I (bq L low p)=true:=e;unfold Ti at Y;cases Z:cY I (bq L low p) with
    | none=>rw[Z]at Y;cases Y
    | some x=>
     rw[Z]at Y;obtain⟨c,hc,c1,c2,c3⟩:=iO Z;have pc:=(u_ hw hd c hc).1;rw[c1,c2,IB,c3]at pc;have e2:(decide (bA I (bq L low p)<=(k:Int))&&decide ((k:Int)<bA I (bq L low p)+x))=true:=Y;rw[Ws hw hd (dZ hch Z).1,HM,WZ,WV,WV]at e2;obtain⟨h1,h2⟩:(ws.filter λx=>decide (x<wo)).length<=k/\k<(ws.filter λx=>decide (x<wo)).length+ws.count wo:=S;rw[HM]at h1 h2;have h3:I=wo:=by
      rcases Int.lt_trichotomy I wo with z | z | z
      ·have:=uT z ws;lia
      ·exact z
      ·have:=uT z ws;lia
     rw[ZG h3]at B;cases B
   | _=>exact M.elim
  | most wo m=>
   cases q' with
   | most I m'=>
    have B:(!decide ((I,m')=(wo,m)))=true:=N;obtain⟨p1,p2,p3⟩:=mx hw hd (show cU I m' _=true from e);obtain⟨h1,h2,h3,h4⟩:0<m/\m=(ws.count wo:Int)/\(∀ x,(ws.count x:Int)<=m) /\ ∀ x,x<wo->(ws.count x:Int)<m:=S;have a1:=p3 wo (List.count_pos_iff.mp {});have a2:=h3 I;have em:m'=m:={}
    have ew:I=wo:=by
     rcases Int.lt_trichotomy I wo with z | z | z
     ·have:=h4 I z;lia
     ·exact z
     ·have:=a1.2 z;lia
    rw[em,ew,ZG J]at B;cases B
   | _=>exact M.elim
  | aL part ps=>
   cases q' with
   | aL O U=>cases(show O=part from M);have B:(!decide (U=ps))=true:=N;have h1:=aa1 hw hd hm hs hq.1 {} (show sT (bZ part ws.length _) U=true from e);rw[ZG (h1.trans hq.2.2.symm)]at B;cases B
   | _=>exact M.elim
  | up n o=>
   cases q' with
   | up n' o'=>
    cases o' with
    | none=>cases o <;> exact M.elim
    | some r'=>
     have en:n'=n:=by cases o <;> exact M
     cases en;have h1:=oC hw hd hm hs (show Ct n _ (some r')=true from e);have h2:o=(bj ws ms).find? λq=>decide (n<q.1):=hq;rw[List.head?_filter,<- h2]at h1;rw[h1]at N;have B:(!decide (r'=r'))=true:=N;rw[ZG J]at B;cases B
   | _=>cases o <;> exact M.elim
noncomputable def Qs.tv:Qs->Vl
 | .below _ a=>.n a
 | .least _ wo=>.n wo
 | .most wo m=>.c (wo,m)
 | .aL _ ps=>.l ps
 | .up _ o=>.x o
noncomputable abbrev Qs.as(q:Qs):List Vl:=q.nm.map Vl.n
noncomputable def Qs.ks:Qs->List Str
 | .below _ _=>["number"]
 | .least _ _=>["count"]
 | .most _ _=>[]
 | .aL _ _=>["part"]
 | .up _ _=>["number"]
noncomputable def Qs.tk:Qs->Str
 | .below _ _ => "count"
 | .least _ _ => "number"
 | .most _ _ => "counted"
 | .aL _ _ => "list"
 | .up _ _ => "next"
abbrev tY:Str := "gathering"
abbrev Wz:Str := "number"
abbrev Zi:Str := "count"
abbrev Zg:Str := "part"
abbrev Zh:Str := "paper"
theorem Qs.fm:∀ q:Qs,(q.wd,tY::q.ks)∈f9/\(q.wd,q.tk)∈told
 | .below _ _=>by simp only[Qs.wd,Qs.ks,Qs.tk];decide +kernel
 | .least _ _=>by simp only[Qs.wd,Qs.ks,Qs.tk];decide +kernel
 | .most _ _=>by simp only[Qs.wd,Qs.ks,Qs.tk];decide +kernel
 | .aL _ _=>by simp only[Qs.wd,Qs.ks,Qs.tk];decide +kernel
 | .up _ _=>by simp only[Qs.wd,Qs.ks,Qs.tk];decide +kernel
def Qs.j9:Qs->Prop
 | .below n _=>-(10^50)<n/\n<10^50
 | .least k _=>(k:Int)<10^50
 | .most _ _=>True
 | .aL part _=>1<=part/\part<10^50
 | .up n _=>-(10^50)<n/\n<10^50
theorem Qs.kl:∀ q:Qs,q.ks.length=q.as.length
 | .below _ _=>rfl
 | .least _ _=>rfl
 | .most _ _=>rfl
 | .aL _ _=>rfl
 | .up _ _=>rfl
theorem Qs.al:∀ q:Qs,q.as.length<=1
 | .below _ _=>ZF 1
 | .least _ _=>ZF 1
 | .most _ _=>ZX 1
 | .aL _ _=>ZF 1
 | .up _ _=>ZF 1
def Qs.K4{q:Qs}(h:q.j9):∀ p∈q.ks.zip q.as,cA p.1 p.2:=λp hp=>by
 cases q with
 | below n a=>
  obtain rfl:p=(Wz,.n n):=by simpa [Qs.ks,Qs.as,Qs.nm] using hp
  exact⟨h,.inr (.inl J)⟩
 | least k wo=>
  obtain rfl:p=(Zi,.n (k:Int)):=by simpa [Qs.ks,Qs.as,Qs.nm] using hp
  have h':(k:Int)<10^50:=h;exact⟨⟨{},h'⟩,.inl ⟨J,{}⟩⟩
 | most wo m=>cases hp
 | aL part ps=>
  obtain rfl:p=(Zg,.n part):=by simpa [Qs.ks,Qs.as,Qs.nm] using hp
  have h':1<=part/\part<10^50:=h;exact⟨⟨{},h'.2⟩,.inr (.inr ⟨J,h'.1⟩)⟩
 | up n o=>
  obtain rfl:p=(Wz,.n n):=by simpa [Qs.ks,Qs.as,Qs.nm] using hp
  exact⟨h,.inr (.inl J)⟩
def Mr{lead nm:Str}{xs:List Vl}(h1:lead.length<=20000)(h2:nm.length<=20000)(O:∀ x∈xs,x.wd.length<=20000)(S:xs.length<=10):(dC lead nm xs).length<=300000:=by
 have:=nj (c:=32) (B:=20000) (fw lead++nm::xs.map Vl.wd) λp hp=>by
  rcases eC hp with hp | hp
  ·unfold fw at hp;split at hp
   ·cases hp
   ·rw[eD hp];exact h1
  ·rcases ad hp with rfl | hp
   ·exact h2
   ·obtain⟨x,I,rfl⟩:=eE hp;exact O x I
 have M:(fw lead++nm::xs.map Vl.wd).length<=12:=by
  have:(fw lead).length<=1:=by unfold fw;split <;> simp
  rw[ZM,WB,ZK];lia
 have N:=Nat.mul_le_mul M (ZF (20000+1));exact ZT this (ZT N ∅)
theorem kK:∀ q:Qs,q.wd.length<=20000
 | .below _ _=>by simp only[Qs.wd];decide +kernel
 | .least _ _=>by simp only[Qs.wd];decide +kernel
 | .most _ _=>by simp only[Qs.wd];decide +kernel
 | .aL _ _=>by simp only[Qs.wd];decide +kernel
 | .up _ _=>by simp only[Qs.wd];decide +kernel
def Mq{ks:List Str}(B:∀ p∈ks.zip xs,cA p.1 p.2)(i:Nat)(k:Str)(x:Vl)(h1:ks[i]? = some k)(h2:xs[i]? = some x):cA k x:=
 B (k,x) (ZV (i:=i) (by rw[getElem?_zip_eq_some];exact⟨h1,h2⟩))
def uS{ks:List Str}{xs:List Vl}(M:ks.length=xs.length)(I:∀ p∈ks.zip xs,cA p.1 p.2):∀ x∈xs,∃ k,cA k x:=λx B=>by
 obtain⟨i,hi,e⟩:=getElem_of_mem B;exact⟨ks[i]'{},Mq I i _ x (ZP {}) (by rw[<- e];exact ZP hi)⟩
def Mp{q:Qs}(h:q.j9)(S:cA tY (.g ps)):oq "paper" q.wd (tY::q.ks) (.g ps::q.as):=by
 have B:=q.kl;have U:=q.al;have I:∀ p∈(tY::q.ks).zip (.g ps::q.as),cA p.1 p.2:=λp hp=>by
  rw[zip_cons_cons]at hp;rcases ad hp with rfl | hp
  ·exact S
  ·exact Qs.K4 h p hp
 have M:(tY::q.ks).length=(Vl.g ps::q.as).length:=by rw[WB,WB,B]
 refine⟨M,by rw[WB];lia,.inr ⟨_,_,q.fm.1,q.fm.2,.inl ⟨J,J⟩⟩,Mq I,Mr ⟨⟩ (kK q) (λx N=>?_) (by rw[WB];lia)⟩;obtain⟨k,O⟩:=uS M I x N;exact Q0 O
def Mo{q:Qs}(h:q.j9)(W:cA tY (.g ps))(S:cA q.tk q.tv)(hp:cA "paper" (.pp p)):oq "shows" q.wd ((tY::q.ks)++[q.tk, "paper"]) (.g ps::(q.as++[q.tv,.pp p])):=by
 have B:=q.kl;have Y:=q.al;have M:∀ r∈((tY::q.ks)++[q.tk, "paper"]).zip (.g ps::(q.as++[q.tv,.pp p])),cA r.1 r.2:=λr hr=>by
  rw[List.cons_append,zip_cons_cons]at hr;rcases ad hr with rfl | hr
  ·exact W
  ·rw[List.zip_append B]at hr;rcases eC hr with hr | hr
   ·exact Qs.K4 h r hr
   ·rcases(by simpa using hr:r=(q.tk,q.tv)\/r=(Zh,.pp p))with rfl | rfl
    ·exact S
    ·exact hp
 have N:((tY::q.ks)++[q.tk, "paper"]).length=(Vl.g ps::(q.as++[q.tv,.pp p])).length:=by rw[ZM,WB,WB (a:=Vl.g ps),ZM,B];show q.as.length+1+2=q.as.length+2+1;lia
 have I:(Vl.g ps::(q.as++[q.tv,.pp p])).length<=10:=by rw[WB,ZM];show q.as.length+2+1<=10;lia
 refine⟨N,{},.inr ⟨_,_,q.fm.1,q.fm.2,.inr ⟨J,J⟩⟩,Mq M,Mr ⟨⟩ (kK q) (λx O=>?_) I⟩;obtain⟨k,U⟩:=uS N M x O;exact Q0 U
def CA{L:Nat}(h:L<=40):(2:Int)^L<=2^40:=by
 have:(2:Nat)^L<=2^40:=Nat.pow_le_pow_right ∅ h
 exact_mod_cast this
def uM{low:Int}{L:Nat}{r:List Int}(hw:bz low L r)(O:r.length<=200)(hL:L<=40)(Y:-(10^45)<low)(h1:low<10^45):oq "" "row" (List.replicate (r.map Vl.n).length "number") (r.map Vl.n):=by
 have hp:=CA hL;have U:∀ n∈r,-(10^50)<n/\n<10^50:=λn M=>by have:=hw n M;lia
 exists length_replicate,by rw[ZK];exact O,.inl ⟨J,J,J⟩,λi k x N I=>?_
 ·rw[getElem?_replicate]at N;split at N
  ·have S:=(am N).symm;rw[WE]at I;cases e:r[i]? with
   | none=>rw[e]at I;cases I
   | some n=>rw[e]at I;cases I;exact⟨U n (ZV e),.inr (.inl S)⟩
  ·cases N
 ·have:=nj (c:=32) (B:=51) (fw "" ++ ("row" : Str)::(r.map Vl.n).map Vl.wd) λp hp=>by
   rcases eC hp with hp | hp
   ·cases hp
   ·rcases ad hp with rfl | hp
    ·decide +kernel
    ·obtain⟨x,I,rfl⟩:=eE hp;obtain⟨n,M,rfl⟩:=eE I;exact IK (U n M).1 (U n M).2
  have O:(fw "" ++ ("row" : Str)::(r.map Vl.n).map Vl.wd).length<=201:=by show((r.map Vl.n).map Vl.wd).length+1<=201;rw[ZK,ZK];lia
  have W:=Nat.mul_le_mul O (ZF (51+1));exact ZT this (ZT W ∅)
theorem qi:∀ p:Pp,p.aS<=nodes p
 | .all _=>ZF _
 | .split _ l r=>by
  have:=qi l;have:=qi r;show l.aS+r.aS<=1+nodes l+nodes r;lia
def Mn{p:Pp}(h:cA "paper" (.pp p)):p.aS<=20000:=ZT (qi p) (ZT (EH h.2.1) h.2.2.2)
structure fI(C M:Addr)(H:Hp)(d x ka b:Addr)(low:Int)(L:Nat)(rs cs:LL):Prop where
 o:∃ dd,H d=some (.ins C dd [("bounds", .ref b),("makes", .ref x)])
 m:dc M H x ka b low L rs cs
 lo:-(10^45)<low
 hi:low<10^45
def fI.keep{low:Int}{L:Nat}(D:fI C M H d x ka b low L rs cs)(k:aq p H H')(e:H p=some (.lst ys))(n:ka≠p):fI C M H' d x ka b low L rs cs:=by obtain⟨dd,hd⟩:=D.o;exact⟨⟨dd,k _ _ (bc hd e (by intro z;cases z)) hd⟩,D.m.keep k e n,D.lo,D.hi⟩
def fI.same{low:Int}{L:Nat}(D:fI C M H d x ka b low L rs cs)(s:ag H H'):fI C M H' d x ka b low L rs cs:=by obtain⟨dd,hd⟩:=D.o;exact⟨⟨dd,s _ _ hd⟩,D.m.same s,D.lo,D.hi⟩
def dc.kp{low:Int}{L:Nat}(M:dc C H x ka b low L rs cs)(k:ed H H'):dc C H' x ka b low L rs cs:=by obtain⟨dx,I⟩:=M.o;obtain⟨es,h1,h2,O⟩:=M.hk;have tk:=k.tk;refine⟨⟨dx,k _ _ (by intro _ z;cases z) I⟩,k.t M.hb,M.hL,M.len,M.eS,⟨es,k.l h1,h2,λj r c hr N=>?_⟩,M.ok⟩;obtain⟨B,a,v,Y,W,U,S⟩:=O j r c hr N;exact⟨B,a,v,Y,k.t W,U.tk tk,k.t S⟩
def fI.kp{low:Int}{L:Nat}(D:fI C M H d x ka b low L rs cs)(k:ed H H'):fI C M H' d x ka b low L rs cs:=by obtain⟨dd,hd⟩:=D.o;exact⟨⟨dd,k _ _ (by intro _ z;cases z) hd⟩,D.m.kp k,D.lo,D.hi⟩
def fI.made{low:Int}{L:Nat}(D:fI C M H d x ka b low L rs cs)(k:aq ka H H')(m:dc M H' x ka b low L (rs++[r]) (cs++[c])):fI C M H' d x ka b low L (rs++[r]) (cs++[c]):=by obtain⟨dd,hd⟩:=D.o;obtain⟨es,h1,_⟩:=D.m.hk;exact⟨⟨dd,k _ _ (bc hd h1 (by intro z;cases z)) hd⟩,m,D.lo,D.hi⟩
def sY(B:LL)(p:P3):Prop:=∃ r,aP (B[p.1]? = some r) (p.2.1<=p.2.2) (p.2.2<=r.length)
noncomputable def jk(low:Int)(B:LL)(p:P3):G3:=(bD low (B.getD p.1 []),p.2.1,p.2.2)
noncomputable abbrev cI(low:Int)(B:LL)(ps:List P3):List Int:=Wh (ps.map (jk low B))
structure lR(low:Int)(rs:LL)(ps:List P3):Prop where
 ne:ps≠[]
 ln:ps.length<=8
 st:∀ p∈ps,sY rs p
 mn:(cI low rs ps).length<=900
def ED{low:Int}{L:Nat}(h:sY rs p)(M:∀ r∈rs,bz low L r/\r.length<=200):aK L (jk low rs p):=by
 obtain⟨r,g,h1,h2⟩:=h;have e:rs.getD p.1 []=r:=by rw[WS,g];rfl
 obtain⟨hw,N⟩:=M r (ZV g);unfold jk;rw[e];refine⟨λo B=>?_,h1,by show _<=(bD low r).length;rw[ZK];exact h2,by show(bD low r).length<=_;rw[ZK];lia⟩;obtain⟨n,I,rfl⟩:=eE B;have:=hw n I;lia
def x4{B:LL}(h:sY B p)(M:B.length<=100)(I:∀ r∈B,r.length<=200):uc p:=by obtain⟨r,g,h1,h2⟩:=h;have:=I r (ZV g);have:=(ac g).1;exact⟨{},{},{}⟩
def eM(h:cM K H xs (y::ys)):aO λx B=>aP (xs=x::B) (ic K H x y) (cM K H B ys):= by
 cases xs with
 | nil=>exact absurd h.1 (by simp)
 | cons x xs=>exact⟨x,xs,J,h.2 0 x y J J,by have:=h.1;rw[WB,WB]at this;lia,λj a b h1 h2=>h.2 (j+1) a b h1 h2⟩
def nE(h:cM K H xs []):xs=[]:=eq_nil_of_length_eq_zero h.1
theorem An:∀{ns:List Int}{xs:List V},cM K H xs (ns.map Vl.n)->xs=ns.map V.int
 | [],xs,h=>eq_nil_of_length_eq_zero h.1
 | n::ns,xs,h=>by
  obtain⟨x,B,rfl,h1,h2⟩:=eM h;rw[show x = .int n from h1,An h2];rfl
abbrev ud(b:Bool):Str:=if b=true then "yes" else "no"
inductive Bh(K:Fg)(vs:List V)(H:Hp)(Q:VK)(E:XK):Prop
 |mk(b ga va:Addr)(xs:List V)(low:Int)(L:Nat)(gs:List G3)(wd:Str)(ns:List Int)(ψ:List Int->Bool)(_:vs=[.ref b,.ref ga,.str wd,.ref va])(_:ao K H va (ns.map V.int))(_:jg K H b ga xs low L gs)(_:fD low L (Wh gs) wd ns ψ)(_:iD low L gs ψ H Q)
inductive RU(K:Fg)(vs:List V)(H:Hp)(Q:VK)(E:XK):Prop
 |mk(b ga va:Addr)(xs ys:List V)(low:Int)(L:Nat)(gs:List G3)(q:Qs)(p:Pp)(_:vs=[.ref b,.ref ga,.str q.wd,.ref va])(_:H va=some (.lst ys))(_:cM K H ys (q.as++[q.tv,.pp p]))(_:au K H b [.int low,.int (L:Int)])(_:L<=40)(_:H ga=some (.lst xs))(_:aE H L xs gs)(_:(∀ g∈gs,aK L g))(_:gs.length<=100)(_:(Wh gs).length<=900)(_:p.aS<=90000)(_:∀ H',ag H H'->Q (.bl (aH L (Wh gs) p&&q.sh p.m (bq L low p))) H')
inductive PM(K:Fg)(vs:List V)(H:Hp)(Q:VK)(_E:XK):Prop
 | pp (b ga va:Addr) (xs:List V) (low:Int) (L:Nat) (gs:List G3) (wd:Str) (ns:List Int) (ψ:List Int->Bool) (_:vs=[.ref b,.ref ga,.str "paper", .str wd,.ref va]) (_:ao K H va (ns.map V.int)) (_:jg K H b ga xs low L gs) (_:fD low L (Wh gs) wd ns ψ) (_:ou (bH (f3 ψ) L low (Wh gs))) (_:dep (bH (f3 ψ) L low (Wh gs))<=100) (_:(aB (bH (f3 ψ) L low (Wh gs))).length<=90000)
  (_:∀ H',ed H H'->fh H'->Q (.str (bI (aB (bH (f3 ψ) L low (Wh gs))))) H')
 | sh (b ga va:Addr) (xs ys:List V) (low:Int) (L:Nat) (gs:List G3) (q:Qs) (p:Pp) (_:vs=[.ref b,.ref ga,.str "shows", .str q.wd,.ref va]) (_:H va=some (.lst ys)) (_:cM K H ys (q.as++[q.tv,.pp p])) (_:au K H b [.int low,.int (L:Int)]) (_:L<=40) (_:H ga=some (.lst xs)) (_:aE H L xs gs) (_:∀ g∈gs,aK L g) (_:gs.length<=100) (_:(Wh gs).length<=900) (_:p.aS<=90000)
  (_:∀ H',ag H H'->Q (.str (ud (aH L (Wh gs) p&&q.sh p.m (bq L low p)))) H')
inductive PL(u0:Fg)(C:Addr)(M:Addr)(vs:List V)(H:Hp)(Q:VK)(E:XK):Prop
 |mk(d b dd:Addr)(low:Int)(L:Nat)(_:vs=[.ref d,.ref b])(_:H d=some (.ins C dd []))(_:H b=some (.tup [.int low,.int (L:Int)]))(_:L<=40)(_:-(10^45)<low)(_:low<10^45)(_:∀(x ka:Addr)(H':Hp),H ka=none->aq d H H'->fI C M H' d x ka b low L [[]] [[]]->Q .bf H')
inductive pV(u0:Fg)(C:Addr)(M:Addr)(vs:List V)(H:Hp)(Q:VK)(E:XK):Prop
 |mk(d x ka b v:Addr)(low:Int)(L:Nat)(rs cs:LL)(r:List Int)(_:vs=[.ref d,.str "row", .ref v]) (_:H v=some (.lst (r.map V.int))) (_:fI C M H d x ka b low L rs cs) (_:rs.length<=99) (_:bz low L r) (_:r.length<=200) (_:∀ H',aq ka H H'->fI C M H' d x ka b low L (rs++[r]) (cs++[[]])->Q (.int (rs.length:Int)) H')
inductive mX(K:Fg)(C:Addr)(M:Addr)(vs:List V)(H:Hp)(Q:VK)(E:XK):Prop
 |mk(d x ka b:Addr)(v:V)(low:Int)(L:Nat)(rs cs:LL)(p:P3)(_:vs=[.ref d,v])(_:fI C M H d x ka b low L rs cs)(_:j4 K H v p)(_:sY rs p)(_:∀ v' H',ag H H'->c6 H' L v' (jk low rs p)->Q v' H')
inductive VV(M C:Addr)(H:Hp)(d x ka b:Addr)(low:Int)(L:Nat)(rs cs:LL)(y:Str)(Q:VK):Prop
 | row (r:List Int) (_:y=dC "" "row" (r.map Vl.n)) (_:rs.length<=99) (_:bz low L r) (_:r.length<=200) (_:∀ H',aq ka H H'->fI C M H' d x ka b low L (rs++[r]) (cs++[[]])->Q (.str (tx (rs.length:Int))) H')
 | pp (q:Qs) (ps:List P3) (ψ:List Int->Bool) (_:y=dC "paper" q.wd (.g ps::q.as)) (_:lR low rs ps) (_:q.j9) (_:fh H) (_:fD low L (cI low rs ps) q.wd q.nm ψ) (_:ou (bH (f3 ψ) L low (cI low rs ps))) (_:dep (bH (f3 ψ) L low (cI low rs ps))<=100) (_:(aB (bH (f3 ψ) L low (cI low rs ps))).length<=90000)
  (_:∀ H',ed H H'->fh H'->Q (.str (bI (aB (bH (f3 ψ) L low (cI low rs ps))))) H')
 | sh (q:Qs) (ps:List P3) (p:Pp) (_:y=dC "shows" q.wd (.g ps::(q.as++[q.tv,.pp p]))) (_:lR low rs ps) (_:q.j9) (_:cA q.tk q.tv) (_:cA "paper" (.pp p))
  (_:∀ H',ag H H'->Q (.str (ud (aH L (cI low rs ps) p&&q.sh p.m (bq L low p)))) H')
inductive Qy(u0:Fg)(C:Addr)(M:Addr)(vs:List V)(H:Hp)(Q:VK)(E:XK):Prop
 |mk(d x ka b:Addr)(low:Int)(L:Nat)(rs cs:LL)(y:Str)(_:vs=[.ref d,.str y])(_:fI C M H d x ka b low L rs cs)(_:VV M C H d x ka b low L rs cs y Q)
def vA:z.C P w 48 "told_paper_of" yh (Bh K):=by
 have sc:=Sk;specialize z.fy;obtain⟨b,I,U,xs,low,L,gs,wd,ns,ψ,rfl,B,g,M,q⟩:=h;refine⟨_,(aj (aW (aN av bv aR)
 (az (aC (S4 z) hr (bW kb kv (aG cS bi ah)))))
 (aj (aW (aN av bv aR)
 (az (aC (Ip z) hr (bW kb kv (aG cS bi ah)))))
 (aj (aW (aN av bv aR)
 (az (aC (vD z) hr (aY kb kv))))
 (aj (aW (aN av bv aR)
 (az (aC (S5 z) hr (bW kb kv (aG cS bi ah)))))
 (az (aC (G_ z) hr (bW kb kv (aG cS bi ah)))))))),?_⟩
 symm;exists J;cases M with
 | least k N=>exact d_ (fe J) ⟨_,_,B,dm (j:=0) J,b,I,xs,low,k,L,gs,J,g,N,q⟩
 | below n=>refine dS (de ⟨⟩) ⟨J,?_⟩;exact d_ (fe J) ⟨_,_,B,dm (j:=0) J,b,I,xs,low,n,L,gs,J,g,q⟩
 | most wo m O=>
  iterate 2
   refine dS (de ⟨⟩) ⟨J,?_⟩
  exact d_ (fe J) ⟨b,I,xs,low,wo,m,L,gs,J,g,O,q⟩
 | aL n S h1=>
  iterate 3
   refine dS (de ⟨⟩) ⟨J,?_⟩
  exact d_ (fe J) ⟨_,_,B,dm (j:=0) J,b,I,xs,low,n,L,gs,J,g,S,h1,q⟩
 | up n=>
  iterate 3
   refine dS (de ⟨⟩) ⟨J,?_⟩
  exact dS (de ⟨⟩) ⟨_,_,B,dm (j:=0) J,b,I,xs,low,n,L,gs,J,g,q⟩
def zZ:z.C P w 48 "is_shown" yh (RU K):=by
 have sc:=Pk;specialize z.lH;obtain⟨b,ga,va,xs,ys,low,L,gs,qs,p,rfl,M,W,hb,hL,eG,hg,Z,Y,h9,md,q⟩:=h;refine⟨_,(aj (aF 4 sc.nd (aG cS bi (lZ Fi ah)))
 (aj (aF 5 sc.nd (aG cS bi (lZ Fi ah)))
 (aj (aW (aN av bv aR)
 (az (aC (Rk z) hr (dA kb (dI kv (pr 5) (aG cS bi ah) (pr 4))))))
 (aj (aW (aN av bv aR)
 (az (aC (Rl z) hr (dA kb (dI kv (pr 5) (aG cS bi ah) (pr 4))))))
 (aj (aW (aN av bv aR)
 (az (aC (Ax z) hr (dA kb (dI kv (pr 5) (aG bh (pr 4) ah) (aG bh (pr 4) ah))))))
 (aj (aW (aN av bv aR)
 (az (aC (Rj z) hr (dA kb (dI kv (pr 5) (aG cS bi ah) (pr 4))))))
 (az (aC (O7 z) hr (dA kb (dI kv (pr 5) (aG cS bi ah) (pr 4))))))))))),?_⟩
 symm;cases qs with
 | least k wo=>
  obtain⟨x0,y1,rfl,S,U⟩:=eM W;obtain⟨x1,y2,rfl,I,O⟩:=eM U;obtain⟨x2,y3,rfl,B,N⟩:=eM O;obtain rfl:=nE N;cases(show x0 = .int k from S);cases(show x1 = .int wo from I)
  iterate 2 refine⟨_,J,_,_,ao.of M,J,?_⟩
  exists J;exact d_ (fe (show(Qs.least k wo).wd = "least" from J)) ⟨_,_,ao.of M,dm (j:=0) J,b,ga,x2,p,low,k,wo,L,xs,gs,J,hb,hL,eG,hg,Z,Y,B,{},q⟩
 | below n a=>
  obtain⟨x0,y1,rfl,S,U⟩:=eM W;obtain⟨x1,y2,rfl,I,O⟩:=eM U;obtain⟨x2,y3,rfl,B,N⟩:=eM O;obtain rfl:=nE N;cases(show x0 = .int n from S);cases(show x1 = .int a from I)
  iterate 2 refine⟨_,J,_,_,ao.of M,J,?_⟩
  exists J;rw[de (show(Qs.below n a).wd ≠ "least" by simp only[Qs.wd];decide +kernel)];refine aU ⟨J,?_⟩;exact d_ (fe (show(Qs.below n a).wd = "below" from J)) ⟨_,_,ao.of M,dm (j:=0) J,b,ga,x2,p,low,n,a,L,xs,gs,J,hb,hL,eG,hg,Z,Y,B,{},q⟩
 | most wo m=>
  obtain⟨x1,y2,rfl,I,O⟩:=eM W;obtain⟨x2,y3,rfl,B,N⟩:=eM O;obtain rfl:=nE N;obtain⟨a0,rfl,J4⟩:j5 H x1 (wo,m):=I
  iterate 2 refine⟨_,J,_,_,ao.of M,J,?_⟩
  exists J;rw[de (show(Qs.most wo m).wd ≠ "least" by simp only[Qs.wd];decide +kernel)];refine aU ⟨J,?_⟩;rw[de (show(Qs.most wo m).wd ≠ "below" by simp only[Qs.wd];decide +kernel)];refine aU ⟨J,?_⟩;exact d_ (fe (show(Qs.most wo m).wd = "most" from J)) ⟨_,_,au.of J4,J,_,_,au.of J4,J,b,ga,x2,p,low,wo,m,L,xs,gs,J,hb,hL,eG,hg,Z,Y,B,{},q⟩
 | aL part ps=>
  obtain⟨x0,y1,rfl,S,U⟩:=eM W;obtain⟨x1,y2,rfl,I,O⟩:=eM U;obtain⟨x2,y3,rfl,B,N⟩:=eM O;obtain rfl:=nE N;cases(show x0 = .int part from S);obtain⟨D,ts,rfl,hD,CL⟩:=I
  iterate 2 refine⟨_,J,_,_,ao.of M,J,?_⟩
  exists J;rw[de (show(Qs.aL part ps).wd ≠ "least" by simp only[Qs.wd];decide +kernel)];refine aU ⟨J,?_⟩;rw[de (show(Qs.aL part ps).wd ≠ "below" by simp only[Qs.wd];decide +kernel)];refine aU ⟨J,?_⟩;rw[de (show(Qs.aL part ps).wd ≠ "most" by simp only[Qs.wd];decide +kernel)];refine aU ⟨J,?_⟩;exact d_ (fe (show(Qs.aL part ps).wd = "often" from J)) ⟨_,_,ao.of M,dm (j:=0) J,b,ga,D,x2,p,low,part,ts,ps,L,xs,gs,J,hD,CL,hb,hL,eG,hg,Z,Y,B,md,λhd c hc=>by have:=Ao hd c hc;lia,q⟩
 | up n o=>
  obtain⟨x0,y1,rfl,S,U⟩:=eM W;obtain⟨x1,y2,rfl,I,O⟩:=eM U;obtain⟨x2,y3,rfl,B,N⟩:=eM O;obtain rfl:=nE N;cases(show x0 = .int n from S)
  iterate 2 refine⟨_,J,_,_,ao.of M,J,?_⟩
  exists J;rw[de (show(Qs.up n o).wd ≠ "least" by simp only[Qs.wd];decide +kernel)];refine aU ⟨J,?_⟩;rw[de (show(Qs.up n o).wd ≠ "below" by simp only[Qs.wd];decide +kernel)];refine aU ⟨J,?_⟩;rw[de (show(Qs.up n o).wd ≠ "most" by simp only[Qs.wd];decide +kernel)];refine aU ⟨J,?_⟩;rw[de (show(Qs.up n o).wd ≠ "often" by simp only[Qs.wd];decide +kernel)];exact aU ⟨_,_,ao.of M,dm (j:=0) J,b,ga,x2,x1,p,low,n,o,L,xs,gs,J,I,hb,hL,eG,hg,Z,Y,B,{},q⟩
def Mm:z.C P w 103 "answer" wg (PM K):=by
 have sc:=ML;refine z.so.jd λf fd F=>F.ok sc (λvs H Q E h=>?_) (λ_ _ _ s H _ Q _ hr h=>?_)
 ·cases h <;> (subst_vars;rfl)
 refine⟨_,(aj (aW (aN av bv aR)
 (az (aC (qe z) hr (ar (aC (vA z) hr (dI kb kv bi (pr 4)))))))
 (aj (aW (aN av bv aR)
 (az (vR (uQ (aC (zZ z) hr (dI kb kv bi (pr 4)))) aR aR)))
 (bF dF))),?_⟩
 rcases h with ⟨b,W,I,xs,low,L,gs,wd,ns,ψ,rfl,B,g,Z,ho,hd,hl,q⟩ | ⟨b,W,I,xs,ys,low,L,gs,qs,p,rfl,B,M,hb,hL,U,hg,S,O,h9,N,q⟩
 ·exists J;refine d_ (fe J) ⟨b,W,I,xs,low,L,gs,wd,ns,ψ,J,B,g,Z,λH' v k t hv=>?_⟩;exact⟨_,hd,v,_,J,hv,ho,ZF _,hl,q H' k t⟩
 ·exists J;refine dS (de ⟨⟩) ⟨J,?_⟩;refine d_ (fe J) ⟨b,W,I,xs,ys,low,L,gs,qs,p,J,B,M,hb,hL,U,hg,S,O,h9,N,λH' s'=>?_⟩;have z:=q H' s';cases Y:(aH L (Wh gs) p&&qs.sh p.m (bq L low p)) with
  | true=>rw[Y]at z;exact⟨_,J,bM z⟩
  | false=>rw[Y]at z;exact⟨_,J,aU z⟩
noncomputable abbrev DB:List V:=[.str "least", .str "below", .str "between", .str "up", .str "down", .str "most", .str "often"]
def dc.Jm{low:Int}{L:Nat}(M:dc C H x ka b low L rs cs)(k:aq p H H')(e:H p=some (.ins C' dp fs))(n:x≠p):dc C H' x ka b low L rs cs:=by
 obtain⟨dx,I⟩:=M.o;obtain⟨es,h1,h2,O⟩:=M.hk;have tk:aw H H':=λ_ _=>⟨λh=>k _ _ (bc h e (by intro z;cases z)) h,λ_ h=>k _ _ (bc h e (by intro z;cases z)) h⟩
 refine⟨⟨dx,k _ _ n I⟩,(tk _ _).1 M.hb,M.hL,M.len,M.eS,⟨es,k _ _ (bc h1 e (by intro z;cases z)) h1,h2,λj r c hr N=>?_⟩,M.ok⟩;obtain⟨B,a,v,Y,W,U,S⟩:=O j r c hr N;exact⟨B,a,v,Y,(tk _ _).1 W,U.tk tk,(tk _ _).1 S⟩
theorem ir:∀ q:Qs,q.wd ≠ "show" /\ q.wd ≠ "falls" /\ BX (.str q.wd) DB=true
 | .below _ _=>by simp only[Qs.wd];decide +kernel
 | .least _ _=>by simp only[Qs.wd];decide +kernel
 | .most _ _=>by simp only[Qs.wd];decide +kernel
 | .aL _ _=>by simp only[Qs.wd];decide +kernel
 | .up _ _=>by simp only[Qs.wd];decide +kernel
def cM.same(h:cM K H xs ys)(s:ag H H'):cM K H' xs ys:=by
 grind [cM,ic,ic.same]
def zv(z:Bz K mg base uA uB uC uD uE uF uG uH):xP P w K mg base 4 uH jC (PL K uH uG):=by
 have sc:=MI;specialize z.sE;obtain⟨d,b,dd,low,L,rfl,hd,hb,hL,h0,h1,q⟩:=h;refine⟨_,(aj (Ff kb kv J)
 (bF (Ff kb (yi (NQ z) hr.m () z.wN (ar kv)) J))),?_⟩
 symm;exists d,_,dd,_,J,hd,z.dr,z.dB,∅;have J3:b≠d:=bc hb hd (by intro z;cases z);have Y:aq d H (upd H d (.ins uH dd (cb "bounds" (.ref b) []))):=aq.set d H _;have e1:upd H d (.ins uH dd (cb "bounds" (.ref b) [])) d=some (.ins uH dd [("bounds", .ref b)]):=ax;generalize upd H d (.ins uH dd (cb "bounds" (.ref b) []))=H1 at *;refine λx dx Z hdx eP=>?_;have U:∀ c o,H1 c=some o->upd (upd H1 dx (.own x)) x (.ins uG dx []) c=some o:=λc o M=>by
  rw[bC (cO M Z),bC (cO M hdx)];exact M
 have ex:upd (upd H1 dx (.own x)) x (.ins uG dx []) x=some (.ins uG dx []):=ax;generalize upd (upd H1 dx (.own x)) x (.ins uG dx [])=H2 at *;refine⟨x,b,dx,low,L,J,ex,U _ _ (Y _ _ J3 hb),hL,λka W B k3 M3=>⟨J,?_⟩⟩;have I:d≠x:=cO e1 Z;have e3:=k3 _ _ I (U _ _ e1);exists d,_,dd,_,J,e3,z.dr,z.dM,by show 1<1000;decide
 have k4:aq d W (upd W d (.ins uH dd (cb "makes" (.ref x) [("bounds", .ref b)]))):=aq.set d W _;have e4:upd W d (.ins uH dd (cb "makes" (.ref x) [("bounds", .ref b)])) d=some (.ins uH dd [("bounds", .ref b),("makes", .ref x)]):=ax;generalize upd W d (.ins uH dd (cb "makes" (.ref x) [("bounds", .ref b)]))=H4 at *;have O:H ka=none:=by
  cases e:H ka with
  | none=>rfl
  | some o=>
   exfalso;by_cases N:ka=d
   ·rw[N,U _ _ e1]at B;cases B
   ·rw[U _ _ (Y _ _ N e)]at B;cases B
 have M4:=M3.Jm k4 e3 (Ne.symm I);refine q x ka H4 O ?_ ⟨⟨dd,e4⟩,M4,h0,h1⟩;intro c o M S;refine k4 _ _ M (k3 _ _ ?_ (U _ _ (Y _ _ M S)));exact cO (Y _ _ M S) Z
def zu(z:Bz K mg base uA uB uC uD uE uF uG uH):ij P w K mg base 47 uH "made" ["self", "name", "values"] (pV K uH uG):=by
 have sc:=MH;refine z.sv.jd z.dr λf fd F=>F.k sc λ_ _ _ s H _ Q _ hr h=>?_;obtain⟨d,x,ka,b,v,low,L,I,cs,r,rfl,O,D,S,hw,U,q⟩:=h;refine⟨_,(aj (aW (aN av kv aR)
 (az (Bp (O6 z) hr.m (HH kb J) (ar bv))))
 (aj dF
 (aj dF
 (aj dF
 (aj dF
 (aj dF
 (aj dF
 (bF dF)))))))),?_⟩
 symm;obtain⟨W,hd⟩:=D.o;have M:=D.m;obtain⟨B,N⟩:=M.o;exists J;refine d_ (fe J) ?_;refine⟨d,_,W,_,_,J,hd,z.dr,z.dM,J,x,B,_,J,N,J,x,ka,b,v,low,L,I,cs,_,J,M,ao.of O,hw,U,S,λH' k m=>q H' k (D.made k m)⟩
def kz(z:Bz K mg base uA uB uC uD uE uF uG uH):ij P w K mg base 4 uH "stretch_at" ["self", "spot"] (mX K uH uG):=by
 have sc:=Hc;refine z.gn.jd z.dr λf fd F=>F.k sc λ_ _ _ s H _ Q _ hr h=>?_;obtain⟨d,x,ka,b,v,low,L,O,cs,p,rfl,D,⟨a,rfl,N⟩,B,q⟩:=h;exists _,(az (Bp (Fq z) hr.m (HH kb J) (bW (aG bh kv ah) (aG bh kv ah) (aG bh kv ah))))
 symm;obtain⟨di,hd⟩:=D.o;have M:=D.m;obtain⟨U,hx⟩:=M.o;obtain⟨r,g,h1,h2⟩:=B;have e:O.getD p.1 []=r:=by rw[WS,g];rfl
 refine⟨d,_,di,_,_,J,hd,z.dr,z.dM,J,x,U,_,J,hx,J,_,_,N,J,_,_,N,J,_,_,N,J,x,ka,b,p.1,p.2.1,p.2.2,low,L,O,cs,r,J,M,g,h1,h2,λZ W H1 Y S I=>?_⟩;refine q _ H1 Y ⟨Z,W,J,I,?_⟩;unfold jk;rw[e];rw[EL]at S;exact S
def fu(z:Bz K mg base uA uB uC uD uE uF uG uH):ij P w K mg base 109 uH "say" jz (Qy K uH uG):=by
 have sc:=pA;refine z.xB.jd z.dr λf fd F=>F.k sc λ_ _ _ s H _ Q _ hr h=>?_;obtain⟨d,x,ka,b,low,L,rs,cs,y,rfl,D,q0⟩:=h;refine⟨_,(aj (aF 2 sc.nd (aC (PN z) hr (ar kv)))
 (aj (aF 3 sc.nd (aG bh bv ah))
 (aj (aF 4 sc.nd (aG bh bv ah))
 (aj (aF 5 sc.nd (aG bh bv ah))
 (aj (aW (aN av (pr 4) aR)
 (bF dF))
 (aj (aW (aN av (pr 4) aR)
 (bF dF))
 (aj (aW (A4 pS (pr 4) (vj (dA aR (dA aR (dA aR (dI aR aR aR aR))))) J)
 (aj (GR (i:=6) (cl:=[("self", s.heap.objs.size+1+0)]) (cn:=["self"]) (N:=["self"]) (fr:=[0]) (bB:=aI Pt) sc.nd J (Or.inl J) J (cw (aG cS (pr 5) ah)) (λC s₂ H₂ fp=>(Bp (kz z) hr.m kv (ar kb))) (by ac_rfl) ⟨by ac_rfl,trivial⟩ J J J eT J (by ac_rfl) (.inl J))
 (az (aC (Mm z) hr (dA (HH kb J) (dI (pr 6) bi (pr 4) (Am AW (pr 5) (yf ah) Mt)))))))
 (az (aC (SX z) hr (ar (Bp (zu z) hr.m kb (aY (pr 4) (pr 5))))))))))))),?_⟩
 symm;obtain⟨di,hd⟩:=D.o;have M:=D.m;obtain⟨xi,hx⟩:=M.o;obtain⟨kd,nm,ks,vals,rfl,S,n1,n2,q⟩:ik λ(kd nm:Str) (ks:List Str) (vals:List Vl)=>dw (y=dC kd nm vals) (oq kd nm ks vals) (nm ≠ "show") (nm ≠ "falls") (((BX (.str nm) DB=false /\ ∀(v:Addr)(ys:List V)(B:Hp),ag H B->B v=some (.lst ys)->cM K B ys vals -> ∀(R:VK)(E':XK),(∀(n:Int)(H6:Hp),-(10^60)<n->n<10^60->Q (.str (tx n)) H6->R (.int n) H6)->pV K uH uG [.ref d,.str nm,.ref v] B R E')\/(BX (.str nm) DB=true/\aO λ(ps:List P3) (rest:List Vl)=>aP (vals = .g ps::rest) (lR low rs ps) (∀(ga Y:Addr)(xs ys:List V)(B:Hp),ag H B->B Y=some (.lst ys)->cM K B ys rest->B ga=some (.lst xs)->aE B L xs (ps.map (jk low rs)) -> ∀ E':XK,PM K [.ref b,.ref ga,.str kd,.str nm,.ref Y] B Q E')))):= by
  have jK:∀ ps:List P3,lR low rs ps->(∀ g∈ps.map (jk low rs),aK L g)/\cA tY (.g ps)/\(ps.map (jk low rs)).length<=100:=λps G=>by
   have h8:=G.ln;refine⟨λg hg=>?_,⟨J,G.ne,h8,λp hp=>x4 (G.st p hp) M.eS λr hr=>(M.ok r hr).2⟩,by rw[ZK];lia⟩;obtain⟨p,hp,rfl⟩:=eE hg;exact ED (G.st p hp) M.ok
  rcases q0 with ⟨r,e,hn,hw,hl,q⟩ | ⟨qs,ps,ψ,e,G,km,tb,tw,ho,Xj,hln,q⟩ | ⟨qs,ps,p,e,G,km,ZD,yp,q⟩
  ·refine⟨_,_,_,_,e,uM hw hl M.hL D.lo D.hi,⟨⟩,⟨⟩,.inl ⟨⟨⟩,λv ys B s h1 h2 R E' z=>⟨d,x,ka,b,v,low,L,rs,cs,r,J,by rw[h1,show ys=r.map V.int from An h2],D.same s,hn,hw,hl,λH3 k3 D3=>z _ _ {} {} (q H3 ((aq.same s).trans k3) D3)⟩⟩⟩
  ·obtain⟨g1,g2,g3⟩:=jK ps G;exact⟨_,_,_,_,e,Mp km g2,(ir qs).1,(ir qs).2.1,.inr ⟨(ir qs).2.2,ps,_,J,G,λga Y xs ys B s hw hv h1 h2 E'=>.pp b ga Y xs low L _ qs.wd qs.nm ψ J (ao.of (by rw[hw,show ys=qs.nm.map V.int from An hv])) ⟨s _ _ M.hb,M.hL,h1,h2,g1,g3,G.mn,tb.same s⟩ tw ho Xj hln λH6 k6 t6=>q H6 ((ed.of s).trans k6) t6⟩⟩
  ·obtain⟨g1,g2,g3⟩:=jK ps G;have md:=Mn yp;exact⟨_,_,_,_,e,Mo km g2 ZD yp,(ir qs).1,(ir qs).2.1,.inr ⟨(ir qs).2.2,ps,_,J,G,λga Y xs ys B s hw hv h1 h2 E'=>.sh b ga Y xs ys low L _ qs p J hw hv (au.of (s _ _ M.hb)) M.hL h1 h2 g1 g3 G.mn {} λH6 s6=>q H6 (s.trans s6)⟩⟩
 refine b_ λN1 y1=>?_;refine⟨_,_,_,_,J,S,λpt v ys H1 s1 ep ev hA=>?_⟩;refine y1 _ _ (b_ λN2 y2=>⟨_,_,au.of ep,J,y2 _ _ (b_ λN3 y3=>⟨_,_,au.of ep,J,y3 _ _ (b_ λN4 y4=>⟨_,_,au.of ep,J,y4 _ _ ?_⟩)⟩)⟩);clear y1 y2 y3 y4;exists J;refine dS (de n1) ⟨J,?_⟩;refine dS (de n2) ⟨aZ J,λtq ZZ=>?_⟩;obtain⟨H2,g2,s2,e2⟩:=cH ZZ (.tup DB);rw[g2];exists tq,DB,J,.inr (au.of e2),J,J;have O:=s1.trans s2;have VJ:=s2 _ _ ev;rcases q with ⟨n3,q⟩ | ⟨n3,ps,rest,rfl,G,q⟩
 ·exact dS n3 ⟨d,di,_,J,O _ _ hd,J,q v ys H2 O VJ (hA.same s2) _ _ λn H6 h1 h2 h3=>⟨n,J,h1,h2,h3⟩⟩
 rw[n3];obtain⟨y0,V5,rfl,⟨ga,gx,rfl,eG,U⟩,VB⟩:=eM hA;refine bM (b_ λN1 y1=>?_);have h8:=G.ln;refine⟨_,_,ao.of VJ,dm (j:=0) J,ga,J,⟨_,s2.seq eG⟩,λD3 ec=>?_⟩;refine eY (K:=K) (xs:=gx) (aA (by rw[U.1];lia)) (λi ys H4=>H4 D3=some (.lst ys)/\ys.length=i/\ag H2 H4/\aE H4 L ys ((ps.take i).map (jk low rs))) ⟨ax,J,aM ec _,⟨J,λj x g h1 _=>by cases h1⟩⟩ (λi ys H4 ⟨_,_,e,_,_⟩=>e.seq (s2.seq eG)) (λi ys H4 ⟨e1,e2,_,_,_⟩=>⟨e1,e2⟩) ?_ ?_
 ·clear y1;rintro i y ys H4 hy ⟨e1,e4,s4,W⟩;have hi:i<ps.length:=by rw[<- U.1];exact(ac hy).1
  have gi:ps[i]? = some ps[i]:=ZP hi;generalize ps[i]=sp at gi;have I:=O.trans s4;refine⟨d,di,_,J,I _ _ hd,J,d,x,ka,b,y,low,L,rs,cs,sp,J,D.same I,(U.2 i y sp hy gi).same (s2.trans s4),G.st sp (ZV gi),λv' B Z Ul=>?_⟩;have e5:=Z _ _ e1;have tk:aw B (upd B D3 (.lst (ys++[v']))):=aw.set e5;exists e5,ax,by rw[ZM,e4] <;> rfl,qI (s4.trans Z) ec
  rw[WK,gi,WF];exact((W.same Z).tk tk).snoc (Ul.tk tk)
 ·rintro ys H4 ⟨e1,e4,s4,W⟩;rw[U.1,WR]at W;have I:=O.trans s4;refine y1 _ _ ?_;refine⟨d,_,di,_,_,J,I _ _ hd,z.dr,z.dB,J,_,J,v,_,J,ao.of (s4 _ _ VJ),λY JG=>?_⟩;rw[SG,List.drop_one,List.tail_cons];have Z:=aM JG (.lst V5);exact q D3 Y ys V5 _ (I.trans Z) ax (VB.same (s2.trans (s4.trans Z))) (Z _ _ e1) (W.same Z) _
def cE(H:Hp)(N:Addr)(I:LL):Prop:=∃ B:List Addr,aP (H N=some (.lst (B.map V.ref))) (B.length=I.length) (∀(j:Nat)(r:List Int),I[j]? = some r -> ∃ M,B[j]? = some M/\H M=some (.lst (r.map V.int)))
def EC{l:List Addr}(P:aJ H pen)(h:H rl=some (.lst (l.map V.ref))):rl≠pen:=by
 obtain⟨c,b,n,hp⟩:=P;refine bc h hp ?_;intro e;cases l with
 | nil=>cases e
 | cons a l=>simp at e
def DI{l:List Int}(P:aJ H pen)(h:H ra=some (.lst (l.map V.int))):ra≠pen:=by
 obtain⟨c,b,n,hp⟩:=P;refine bc h hp ?_;intro e
 match l,e with
 | [],e=>cases e
 | [_],e=>simp at e
 | a::d::l,e=>simp at e
def dc.first{low:Int}{L:Nat}{B:LL}(M:dc C H x ka b low L B cs)(h:0<B.length):aO λ(p:Addr) (es:List V)=>H ka=some (.lst (.ref p::es)):=by
 obtain⟨es,O,S,N⟩:=M.hk;have:=M.len;obtain⟨p,a,v,I,_⟩:=N 0 _ _ (ZP h) (ZP {});cases es with
 | nil=>cases I
 | cons u es=>obtain rfl:u = .ref p:=am I;exact⟨p,es,O⟩
def dc.pen{C:Addr}{H:Hp}{x ka b pen:Addr}{low:Int}{L:Nat}{B cs:LL}(M:dc C H x ka b low L B cs)(h:0<B.length)(P:aJ H pen):ka≠pen:=by
 obtain⟨p,es,e⟩:=M.first h
 obtain⟨c,b,n,hp⟩:=P;exact bc e hp (by intro z;cases z)
abbrev T3:=Nat×Nat×Nat
def Kp(H:Hp)(x:V)(t:T3):Prop:=∃ p,x = .ref p/\H p=some (.tup [.int (t.1:Int),.int (t.2.1:Int),.int (t.2.2:Int)])
def ie(H:Hp)(xs:List V)(ts:List T3):Prop:=xs.length=ts.length /\ ∀(j:Nat)(x:V)(t:T3),xs[j]? = some x->ts[j]? = some t->Kp H x t
def Kp.tk(h:Kp H x t)(k:aw H H'):Kp H' x t:=by obtain⟨p,e,h⟩:=h;exact⟨p,e,(k _ _).1 h⟩
def ie.tk(h:ie H xs ts)(k:aw H H'):ie H' xs ts:=⟨h.1,λj x t h1 h2=>(h.2 j x t h1 h2).tk k⟩
def ie.snoc(h:ie H xs ts)(N:Kp H x t):ie H (xs++[x]) (ts++[t]):=by
 refine⟨by rw[ZM,ZM,h.1] <;> rfl,λj y k h1 h2=>?_⟩;have S:=h.1;rcases iQ h1 with ⟨O,M⟩ | ⟨O,M⟩
 ·rcases iQ h2 with ⟨I,B⟩ | ⟨I,B⟩
  ·exact h.2 j y k M B
  ·lia
 ·rcases iQ h2 with ⟨I,B⟩ | ⟨I,B⟩
  ·lia
  ·rw[M,B];exact N
def lM(B:LL)(ts:List T3):Prop:=∀ t∈ts,∃ ns,aP (B[t.1]? = some ns) (t.2.1<=t.2.2) (t.2.2<=ns.length)
def cE.kp(R:cE H rl rs)(P:aJ H pen)(k:aq pen H G):cE G rl rs:=by obtain⟨B,h1,h2,N⟩:=R;refine⟨B,k _ _ (EC P h1) h1,h2,λj r g=>?_⟩;obtain⟨M,O,I⟩:=N j r g;exact⟨M,O,k _ _ (DI P I) I⟩
def yJ{ms fs:List Int}{n:Int}(hp:ms.Perm fs)(M:ms.Pairwise (· <= ·))(N:fs.length=2)(B:∀ x∈fs,0<=x/\x<n):aO λ(a b:Nat)=>aP (ms=[(a:Int),(b:Int)]) (a<=b) ((b:Int)<n):= by
 have I:ms.length=2:=by rw[hp.length_eq,N]
 obtain⟨x,y,rfl⟩:=l_2 I
 ·have S:=B x (hp.mem_iff.mp (by simp));have O:=B y (hp.mem_iff.mp (by simp));have:x<=y:=by simpa using M
  exact⟨x.toNat,y.toNat,by rw[show((x.toNat:Nat):Int)=x by lia,show((y.toNat:Nat):Int)=y by lia],{},{}⟩
inductive Hv(u0:Fg)(vs:List V)(H:Hp)(Q:VK)(E:XK):Prop
 |mk(pen rl:Addr)(lg:Int)(rs:LL)(_:vs=[.ref pen,.ref rl,.int lg])(_:aJ H pen)(_:cE H rl rs)(_:0<rs.length)(_:rs.length<=100)(_:(∀ r∈rs,r.length<=100))(_:1<=lg)(_:lg<=8)(_:∀(D:Addr)(ys:List V)(ts:List T3)(H':Hp),aq pen H H'->aJ H' pen->H' D=some (.lst ys)->H D=none->ie H' ys ts->lM rs ts->0<ts.length->(ts.length:Int)<=lg->Q (.ref D) H')
def Fo:z.C P w 3 "_law_some" v_ (Hv K):=by
 have sc:=Qe;specialize z.jZ;obtain⟨pen,rl,lg,rs,rfl,P0,R0,hn0,hn1,JQ,g0,g1,q⟩:=h;refine⟨_,(aj (aF 3 sc.nd (zX fU))
 (aj (pO bn J (jo J z.cz (ar (ae dk ah (aC (fO z) hr (aY kb bv))))) (cq 4 sc.nd)
 (aj (aF 5 sc.nd (aC (fO z) hr (aY kb (dH z.bE (ar kv)))))
 (aj (aF 6 sc.nd (ae dk (dH z.bE (ar (aG cS kv (pr 5)))) ah))
 (aj (HI (cK Qq () z.iH qb (ar (kf (cl:=[("_law_size", s.heap.objs.size+1+1),("_law_pen_here", s.heap.objs.size+1+0)]) (cn:=["_law_size", "_law_pen_here"]) (N:=["_law_pen_here", "_law_size"]) (fr:=[0,6]) (bB:=aI kP) J (jo J z.cz (ar ah)) (λC s₂ H₂ fp=>(aC (fO z) hr (aY kv bv))) (by ac_rfl) ⟨by ac_rfl,by ac_rfl,trivial⟩ J J J eT J))) (wu J (cF (cq 7 sc.nd) (cF (cq 8 sc.nd) jq))))
 (aj (gK (aW (aN av (aC (fO z) hr (aY kb ah)) ah)
 (bF (Bt (i:=7) (j:=8) J sc.nd J J ∅ J J (aY ah (ae lW (pr 6) ah)) (by ac_rfl)))))
 (bF (d6 (bG YF YM YN ke bi (ar (vj (bW (pr 5) (pr 7) (pr 8))))))))))))
 (az bi))),?_⟩
 symm;refine b_ λN_ B=>?_;refine⟨aZ J,λD hD=>?_⟩;have nD:D≠pen:=P0.fresh hD;obtain⟨H1,e1,s1,VA⟩:=cH hD (.lst []);rw[e1];have P1:=P0.same s1;refine B _ _ (b_ λN_ B=>?_);refine⟨pen,lg,J,P1,{},{},λv H2 k2 P2 v0 v1=>?_⟩;have Zk:=(aq.same s1).trans k2;refine⟨1+v,J,{},{},Ed (n:=(1+v).toNat) (λi σ G=>V3 λ(a4 a5 a6 a7 a8:Option V) (ys:List V) (ts:List T3)=>nY (σ=[some (.ref pen),some (.ref rl),some (.int lg),some (.ref D),a4,a5,a6,a7,a8]) (aq pen H G) (aJ G pen) (G D=some (.lst ys)) (ie G ys ts) (lM rs ts) (ts.length=i))
  ⟨_,_,_,_,_,[],[],J,Zk,P2,k2 _ _ nD VA,⟨J,λj x t h _=>by simp at h⟩,λt ht=>absurd ht (by simp),J⟩ ?_ ?_⟩
 ·rintro i σ G hi ⟨a4,a5,a6,a7,a8,ys,ts,rfl,kG,PG,Vs,hT,aD,xf⟩;obtain⟨zo,t9,Uv,CO⟩:=R0.kp P0 kG;have US:(zo.map V.ref).length=rs.length:=by rw[ZK];exact Uv
  refine b_ λN_ B=>?_;refine⟨rl,_,J,.inl (ao.of t9),pen,_,J,PG,by rw[US];lia,by rw[US];lia,λmv G1 k1 P1 m0 m1=>?_⟩;rw[US]at m1;obtain⟨m,rfl⟩:=Int.eq_ofNat_of_zero_le m0;have gm:rs[m]? = some (rs[m]'{}):=ZP _;generalize rs[m]'{}=r at gm;have Xf:=JQ r (ZV gm);obtain⟨ra,gra,CN⟩:=CO m r gm;have Uu:=k1 _ _ (EC PG t9) t9;have Uw:=k1 _ _ (DI PG CN) CN;refine B _ _ (b_ λN_ B=>?_);exists _,_,ao.of Uu,dm (by rw[WE,gra];rfl),ra,_,J,.inl (ao.of Uw);rw[ZK];have WD:=kG.trans k1;have W:=k1 _ _ nD Vs;refine B _ _ (b_ λN_ B=>?_);refine⟨2,J,∅,∅,λD3 I=>?_⟩;have Wv:D3≠pen:=P1.fresh I;have Ww:D≠D3:=cO W I;have U:H D3=none:=P1.free WD I;refine A5 (n:=2) (aZ J) (λj us G=>∃ fs:List Int,xR (us=fs.map V.int) (fs.length=j) ((∀ x∈fs,0<=x/\x<(r.length:Int)+1)) (G D3=some (.lst us)) (aq pen H G) (aJ G pen) (G D=some (.lst ys)) (aw G1 G))
   ⟨[],J,J,λx hx=>absurd hx (by simp),ax,WD.own U,P1.new I _,by rw[bC Ww];exact W,.same (aM I _)⟩ (λj us G ⟨fs,e1,e2,_,e3,_,_,_,_⟩=>⟨e3,by rw[e1,ZK];exact e2⟩) ?_ ?_
  ·rintro j us G4 hj ⟨fs,rfl,Ln,Vc,h3,k4,P4,kr,Y⟩;refine⟨pen,_,J,P4,{},{},λx G5 k5 P5 x0 x1=>?_⟩;have Xy:=k5 _ _ Wv h3;obtain⟨pc,rA⟩:=P4.at;refine⟨Xy,fs++[x],by rw[WF];rfl,by rw[ZM,Ln];rfl,λy hy=>?_,ax,(k4.trans k5).own U,P5.other Wv _,by rw[bC Ww];exact k5 _ _ nD kr,(Y.trans (.keep k5 rA)).trans (.set Xy)⟩;rcases eC hy with h | h
   ·exact Vc y h
   ·rw[eD h];exact⟨x0,x1⟩
  rintro us G4 ⟨fs,rfl,Ln,Vc,h3,k4,P4,kr,Y⟩;refine⟨D3,fs,J,ao.of h3,{},λl ms hl ko nC=>?_⟩;obtain⟨st,M,rfl,Z,oi⟩:=yJ ko nC Ln Vc;obtain⟨G5,e5,s5,h5⟩:=cH hl (.lst ([(st:Int),(M:Int)].map V.int));rw[e5];exists l,_,J,ao.of h5,J,_,_,J,_,_,J,J;have kA:=k4.trans (aq.same s5);have PA:=P4.same s5;have Xx:=s5 _ _ kr;have X8:=Y.trans (.same s5);obtain⟨pc,rA⟩:=PG.at;have KI:aw G G5:=aw.trans (.keep k1 rA) X8;refine B _ _ (b_ λN_ B=>?_);exists λσ G6=>aO λ(st M:Nat)=>nY (σ=[some (.ref pen),some (.ref rl),some (.int lg),some (.ref D),some (.int (0+i)),some (.int (m:Int)),some (.int ((r.length:Int)+1)),some (.int (st:Int)),some (.int (M:Int))]) (st<=M) (M<=r.length) (aq pen H G6) (aJ G6 pen) (G6 D=some (.lst ys)) (aw G G6),?_
  ·obtain⟨pc5,S⟩:=PA.at;refine⟨pen,3,J,PA,∅,∅,λx G6 O P6 _ _=>⟨J,aT (λ_=>?_) (λ_=>⟨st,M,J,Z,{},kA.trans O,P6,O _ _ nD Xx,KI.trans (.keep O S)⟩)⟩⟩;exact⟨_,_,J,0,r.length,by dsimp only;rw[show((r.length:Int)+1-1)=(r.length:Int) by lia];rfl,ZX _,ZF _,kA.trans O,P6,O _ _ nD Xx,KI.trans (.keep O S)⟩
  ·rintro σ G6 ⟨st,M,rfl,Z,oi,O,P6,J_,X9⟩;refine B _ _ ?_;refine⟨.inl ⟨J,_,ao.of J_⟩,aZ J,λt ht=>?_⟩;obtain⟨G7,e7,s7,h7⟩:=cH ht (.tup [.int (m:Int),.int (st:Int),.int (M:Int)]);rw[e7];have lh:=s7 _ _ J_;have xc:=hT.1;exists D,ys,_,J,J,lh,fM {};have Cu:=(X9.trans (.same s7)).trans (.set lh (zs:=ys++[.ref t]));refine⟨_,_,_,_,_,ys++[.ref t],ts++[(m,st,M)],J,(O.trans (aq.same s7)).own hD,(P6.same s7).other nD _,ax,(hT.tk Cu).snoc ⟨t,J,(aw.set lh _ _).1 h7⟩,λu hu=>?_,by rw[ZM,xf];rfl⟩;rcases eC hu with h | h
   ·exact aD u h
   ·rw[eD h];exact⟨r,gm,Z,oi⟩
 ·rintro σ G ⟨a4,a5,a6,a7,a8,ys,ts,rfl,kG,PG,Vs,hT,aD,xf⟩;refine B _ _ ?_;exact q D ys ts G kG PG Vs hD hT aD {} {}
def zt(k:aw H H')(h:au K H a xs):au K H' a xs:=by
 rcases h with (h | ⟨o,h⟩) | h
 ·exact .inl (.inl ((k _ _).1 h))
 ·exact .inl (.inr ⟨o,(k _ _).2 o h⟩)
 ·exact .inr h
theorem Al{K:Fg}{H:Hp}{zs B:List V}{vs I:List TS.I3}:Paired (fN K H) zs vs->Paired (fN K H) B I->Paired (fN K H) (zs++B) (vs++I):=SO
theorem nh{K:Fg}{H:Hp}{zs:List V}{vs:List TS.I3}(h:Paired (fN K H) zs vs):zs.length=vs.length:=Paired.length h
noncomputable def tN(row:List Int)(j st:Int)(b n:Nat):List TS.I3:=(List.range n).map λk=>(row.getD (b+k) 0,j,st+(k:Int))
def oK(row:List Int)(j st:Int)(b n:Nat):tN row j st b (n+1)=tN row j st b n++[(row.getD (b+n) 0,j,st+(n:Int))]:=by
 grind [tN,range_succ,WF]
noncomputable def oM(B:LL):Nat->List T3->List TS.I3
 | _,[]=>[]
 | j,t::r=>tN ((B[t.1]?).getD []) (j:Int) (t.2.1:Int) t.2.1 (t.2.2-t.2.1)++oM B (j+1) r
theorem uR(B:LL)(t:T3):∀(l:List T3)(j:Nat),oM B j (l++[t])=oM B j l++tN ((B[t.1]?).getD []) ((j+l.length:Nat):Int) (t.2.1:Int) t.2.1 (t.2.2-t.2.1)
 | [],j=>by
  show _++[]=[]++_;rw[append_nil,nil_append];rfl
 | x::l,j=>by
  show _++oM B (j+1) (l++[t])=(_++oM B (j+1) l)++_;rw[uR B t l (j+1),YS,WB,show j+1+l.length=j+(l.length+1) by lia]
def uo(row:List Int)(j st:Int)(b n:Nat):(tN row j st b n).length=n:=by
 grind [tN]
theorem zr:∀(ts:List T3)(j:Nat),lM gE ts->(∀ ns∈gE,ns.length<=100)->(oM gE j ts).length<=100*ts.length
 | [],j,_,_=>ZX _
 | t::r,j,h,hn=>by
  have I:=zr r (j+1) (λu B=>h u (ZU _ B)) hn;obtain⟨ns,h1,h2,M⟩:=h t (ZQ ..);have:=hn ns (ZV h1);show List.length (_++_)<=_;rw[ZM,uo,WB];lia
def uq{row:List Int}{j st:Int}{b e:Nat}(h:e<=row.length):(tN row j st b (e-b)).map (·.1)=(row.take e).drop b:=by
 apply ext_getElem?;intro k;unfold tN;rw[map_map,WE,getElem?_drop,getElem?_take];by_cases c:k<e-b
 ·rw[getElem?_range c,ZL {}];have B:b+k<row.length:={}
  show some (row.getD (b+k) 0)=_;simp[WS,B]
 ·rw[getElem?_eq_none (by rw[length_range];lia),ZJ {}];rfl
noncomputable def tM(B:LL)(ts:List T3):List Int:=ts.flatMap λt=>((B.getD t.1 []).take t.2.2).drop t.2.1
theorem Fm:∀(ts:List T3)(j:Nat),lM gE ts->(oM gE j ts).map (·.1)=tM gE ts
 | [],j,_=>rfl
 | t::r,j,h=>by
  have B:=Fm r (j+1) λu I=>h u (ZU _ I);obtain⟨ns,h1,h2,M⟩:=h t (ZQ ..);show List.map _ (_++_)=((gE.getD t.1 []).take t.2.2).drop t.2.1++tM gE r;rw[WF,B,h1,Option.getD_some,uq M,WS,h1];rfl
theorem oB(low:Int)(B:LL):∀ ts:List T3,cI low B ts=bD low (tM B ts)
 | []=>rfl
 | t::r=>by
  have I:=oB low B r;show sel (jk low B t)++cI low B r=bD low (_++tM B r);rw[I];unfold sel jk bD;rw[WF,map_drop,map_take]
inductive Ik(K:Fg)(vs:List V)(H:Hp)(Q:VK)(E:XK):Prop
 |mk(ra sa:Addr)(ys:List V)(gE:LL)(ts:List T3)(_:vs=[.ref ra,.ref sa])(_:cE H ra gE)(_:(∀ ns∈gE,ns.length<=100))(_:ao K H sa ys)(_:ie H ys ts)(_:lM gE ts)(_:ts.length<=8)(_:(tM gE ts).length<64)(_:∀(l:Addr)(zs:List V)(vs:List TS.I3)(H':Hp),ag H H'->H' l=some (.lst zs)->H l=none->Paired (fN K H') zs vs->vs.Perm (oM gE 0 ts)->(vs.Pairwise λx y=>TS.dJ y x=false)->Q (.ref l) H')
def Rh:z.C P w 1 "_law_things" ["_law_rows", "_law_some_here"] (Ik K):=by
 have sc:=Rw;specialize z.hV;obtain⟨ra,sa,ys,gE,ts,rfl,⟨zo,CN,t9,CO⟩,U,W4,hT,Z,xf,h64,q⟩:=h;refine⟨_,(aj (aF 2 sc.nd (zX fU))
 (aj (pO bn J (jo J z.cz (ar (dH z.bE (ar kv)))) (cq 3 sc.nd)
 (aj (HI (aG cS kv bi) (IE J (cF (cq 4 sc.nd) (cF (cq 5 sc.nd) (cF (cq 6 sc.nd) jq)))))
 (bF (d6 (bG YF PySem.F.slot_list_extend PySem.F.type_list_extend Nt bv (ar (kf (cl:=[("_law_rows", s.heap.objs.size+1+0),("_law_make", s.heap.objs.size+1+2),("_law_j", s.heap.objs.size+1+1)]) (cn:=["_law_rows", "_law_make", "_law_j"]) (N:=["_law_j", "_law_make", "_law_rows"]) (fr:=[3,4,0]) (bB:=aI Bj) J (zV J z.cz (aY (pr 5) (pr 6))) (λC s₂ H₂ fp=>(vj (bW (aG (AG (K:=K) J) (aG (AG (K:=K) J) bi bv) kb) kv kb))) (by ac_rfl) ⟨by ac_rfl,by ac_rfl,by ac_rfl,trivial⟩ J J J eT J)))))))
 (az (cK (AF (K:=K) J) () z.iH qb (ar bv))))),?_⟩
 symm;refine b_ λN_ y_=>?_;refine⟨aZ J,λD hD=>?_⟩;have s1:=aM hD (.lst []);refine y_ _ _ (b_ λN_ y_=>?_);refine⟨sa,_,J,.inl (s1.seq W4),_,J,{},by have:=hT.1;lia,Ed (n:=ys.length) (λi σ H2=>lT λ(zs:List V) (v3 v4 v5 v6:Option V)=>cP (σ=[some (.ref ra),some (.ref sa),some (.ref D),v3,v4,v5,v6]) (ag H H2) (H2 D=some (.lst zs)) (Paired (fN K H2) zs (oM gE 0 (ts.take i))))
  ⟨[],_,_,_,_,J,s1,ax,.nil⟩ ?_ ?_⟩
 ·rintro i σ H2 hi ⟨zs,v3,v4,v5,v6,rfl,Y,S,B⟩;have xc:i<ys.length:=hi;have hi:i<ts.length:=by rw[<- hT.1];exact xc
  have gi:ts[i]? = some ts[i]:=ZP hi;generalize ts[i]=t at gi;have gy:ys[i]? = some ys[i]:=ZP xc;generalize ys[i]=y at gy;obtain⟨p,rfl,hp⟩:=hT.2 i y t gy gi;obtain⟨ns,n1,n2,n3⟩:=Z t (ZV gi);have Xa:=U ns (ZV n1);obtain⟨r,gr,JR⟩:=CO t.1 ns n1;have gx:(zo.map V.ref)[t.1]? = some (.ref r):=by rw[WE,gr];rfl
  have UK:lM gE (ts.take i):=λu hu=>Z u (YG hu);have kj:zs.length<=100*i:=by rw[nh B];refine ZT (zr (ts.take i) 0 UK U) ?_;rw[WL];exact Nat.mul_le_mul_left _ (Nat.min_le_left _ _)
  refine b_ λN_ y_=>?_;exists _,_,Y.seq W4,(by rw[Int.zero_add];exact dm gy),p,_,J,au.of (Y _ _ hp),J,_,_,J,_,_,J,_,_,J,J;refine y_ _ _ ?_;refine⟨.inl ⟨J,_,ao.of S⟩,(t.2.1:Int),(t.2.2:Int),J,⟨{},{},{},{}⟩,λD3 ec=>?_⟩;have en:((t.2.2:Int)-(t.2.1:Int)).toNat=t.2.2-t.2.1:={}
  rw[en];refine A5 (lo:=(t.2.1:Int)) (n:=t.2.2-t.2.1) (sz {}) (λk us I=>us.length=k/\ag H2 I/\I D3=some (.lst us)/\Paired (fN K I) us (tN ns (0+(i:Int)) (t.2.1:Int) t.2.1 k))
   ⟨J,aM ec _,ax,.nil⟩ (λk us I ⟨e1,_,e3,_⟩=>⟨e3,e1⟩) ?_ ?_
  ·rintro k us I hk ⟨e1,M,e3,O⟩;have Wo:=Y.trans M;have Ut:fC (ns.map V.int) ((t.2.1:Int)+(k:Int))=some (.int (ns.getD (t.2.1+k) 0)):=by
    have hb:t.2.1+k<ns.length:={}
    show fC _ ((t.2.1+k:Nat):Int)=_;refine dm ?_;rw[WE,ZP hb];simp[WS,hb]
   refine⟨_,_,ao.of (Wo _ _ CN),dm gx,_,_,ao.of (Wo _ _ JR),Ut,aZ J,λp4 rB=>?_⟩;have s4:=aM rB (.tup [.int (ns.getD (t.2.1+k) 0),.int (0+(i:Int)),.int ((t.2.1:Int)+(k:Int))]);have e4:=s4 _ _ e3;have tk:aw (upd I p4 (.tup [.int (ns.getD (t.2.1+k) 0),.int (0+(i:Int)),.int ((t.2.1:Int)+(k:Int))])) (upd (upd I p4 (.tup [.int (ns.getD (t.2.1+k) 0),.int (0+(i:Int)),.int ((t.2.1:Int)+(k:Int))])) D3 (.lst (us++[.ref p4]))):=aw.set e4;exists e4,by rw[ZM,e1] <;> rfl,ag.own (M.trans s4) ec,ax
   rw[oK];exact Al (d7 tk (d7 (.same s4) O)) (.cons ⟨p4,J,zt tk (au.of ax)⟩ .nil)
  ·rintro us I ⟨e1,M,e3,O⟩;have W:=M _ _ S;exists D,D3,_,_,J,J,W,e3,sz {};have tk:aw I (upd I D (.lst (zs++us))):=aw.set W;exists zs++us,_,_,_,_,J,ag.own (Y.trans M) hD,ax;have et:ts.take (i+1)=ts.take i++[t]:=by rw[WK,gi];rfl
   rw[et,uR,n1,Option.getD_some,WL,YH (Nat.le_of_lt hi),YL];rw[Int.zero_add]at O;exact Al (d7 tk (d7 (.same M) B)) (d7 tk O)
 ·rintro σ H2 ⟨zs,v3,v4,v5,v6,rfl,Y,S,B⟩;rw[hT.1,WR]at B;refine y_ _ _ ?_;refine⟨D,zs,_,J,by rw[nh B,<- ZK (f:=(·.1)),Fm ts 0 Z];exact h64,ao.of S,B,λl us vs hl ko Lh nA=>?_⟩;have M:=aM hl (.lst us);have CT:H l=none:=by
   cases e:H l with
   | none=>rfl
   | some o=>have z:=Y _ _ e;rw[hl]at z;cases z
  refine q l us vs _ (Y.trans M) ax CT (d7 (.same M) Lh) ?_ nA;have z:=ko.map Prod.snd;rw[map_snd_zip (by rw[nh Lh];exact ZF _),map_snd_zip (by rw[nh B];exact ZF _)]at z;exact z
def tH(H:Hp)(v:V):Option (Int×Int)->Prop
 | none=>v = .bf
 | some p=>∃ a,v = .ref a/\H a=some (.tup [.int p.1,.int p.2])
def cB(H:Hp)(xs:List V)(ps:List (Int×Int)):Prop:=xs.length=ps.length /\ ∀(j:Nat)(x:V)(p:Int×Int),xs[j]? = some x->ps[j]? = some p->tH H x (some p)
def tH.tk(h:tH H v o)(k:aw H H'):tH H' v o:=by
 cases o with
 | none=>exact h
 | some p=>obtain⟨a,e,h1⟩:=h;exact⟨a,e,(k _ _).1 h1⟩
def cB.same(h:cB H xs ps)(s:ag H H'):cB H' xs ps:=⟨h.1,λj x p h1 h2=>(h.2 j x p h1 h2).tk (.same s)⟩
def cB.get(h:cB H xs ps){j:Nat}(B:xs[j]? = some x):∃ p,ps[j]? = some p/\tH H x (some p):=by have I:=(ac B).1;have e:ps[j]? = some (ps[j]'(by rw[<- h.1];exact I)):=ZP _;exact⟨_,e,h.2 j x _ B e⟩
def cB.app(h:cB H xs ps)(h':cB H ys qs):cB H (xs++ys) (ps++qs):=by
 refine⟨by rw[ZM,ZM,h.1,h'.1],λj x p h1 h2=>?_⟩;have B:=h.1;by_cases c:j<xs.length
 ·rw[WO c]at h1;rw[WO {}]at h2;exact h.2 j x p h1 h2
 ·rw[WM {}]at h1;rw[WM {},<- B]at h2;exact h'.2 _ x p h1 h2
def xk{ws:List Int}{i:Nat}(hi:(ws.map V.int)[i]? = some x):∃ t,ws[i]? = some t/\x = .int t:=by
 rw[WE]at hi;cases e:ws[i]? with
 | none=>rw[e]at hi;cases hi
 | some m=>rw[e]at hi;exact⟨m,J,(am hi).symm⟩
def f7{I:Str}(hs:I.length<=16){B:Nat}{xs:List Str}(h:∀ x∈xs,x.length<=B)(M:xs.length*B+xs.length<=1048576):JoinOk I xs=true:=by refine PyProof.Rows.joinOk_of_weight ?_ hs;have:=StrLaws.sumLen_le (B:=B) xs h;have e:xs.length*B=B*xs.length:=Nat.mul_comm _ _;lia
def vI(c:Nat)(xs:List Str):Txt.join ⟨#[c]⟩ xs=Str.join ⟨#[c]⟩ xs:=PySem.StrLaws.glued_eq_join _ _
def f2(p:TS.I2):Key×V:=(Sum.inl p.1,.int p.2)
def oA(ks:List TS.I2)(w:Int):eg (ks.map f2) (Sum.inl w)=(ks.find? λp=>decide (p.1=w)).map λp=>V.int p.2:=by
 unfold eg;rw[find?_map,Option.map_map];have e:((λB:Key×V=>decide (B.1=(Sum.inl w:Key)))∘f2)=λp:TS.I2=>decide (p.1=w):=by
  funext p;show decide ((Sum.inl p.1:Key)=Sum.inl w)=decide (p.1=w);by_cases c:p.1=w
  ·rw[ZG c,ZG (by rw[c])]
  ·rw[ZS c,ZS (λz=>c (Sum.inl.inj z))]
 rw[e];rfl
noncomputable def sV(ks:List TS.I2)(w m:Int):List TS.I2:=if(ks.any λp=>decide (p.1=w))=true then ks.map (λp=>if p.1=w then(p.1,m)else p)else ks++[(w,m)]
def Bq(ks:List TS.I2)(w m:Int):putK (ks.map f2) (Sum.inl w) (.int m)=(sV ks w m).map f2:=by
 unfold putK sV;have e:((ks.map f2).any λB=>decide (B.1=(Sum.inl w:Key)))=ks.any λp=>decide (p.1=w):=by
  rw[any_map];congr 1;funext p;show decide ((Sum.inl p.1:Key)=Sum.inl w)=decide (p.1=w);by_cases c:p.1=w
  ·rw[ZG c,ZG (by rw[c])]
  ·rw[ZS c,ZS (λz=>c (Sum.inl.inj z))]
 rw[e];by_cases c:(ks.any λp=>decide (p.1=w))=true
 ·rw[ZL c,ZL c,map_map,map_map];refine map_congr_left λp _=>?_;show(if(Sum.inl p.1:Key)=Sum.inl w then((Sum.inl p.1:Key),V.int m)else f2 p)=f2 (if p.1=w then(p.1,m)else p);by_cases d:p.1=w
  ·rw[ZL (by rw[d]),ZL d];rfl
  ·rw[ZJ (λz=>d (Sum.inl.inj z)),ZJ d]
 ·rw[ZJ c,ZJ c,WF];rfl
noncomputable def j8(ks:List TS.I2)(ws:List Int):Prop:=(ks.map (·.1)).Nodup/\(∀ w m,(w,m)∈ks↔(m=((ws.count w:Nat):Int)/\0<m))/\ks.length<=ws.length
def cnt_nil:j8 [] []:=⟨nodup_nil,λw m=>⟨λh=>absurd h (by simp),λ⟨h1,h2⟩=>by simp at h1;lia⟩,ZF _⟩
def EB{ks:List TS.I2}{ws:List Int}(h:j8 ks ws)(w:Int):((ks.find? λp=>decide (p.1=w)).map λp=>V.int p.2).getD (.int 0) = .int ((ws.count w:Nat):Int):=by
 cases e:ks.find? λp=>decide (p.1=w) with
 | none=>
  show V.int 0=_;have n:=List.find?_eq_none.mp e;have z:ws.count w=0:=by apply Classical.byContradiction;intro c;have hm:=(h.2.1 w ((ws.count w:Nat):Int)).mpr ⟨J,{}⟩;exact n _ hm (ZG J)
  rw[z];rfl
 | some p=>have hm:=mem_of_find?_eq_some e;have I:=find?_some e;have hw:p.1=w:=ZI I;obtain⟨B,m⟩:=p;cases hw;show V.int m=_;rw[((h.2.1 B m).mp hm).1]
def xD{ws:List Int}(h:j8 ks ws)(w:Int):j8 (sV ks w (((ws.count w:Nat):Int)+1)) (ws++[w]):=by
 obtain⟨h1,h2,O⟩:=h;have N:∀ x,(ws++[w]).count x=ws.count x+if x=w then 1 else 0:=λx=>by
  rw[count_append];congr 1;by_cases c:x=w
  ·subst c;simp
  ·rw[ZJ c,count_eq_zero];simpa using c
 unfold sV;by_cases c:(ks.any λp=>decide (p.1=w))=true
 ·rw[ZL c];exists ?_,λx m=>?_
  ·rw[map_map];have e:((λx:TS.I2=>x.1)∘λp:TS.I2=>if p.1=w then(p.1,((ws.count w:Nat):Int)+1)else p)=λp=>p.1:=by
    funext p;show(if p.1=w then(p.1,((ws.count w:Nat):Int)+1)else p).1=p.1;by_cases d:p.1=w
    ·rw[ZL d]
    ·rw[ZJ d]
   rw[e];exact h1
  ·rw[mem_map,N];constructor
   ·rintro ⟨p,hp,e⟩;by_cases d:p.1=w
    ·rw[ZL d]at e;cases e;rw[ZL d,d];lia
    ·rw[ZJ d]at e;subst e;have d':¬ x=w:=d;rw[ZJ d'];exact(h2 x m).mp hp
   ·rintro ⟨B,I⟩;by_cases d:x=w
    ·subst d;rw[ZL J]at B;obtain⟨p,hp,hd⟩:=List.any_eq_true.mp c;have hd:=ZI hd;exact⟨p,hp,by rw[ZL hd,hd];exact Prod.ext J (by show _=m;lia)⟩
    ·rw[ZJ d]at B;exact⟨(x,m),(h2 x m).mpr ⟨B,I⟩,ZJ d⟩
  ·rw[ZK,ZM];exact ZT O (Nat.le_add_right _ _)
 ·rw[ZJ c];have M:∀ p∈ks,p.1≠w:=λp hp z=>c (List.any_eq_true.mpr ⟨p,hp,ZG z⟩);have z:ws.count w=0:=by apply Classical.byContradiction;intro q;exact M _ ((h2 w ((ws.count w:Nat):Int)).mpr ⟨J,{}⟩) J
  refine⟨?_,λx m=>?_,by rw[ZM,ZM];exact Nat.add_le_add_right O 1⟩
  ·rw[WF];refine List.nodup_append.mpr ⟨h1,by simp,λx U y S e=>?_⟩;obtain⟨p,hp,rfl⟩:=eE U;have:y=w:=by simpa using S
   exact M p hp (by rw[e,this])
  ·rw[mem_append,N,h2 x m];constructor
   ·rintro (⟨B,I⟩ | e)
    ·have d:¬ x=w:=λd=>by subst d;lia
     rw[ZJ d];exact⟨B,I⟩
    ·cases eD e;rw[ZL J,z];exact⟨J,∅⟩
   ·rintro ⟨B,I⟩;by_cases d:x=w
    ·subst d;rw[ZL J,z]at B;refine .inr (List.mem_singleton.mpr (Prod.ext J ?_));show m=_;rw[z];exact B
    ·rw[ZJ d]at B;exact .inl ⟨B,I⟩
theorem IF{zs:List V}{vs:List TS.I3}(h:Paired (fN K H) zs vs){j:Nat}{x:V}(e:zs[j]? = some x):∃ t,vs[j]? = some t/\fN K H x t:=SN h e
def DH:cB H [] []:=⟨J,λj x p h1 _=>by simp at h1⟩
def EA(h:cB H xs ps)(k:aw H H'):cB H' xs ps:=⟨h.1,λj x p h1 h2=>(h.2 j x p h1 h2).tk k⟩
def Gg(h:tH H x (some p)):cB H [x] [p]:=⟨J,λj y q h1 h2=>by
 match j,h1,h2 with
 | 0,h1,h2=>cases h1;cases h2;exact h⟩
inductive SF(K:Fg)(vs:List V)(H:Hp)(Q:VK)(E:XK):Prop
 |mk(D:Addr)(zs:List V)(ts:List TS.I3)(_:vs=[.ref D])(_:ao K H D zs)(_:Paired (fN K H) zs ts)(_:ts.length<=60)(_:∀(H':Hp) (l:Addr) (ys:List V) (ps:List (Int×Int)),ag H H'->H' l=some (.lst ys)->H l=none->cB H' ys ps->(ps.Pairwise λp q=>p.1<q.1)->(∀ w m,(w,m)∈ps↔(m=(((ts.map (·.1)).count w:Nat):Int)/\0<m))->Q (.ref l) H')
def Ak:z.C P w 1 "_law_manys" ["_law_things_here"] (SF K):=by
 have sc:=QE;specialize z.i_;obtain⟨D,zs,ts,rfl,hD,hT,hl,q⟩:=h;refine⟨_,(aj (aF 1 sc.nd qC)
 (aj (pO bn J (cw kb) (IE J (cF (cq 2 sc.nd) (cF (cq 3 sc.nd) (cF (cq 4 sc.nd) jq))))
 (bF (vV (Nat.lt_of_le_of_lt (Nat.add_le_add_left ∅ _) hr.units) kv bv (ae dk (qD (Nat.lt_of_le_of_lt (Nat.add_le_add_left ∅ _) hr.units) kv bv ah ⟨J,J,J,J⟩) ah) J)))
 (az (kf (cl:=[("_law_found", s.heap.objs.size+1+0)]) (cn:=["_law_found"]) (N:=["_law_found"]) (fr:=[1]) (bB:=aI fS) J (cw (cK (QP J) () z.iH qb (ar kv))) (λC s₂ H₂ fp=>(vj (aY kb (wB (Nat.lt_of_le_of_lt (Nat.add_le_add_left ∅ _) hr.units) kv kb (by intro _ _;rfl))))) (by ac_rfl) ⟨by ac_rfl,trivial⟩ J J J eT J)))),?_⟩
 symm;refine λd hd=>?_;have s1:=aM hd (.dK []);have kj:=nh hT;refine⟨D,J,⟨_,s1.seq hD⟩,iT (K:=K) (a:=D) (xs:=zs) (λj σ G=>ik λ(ks:List TS.I2) (v2 v3 v4:Option V)=>cP (σ=[some (.ref D),some (.ref d),v2,v3,v4]) (ag H G) (G d=some (.dK (ks.map f2))) (j8 ks ((ts.map (·.1)).take j))) ⟨[],_,_,_,J,s1,ax,cnt_nil⟩ (λj σ G _ ⟨_,_,_,_,_,s,_,_⟩=>s.seq hD) ?_ ?_⟩
 ·rintro j x σ G hj ⟨ks,v2,v3,v4,rfl,Y,B,I⟩;obtain⟨⟨y,y2,y3⟩,Z,p,rfl,hp⟩:=IF hT hj;have Zp:(ts.map (·.1))[j]? = some y:=by rw[WE,Z];rfl
  exists p,_,J,zt (.same Y) hp,J,_,_,J,_,_,J,_,_,J,J;exists d,J,.inl ⟨_,.inl B⟩,_,jh.k (k:=Sum.inl y) B;rw[oA,EB I];exists d,_,J,tF.k (k:=Sum.inl y) B ?_
  ·rw[ZK];have:=I.2.2;rw[WL,ZK]at this;exact fM {}
  ·exists sV ks y (((((ts.map (·.1)).take j).count y:Nat):Int)+1),_,_,_,J,ag.own Y hd,?_
   ·rw[ax];exact congrArg (λz=>some (HO.dK z)) (Bq _ _ _)
   ·rw[WK,Zp];exact xD I y
 ·rintro σ G ⟨ks,v2,v3,v4,rfl,Y,B,I⟩;rw[kj,<- ZK (f:=(·.1)),WR]at I;refine⟨d,ks,J,B,by have:=I.2.2;rw[ZK]at this;lia,I.1,λl ms CT U nC=>?_⟩;obtain⟨G1,e1,s2,rE⟩:=cH CT (.lst (ms.map V.int));rw[e1];have hd1:=s2 _ _ B;have Xc:ms.length<=900:=by have:=I.2.2;rw[U.length_eq,ZK];rw[ZK]at this;lia
  have O:∀ y∈ms,eg (ks.map f2) (Sum.inl y)=some (.int (((ts.map (·.1)).count y:Nat):Int))/\0<(((ts.map (·.1)).count y:Nat):Int):=λy Z=>by
   obtain⟨⟨k,m⟩,hm,rfl⟩:=eE (U.mem_iff.mp Z);obtain⟨h1,h2⟩:=(I.2.1 k m).mp hm;refine⟨?_,by rw[<- h1];exact h2⟩;have hg:=EB I k;rw[oA];cases ef:ks.find? λp=>decide (p.1=k) with
   | none=>exact absurd (ZG J) (List.find?_eq_none.mp ef _ hm)
   | some p=>rw[ef]at hg;exact congrArg some hg
  refine⟨l,J,⟨_,ao.of rE⟩,λD3 W=>?_⟩;refine eY (K:=K) (xs:=ms.map V.int) (sz (by rw[ZK];lia)) (λi ys G=>ys.length=i/\ag G1 G/\G D3=some (.lst ys)/\cB G ys ((ms.take i).map λy=>(y,(((ts.map (·.1)).count y:Nat):Int))))
   ⟨J,aM W _,ax,DH⟩ (λi ys G ⟨_,s,_⟩=>ao.of (s _ _ rE)) (λi ys G ⟨e1,_,e3,_⟩=>⟨e3,e1⟩) ?_ ?_
  ·rintro i x ys G2 S ⟨f1,M,f3,f4⟩;rw[WE]at S;cases ey:ms[i]? with
   | none=>rw[ey]at S;cases S
   | some y=>
    rw[ey]at S;obtain rfl:V.int y=x:=am S;refine⟨d,_,J,by rw[<- (O y (ZV ey)).1];exact jh.k (k:=Sum.inl y) (M _ _ hd1),aZ J,λt4 Z1=>?_⟩;obtain⟨G3,e3,s3,h3⟩:=cH Z1 (.tup [.int y,.int (((ts.map (·.1)).count y:Nat):Int)]);rw[e3];have XF:=s3 _ _ f3;have tk:aw G3 (upd G3 D3 (.lst (ys++[.ref t4]))):=aw.set XF;exists XF,by rw[ZM,f1];rfl,ag.own (M.trans s3) W,ax
    rw[WK,ey,WF];exact(EA (f4.same s3) tk).app (Gg (tH.tk (o:=some _) ⟨t4,J,h3⟩ tk))
  ·rintro ys G2 ⟨f1,M,f3,f4⟩;rw[ZK,WR]at f4;have Yv:=Y.trans (s2.trans M);refine q G2 D3 ys _ Yv f3 ((Y.trans s2).free W) f4 ?_ λx m=>?_
   ·rw[pairwise_map];exact nC
   ·rw[mem_map,<- I.2.1 x m];constructor
    ·rintro ⟨y,Z,e⟩;cases e;exact(I.2.1 _ _).mpr ⟨J,(O _ Z).2⟩
    ·intro hm;have S:=U.mem_iff.mpr (mem_map_of_mem (f:=(·.1)) hm);exact⟨x,S,by rw[<- ((I.2.1 x m).mp hm).1]⟩
inductive So(K:Fg)(vs:List V)(H:Hp)(Q:VK)(E:XK):Prop
 |mk(D:Addr)(ys:List V)(ts:List T3)(_:vs=[.ref D])(_:ao K H D ys)(_:ie H ys ts)(_:ts.length<=8)(_:(∀ t∈ts,uc t))(_:∀ H',ag H H'->Q (.str (tG ts)) H')
def Sn:z.C P w 1 "_law_word" ["_law_some_here"] (So K):=by
 have sc:=Qd;specialize z.jX;obtain⟨D,ys,ts,rfl,hD,hT,h8,hs,q⟩:=h;exists _,(az (bG WW YO YQ Ba aR (ar (kf (cl:=[]) (cn:=[]) (N:=[]) (fr:=[]) (bB:=aI iM) J (cw kb) (λC s₂ H₂ fp=>(BE (K:=K) J WW YO YQ (qT (K:=K) J) aR (ar (qE (uL:=aI iM) J J (wq (K:=K) J kb) (λC s₂ H₂ fp=>(ei gD () z.cj kh (ar kb))) (by ac_rfl) J eT)))) (by ac_rfl) trivial J J J eT J))))
 symm;have Xn:=hT.1;refine⟨J,D,J,⟨_,hD⟩,λD2 W=>?_⟩;refine eY (K:=K) (xs:=ys) (aA {}) (λi zs G=>zs=((ts.take i).map tP).map V.str/\i<=ts.length/\ag H G/\G D2=some (.lst zs)) ⟨J,ZX _,aM W _,ax⟩ (λi zs G ⟨_,_,e,_⟩=>e.seq hD)
  (λi zs G ⟨O,e2,_,e4⟩=>⟨e4,by rw[O,ZK,ZK,WL];lia⟩) ?_ ?_
 ·rintro i x zs G M ⟨O,e2,e3,e4⟩;have hi:=(ac M).1;have gt:ts[i]? = some (ts[i]'{}):=ZP _;generalize ts[i]'{}=t at gt;obtain⟨a,rfl,ha⟩:=hT.2 i x t M gt;have sm:=hs t (ZV gt);have hb:BdN (iw t):=λn I=>by
   unfold iw at I;simp only[mem_cons,not_mem_nil,or_false]at I;obtain⟨m1,m2,m3⟩:=sm;rcases I with rfl | rfl | rfl <;> lia
  have hS:au K G a ((iw t).map V.int):=au.of (e3 _ _ ha);refine⟨J,a,J,⟨_,hS⟩,λD3 U=>?_⟩;refine sJ (K:=K) (xs:=(iw t).map V.int) (aZ J) (λk us S=>us=(((iw t).take k).map tx).map V.str/\k<=3/\ag G S/\S D3=some (.lst us)) ⟨J,ZX _,aM U _,ax⟩ (λk us S ⟨_,_,e,_⟩=>zt (.same e) hS)
   (λk us S ⟨Z,f2,_,Y⟩=>⟨Y,by rw[Z,ZK,ZK,WL];exact YH f2⟩) ?_ ?_
  ·rintro k y us S hy ⟨Z,f2,f3,Y⟩;obtain⟨n,I,rfl⟩:=xk hy;have hk:k<3:=(ac I).1;have:=hb n (ZV I);refine⟨n,J,cL {} {},Y,?_,{},ag.own f3 U,ax⟩;rw[Z,WK,I,WF,WF];rfl
  ·rintro us S ⟨Z,f2,f3,Y⟩;have f1':us=((iw t).map tx).map V.str:=Z;subst f1';refine⟨":", D3,(iw t).map tx,J,J,ao.of Y,f7 ⟨⟩ (B:=51) (λx M=>?_) (by show 3*51+3<=_;decide),f3 _ _ e4,?_,{},ag.own (e3.trans f3) W,ax⟩
   ·obtain⟨n,I,rfl⟩:=eE M;exact IK (hb n I).1 (hb n I).2
   ·rw[O,WK,gt,WF,WF];show _++[V.str (Txt.join ":" _)]=_++[V.str (tP t)];rw[show(":" : Str)=⟨#[58]⟩ from ⟨⟩,vI];rfl
 ·rintro zs G ⟨O,e2,e3,e4⟩;rw[Xn,WR]at O;subst O;exists "+", D2,ts.map tP,J,J,ao.of e4,f7 ⟨⟩ (B:=160) (λx M=>?_) (by rw[ZK];lia)
  ·obtain⟨t,ht,rfl⟩:=eE M;exact ZT (Ms (hs t ht)) ∅
  ·rw[show("+" : Str)=⟨#[43]⟩ from ⟨⟩,vI];exact q G e3
def mH(x y:Str):(x++y).length=x.length+y.length:=Array.size_append ..
def xZ(p:Int×Int):tx p.1 ++ ":" ++ tx p.2=tC p:=by rw[show(":" : Str)=⟨#[58]⟩ from ⟨⟩];rfl
inductive Bn(K:Fg)(vs:List V)(H:Hp)(Q:VK)(E:XK):Prop
 |mk(D:Addr)(xs:List V)(ps:List (Int×Int))(_:vs=[.ref D])(_:ao K H D xs)(_:cB H xs ps)(_:(∀ p∈ps,mi p))(_:ps.length<=1000)(_:∀ H',ag H H'->Q (.str (tL ps)) H')
def mw:z.C P w 1 "_law_of_worths" ["_law_told"] (Bn K):=by
 have sc:=A1;specialize z.e_;obtain⟨D,xs,ps,rfl,hD,hA,hb,hl,q⟩:=h;refine⟨_,(aj (aW (aN (FY hr.units) kb (zX fU))
 (az aR))
 (az (bG WW YO YQ Ba aR (ar (vw (x := "_law_worth") (cl:=[]) (cn:=[]) (TN:=["_law_many"]) (N:=[]) (fr:=[]) (bB:=aI j_) J (cw kb) (λC s₂ H₂ fp=>(ae dR (ae dR (ei gD () z.cj kh (ar kb)) aR) (ei gD () z.cj kh (ar kv)))) (λC s₂ H₂ fp=>qa) (λC s₂ H₂ fp=>(kF (K:=K) (n:=2) J J (cF (kg (i:=0) (show(["_law_worth", "_law_many"]:List Str).Nodup from ⟨⟩) J (Or.inl J)) (cF (kg (i:=1) (show(["_law_worth", "_law_many"]:List Str).Nodup from ⟨⟩) J (Or.inl J)) jq)))) (by ac_rfl) trivial J J J ⟨⟨⟩,⟨⟩,⟨⟩,⟨⟩⟩ J))))),?_⟩
 symm;refine⟨aZ J,λe he=>?_⟩;obtain⟨H1,O,M,h1⟩:=cH he (.lst []);rw[O];exists D,e,xs,J,J,M.seq hD,ao.of h1;have I:=hA.1;cases ps with
 | nil=>
  cases xs with
  | cons x xs=>cases I
  | nil=>exact bM (q _ M)
 | cons p0 Bu=>
  cases xs with
  | nil=>cases I
  | cons x0 Z=>
   refine aU ?_;generalize Lg:p0::Bu=ps at *;generalize hxs:x0::Z=xs at *;refine⟨J,D,J,⟨_,M.seq hD⟩,λD2 U=>?_⟩;refine vL (K:=K) (xs:=xs) (aA {}) (λi zs G=>zs=((ps.take i).map tC).map V.str/\i<=ps.length/\ag H1 G/\G D2=some (.lst zs)) ⟨J,ZX _,aM U _,ax⟩ (λi zs G ⟨_,_,s,_⟩=>s.seq (M.seq hD)) (λi zs G ⟨O,e2,_,W⟩=>⟨W,by rw[O,ZK,ZK,WL];lia⟩) ?_ ?_
   ·rintro i x zs G hx ⟨rfl,e2,Y,W⟩ yG S;obtain⟨p,hp,a,rfl,ha⟩:=hA.get hx;have hi:=(ac hp).1;obtain⟨⟨p1,p2⟩,p3,p4⟩:=hb p (ZV hp);have p3:-(10^50)<p.2:={}
    have l1:=IK p1 p2;have l2:=IK p3 p4;have lc:(":" : Str).length=1:=⟨⟩
    obtain⟨x0,x1,rfl⟩:=l_2 S;refine⟨a,_,J,au.of (Y _ _ (M _ _ ha)),J,_,_,J,_,_,J,J,⟨[_,_],J,J⟩,bM ?_⟩;exists _,J,cL {} {},_,_,J,J,aA (by show(tx p.1).length+_<=_;lia),_,J,cL {} {},_,_,J,J,aA (by show(tx p.1 ++ ":").length+(tx p.2).length<=_;rw[mH];lia);refine⟨W,?_,{},ag.own Y U,ax⟩;rw[WK,hp,WF,WF];show _=_++[V.str (tC p)];rw[<- xZ];rfl
   ·rintro zs G ⟨O,e2,Y,W⟩;rw[I,WR]at O;subst O;exists ",", D2,ps.map tC,J,J,ao.of W,f7 ⟨⟩ (B:=104) (λx hx=>?_) (by rw[ZK];lia)
    ·obtain⟨p,hp,rfl⟩:=eE hx;exact Q3 (hb p hp)
    ·have:=q G (M.trans Y);unfold tL at this;rw[ZJ (by rw[<- Lg];simp)]at this;rw[show("," : Str)=⟨#[44]⟩ from ⟨⟩,vI];exact this
def IQ:Int->Int->Int->Bool:=λ_ _ c=>!decide (c=0)
noncomputable abbrev cV(e:Nat)(low:Int)(ws:List Int):Pp:=bH IQ e low (bD low ws)
def tD(B:Int):Pp->Prop
 | .all n=>0<=n/\n<=B
 | .split n l r=>(0<=n/\n<=B)/\tD B l/\tD B r
abbrev LC:Pp->Prop:=tD 90
def yl{n:Int}(h:0<=n/\n<=90):okN n:=by
 grind [okN]
theorem vi:∀{p:Pp},LC p->ou p
 | .all _,h=>yl h
 | .split _ _ _,h=>⟨yl h.1,vi h.2.1,vi h.2.2⟩
def XE{n:Int}(h:0<=n/\n<=91):(fg n).length<=2:=by
 have z:∀ m:Fin 92,(fg ((m.1:Nat):Int)).length<=2:=⟨⟩
 have:=z ⟨n.toNat,{}⟩;rw[show(((⟨n.toNat,{}⟩:Fin 92).1:Nat):Int)=n by show((n.toNat:Nat):Int)=n;lia]at this;exact this
theorem Qx:∀ p:Pp,nodes p+1=2*p.aS
 | .all _=>rfl
 | .split _ l r=>by
  have:=Qx l;have:=Qx r;show 1+nodes l+nodes r+1=2*(l.aS+r.aS);lia
theorem u9:∀{p:Pp},LC p->(aB p).length<=5*nodes p
 | .all n,h=>by
  have:(fg n).length<=2:=XE ⟨h.1,by have:=h.2;lia⟩;show(fg n).length<=5*1;lia
 | .split n l r,h=>by
  have B:(fg n).length<=2:=XE ⟨h.1.1,by have:=h.1.2;lia⟩;have h1:=u9 h.2.1;have h2:=u9 h.2.2;rw[QA];show _<=5*(1+nodes l+nodes r);lia
theorem mW{B:Int}:∀{e:Nat}{us:List Int}{p:Pp},pU e us p->(us.length:Int)<=B->tD B p
 | 0,us,.all n,d,h=>by have e:n=(us.length:Int):=d;show 0<=n/\n<=B;lia
 | e+1,us,.all n,d,h=>by have e:n=(us.length:Int):=d;show 0<=n/\n<=B;lia
 | e+1,us,.split n l r,d,h=>by
  have hs:=vK (e:=e) us;have I:n=(us.length:Int):=d.1;exact⟨⟨{},{}⟩,mW d.2.1 {},mW d.2.2 {}⟩
theorem DF:∀ p:Pp,dep p=C2 p
 | .all _=>rfl
 | .split _ l r=>by
  have:=DF l;have:=DF r;show 1+max (dep l) (dep r)=max (C2 l) (C2 r)+1;lia
def Ml(g:Int)(h:∀ a b c:Int,φ a b c=true->c≠0\/(a<=g/\g<=b)){e:Nat}{low:Int}{us:List Int}(B:e<=40)(I:us.length<=15):LC (bH φ e low us)/\dep (bH φ e low us)<=40/\(bH φ e low us).aS<=641:=by
 have h1:=mJ g h e low us;have h2:gI low e g<=1:=by unfold gI;split <;> lia
 have M:e*(us.length+gI low e g)<=40*16:=Nat.mul_le_mul B {};refine⟨mW (mq e low us) {},?_,{}⟩;rw[DF];exact ZT (DR e low us) B
structure ub(p:Pp):Prop where
 c:LC p
 d:dep p<=40
 l:p.aS<=641
def ub.len(h:ub p):(aB p).length<=6500:=by have:=u9 h.c;have:=Qx p;have:=h.l;lia
def ub.ok(h:ub p):cA "paper" (.pp p):=⟨J,vi h.c,by have:=h.d;lia,by have:=h.len;lia⟩
def AM{e:Nat}{low:Int}{ws:List Int}(I:e<=40)(B:ws.length<=15):ub (cV e low ws):=by obtain⟨a,b,c⟩:=Ml (φ:=IQ) 0 (λa b c k=>.inl λz=>by rw[IQ,z]at k;cases k) (low:=low) (us:=bD low ws) I (by rw[ZK];exact B);exact⟨a,b,c⟩
def rP{e:Nat}{low:Int}:cV e low [] = .all 0:=by
 cases e with
 | zero=>rfl
 | succ e=>rfl
def rO{e:Nat}{low:Int}{ws:List Int}(hw:bz low (e+1) ws)(h:ws≠[]):cV (e+1) low ws = .split ws.length (cV e low (ws.filter λn=>decide (n<low+2^e))) (cV e (low+2^e) (ws.filter λn=>decide (low+2^e<=n))):=by have B:ws.length≠0:=λz=>h (eq_nil_of_length_eq_zero z);show(if IQ _ _ ((bD low ws).length:Nat)=true then _ else _)=_;rw[ZK,ZL (by rw[IQ,ZS {}];rfl),O_ hw,O9 hw]
abbrev Rg:Nat:=1
abbrev SW:Nat:=40
inductive IJ(K:Fg)(e:Nat)(vs:List V)(H:Hp)(Q:VK)(E:XK):Prop
 |mk(a:Addr)(ws:List Int)(low:Int)(_:vs=[.ref a,.int low,.int (e:Int)])(_:ao K H a (ws.map V.int))(_:bz low e ws)(_:ws.length<=15)(_:∀ H',ag H H'->Q (.str (bI (aB (cV e low ws)))) H')
def Rf(K:Fg):Sp:=λvs H Q E=>∃ e,e<=SW/\IJ K e vs H Q E
def SV:z.C P w 42 "_law_finest" vY (Rf K):=by
 have sc:=Rv;refine z.hZ.eh (k:=Rg) (sp:=IJ K) SW λe oi B f fd F=>F.k sc λ_ _ _ s H _ Q _ hr h=>?_;obtain⟨a,ws,low,rfl,ha,hw,hl,q⟩:=h;refine⟨_,(aj (aW (PW.pt (pw_or (aN av bv ah) (yc (aN (FY hr.units) kb (zX fU)))))
 (az (ei gD () z.cj kh (ar (dH z.bE (ar kb))))))
 (aj (aF 3 sc.nd (ae dk kv (ae u4 ah (ae lW bv ah))))
 (aj (aF 4 sc.nd (aQ B (hr.mono (ZF _)) () (bW (fV (cl:=[("_law_half", s.heap.objs.size+1+0)]) (cn:=["_law_half"]) (N:=["_law_half"]) (fr:=[3]) (bB:=aI iR) J (cw kb) (λC s₂ H₂ fp=>kb) (λC s₂ H₂ fp=>(aN bS kb kv)) (by ac_rfl) ⟨by ac_rfl,trivial⟩ J J J eT J) kv (ae lW bv ah))))
 (aj (aF 5 sc.nd (aQ B (hr.mono (ZF _)) () (bW (fV (cl:=[("_law_half", s.heap.objs.size+1+0)]) (cn:=["_law_half"]) (N:=["_law_half"]) (fr:=[3]) (bB:=aI iR) J (cw kb) (λC s₂ H₂ fp=>kb) (λC s₂ H₂ fp=>(aN gA kb kv)) (by ac_rfl) ⟨by ac_rfl,trivial⟩ J J J eT J) bi (ae lW bv ah))))
 (az (ae dR (ae dR (ae dR (ae dR (ae dR (ei gD () z.cj kh (ar (dH z.bE (ar kb)))) aR) (pr 4)) aR) (pr 5)) aR)))))),?_⟩
 symm;have Y:(ws.map V.int).length=ws.length:=ZK _;have ab1:e<=40:=oi;have one:∀ H1,ag H H1->cV e low ws = .all (ws.length:Int)->Q (.str (tx (ws.length:Int))) H1:=λH1 I h1=>by
  have z:=q H1 I;rw[h1]at z;exact z
 exists J;cases e with
 | zero=>refine aT (λ_=>?_) (na J);exists a,_,J,.inl ha,_,J,cL {} {};rw[Y];exact one H (ag.refl H) (by show Pp.all ((bD low ws).length:Nat)=_;rw[ZK])
 | succ e=>
  refine aT (λz=>absurd (V.int.inj (ZI z)) {}) (λ_=>?_);refine⟨aZ J,λen Z=>?_⟩;obtain⟨H1,e1,I,h1⟩:=cH Z (.lst []);rw[e1];exists a,en,_,J,J,I.seq ha,ao.of h1;by_cases hn:ws=[]
  ·subst hn;refine bM ?_;exists a,_,J,.inl (I.seq ha),_,J,cL ∅ ∅;exact one H1 I rP
  ·obtain⟨w0,wr,JE⟩:=List.exists_cons_of_ne_nil hn;have S:=I.seq ha;have hw':=hw;refine ay (λz=>absurd z (by rw[JE];exact fnt)) (λ_=>?_);have ee:(((e+1:Nat):Int)-1)=(e:Int):={}
   have oa:=b7 e;have Z_:=qH (show e<=40 by lia);exists _,_,J,J,⟨{},{},∅⟩
   dsimp only;rw[ee,F1];refine⟨a,J,⟨_,S⟩,λD2 jL=>?_⟩;refine Bl (p:=λn=>decide (n<low+2^e)) (g:=V.int) S jL (sz {}) (λn _ H1 Q1 _ M=>M) (λn _ _ H1 Q1 _ M=>M) ?_;have t2:=aM jL (.lst ((ws.filter λn=>decide (n<low+2^e)).map V.int));have eD2:=@ax H1 D2 (.lst ((ws.filter λn=>decide (n<low+2^e)).map V.int));generalize upd H1 D2 (.lst ((ws.filter λn=>decide (n<low+2^e)).map V.int))=H2 at *;have l1:(ws.filter λn=>decide (n<low+2^e)).length<=15:=ZT (length_filter_le _ _) hl;have l2:(ws.filter λn=>decide (low+2^e<=n)).length<=15:=ZT (length_filter_le _ _) hl;refine⟨D2,_,low,congrArg (λt=>[V.ref D2,V.int low,V.int t]) ee,ao.of eD2,hw.TL,l1,λH3 s3=>?_⟩;have W:=t2.trans s3;have O:=W.seq S;refine⟨a,J,⟨_,O⟩,λD5 oj=>?_⟩;refine Bl (p:=λn=>decide (low+2^e<=n)) (g:=V.int) O oj (sz {}) (λn _ H1 Q1 _ M=>⟨_,_,J,J,M⟩) (λn _ _ H1 Q1 _ M=>M) ?_;have t5:=aM oj (.lst ((ws.filter λn=>decide (low+2^e<=n)).map V.int));have eD5:=@ax H3 D5 (.lst ((ws.filter λn=>decide (low+2^e<=n)).map V.int));generalize upd H3 D5 (.lst ((ws.filter λn=>decide (low+2^e<=n)).map V.int))=H5 at *;refine⟨D5,_,low+2^e,congrArg (λt=>[V.ref D5,V.int (low+2^e),V.int t]) ee,ao.of eD5,hw.U9,l2,λH6 s6=>?_⟩;have U:=t5.trans s6;have g1:=(AM (e:=e) (low:=low) (show e<=40 by lia) l1).len;have g2:=(AM (e:=e) (low:=low+2^e) (show e<=40 by lia) l2).len;have q6:=q H6 (I.trans (W.trans U));rw[rO hw hn]at q6;generalize cV e low (ws.filter λn=>decide (n<low+2^e))=p1 at *;generalize cV e (low+2^e) (ws.filter λn=>decide (low+2^e<=n))=p2 at *;have lt:=IK (n:=(ws.length:Int)) {} {};have c1:("(" : Str)=bI [40]:=⟨⟩
   have c2:("," : Str)=bI [44]:=⟨⟩
   have c3:(")" : Str)=bI [41]:=⟨⟩
   exists a,_,J,.inl (U.seq O),_,J,cL {} {};rw[Y];have d1:("(" : Str).length=1:=⟨⟩
   have d2:("," : Str).length=1:=⟨⟩
   have d3:(")" : Str).length=1:=⟨⟩
   have m1:=Ey (aB p1);have m2:=Ey (aB p2);have lt':(Str.ofString (toString (ws.length:Int))).length<=51:=lt;exists _,_,J,J,aA {},_,_,J,J,aA (by simp only[mH];lia),_,_,J,J,aA (by simp only[mH];lia),_,_,J,J,aA (by simp only[mH];lia),_,_,J,J,aA (by simp only[mH];lia);have fin:bI (aB (.split (ws.length:Int) p1 p2))=tx (ws.length:Int) ++ "(" ++ bI (aB p1) ++ "," ++ bI (aB p2) ++ ")" := by
    rw[c1,c2,c3,show tx (ws.length:Int)=bI (fg (ws.length:Int))from J,Ij,Ij,Ij,Ij,Ij];congr 1;show fg _++40::(aB p1++44::(aB p2++[41]))=_;simp only[YS,List.cons_append,nil_append]
   rw[fin]at q6;exact q6
noncomputable def dj(c:Nat):Bool:=decide (c∈("(,)" : Str).cps.toList)
theorem vH(c:Nat):dj c=true↔c=40\/c=44\/c=41:=by unfold dj;rw[decide_eq_true_iff,show("(,)" : Str).cps.toList=[40,44,41] from ⟨⟩];simp
theorem zc{c:Nat}(h:48<=c/\c<=57):dj c=false:=by
 grind [dj,vH]
noncomputable def bO(l:List Nat)(i:Nat):Bool:=!(dj (l.getD i 0))&&(decide (i=0)||dj (l.getD (i-1) 0))
inductive eL:Pp->Pp->Prop
 | all (n:Int):eL (.all n) (.all (n+1))
 | here (n:Int) (l r:Pp):eL (.split n l r) (.split (n+1) l r)
 | lo {n:Int} {l l' r:Pp} (h:eL l l'):eL (.split n l r) (.split n l' r)
 | hi {n:Int} {l r r':Pp} (h:eL r r'):eL (.split n l r) (.split n l r')
def eL.kept(b:eL p p'):∀{e:Nat}{us:List Int},pU e us p->aH e us p'=false:=by
 induction b with
 | all n=>
  intro e us d;rw[uW];have:n=(us.length:Int):=by cases e <;> exact d
  exact ZS {}
 | here n l r=>
  intro e us d;cases e with
  | zero=>exact d.elim
  | succ e=>show(decide (n+1=((us.length:Nat):Int))&&_)=false;have:n=(us.length:Int):=d.1;rw[ZS {},bd]
 | lo h B=>
  intro e us d;cases e with
  | zero=>exact d.elim
  | succ e=>show(_&&(aH e (af e 0 us) _&&_))=false;rw[B d.2.1,bd,be]
 | hi h B=>
  intro e us d;cases e with
  | zero=>exact d.elim
  | succ e=>show(_&&(_&&aH e (af e 1 us) _))=false;rw[B d.2.2,be,be]
def eL.shape{p I:Pp}(b:eL p I):dep I=dep p/\I.aS=p.aS:=by
 induction b with
 | all n=>exact⟨J,J⟩
 | here n l r=>exact⟨J,J⟩
 | lo h B=>exact⟨by show 1+max _ _=1+max _ _;rw[B.1],by show _+_=_+_;rw[B.2]⟩
 | hi h B=>exact⟨by show 1+max _ _=1+max _ _;rw[B.1],by show _+_=_+_;rw[B.2]⟩
theorem RT{B I:Int}(h:B<=I):∀{p:Pp},tD B p->tD I p
 | .all n,z=>⟨z.1,Int.le_trans z.2 h⟩
 | .split n l r,z=>⟨⟨z.1.1,Int.le_trans z.1.2 h⟩,RT h z.2.1,RT h z.2.2⟩
def eL.okb{B:Int}(b:eL p p'):tD B p->tD (B+1) p':=by
 induction b with
 | all n=>intro z;exact⟨by have:=z.1;lia,by have:=z.2;lia⟩
 | here n l r=>intro z;exact⟨⟨by have:=z.1.1;lia,by have:=z.1.2;lia⟩,RT {} z.2.1,RT {} z.2.2⟩
 | lo h I=>intro z;exact⟨⟨z.1.1,by have:=z.1.2;lia⟩,I z.2.1,RT {} z.2.2⟩
 | hi h I=>intro z;exact⟨⟨z.1.1,by have:=z.1.2;lia⟩,RT {} z.2.1,I z.2.2⟩
structure Ctx(p:Pp)(i:Nat)(a b:List Nat)(n:Int)(p':Pp):Prop where
 t:aB p=a++(fg n++b)
 l:a.length=i
 s:b=[]\/aO λc r=>b=c::r/\dj c=true
 u:aB p'=a++(fg (n+1)++b)
 n0:0<=n
 n1:n<=89
 b:eL p p'
theorem RS{n:Int}(h:0<=n):∀ c∈fg n,dj c=false:=by
 grind [fg,dj,Int.eq_ofNat_of_zero_le,zc,SQ]
def zq{n:Int}{i:Nat}(B:0<=n)(hi:i<(fg n).length)(h:bO (fg n++r) i=true):i=0:=by
 by_cases c:i=0
 ·exact c
 have k:=Nat.lt_of_le_of_lt (Nat.sub_le i 1) hi;have e:dj ((fg n++r).getD (i-1) 0)=false:=by rw[WS,WO k,ZP k];exact RS B _ (getElem_mem _)
 unfold bO at h;rw[ZS c,e,Bool.or_self,be]at h;cases h
def Ez{a l:List Nat}{j:Nat}(h:j<l.length):(a++(l++b)).getD (a.length+j) 0=l.getD j 0:=by
 rw[WS,WS,WM (Nat.le_add_right ..),Nat.add_sub_cancel_left,WO h]
def OY{a l:List Nat}{j:Nat}(h:j<l.length)(hs:bO (a++(l++b)) (a.length+j)=true):bO l j=true:=by
 unfold bO at hs ⊢;rw[Ez h,WZ]at hs;rw[WZ];exists hs.1;by_cases c:j=0
 ·rw[ZG c];rfl
 ·rw[Nat.add_sub_assoc (Nat.pos_of_ne_zero c),Ez (Nat.lt_of_le_of_lt (Nat.sub_le ..) h),ZS {},Bool.false_or]at hs;rw[hs.2,Bool.or_true]
theorem vb{p:Pp}{i:Nat}(I:tD 89 p)(hi:i<(aB p).length)(hs:bO (aB p) i=true):ik λa b n M=>Ctx p i a b n M:=by
 induction p generalizing i with
 | all n=>
  have S:bO (fg n++[]) i=true:=by rw[append_nil];exact hs
  obtain rfl:=zq I.1 hi S;exact⟨[],[],n,.all (n+1),by show fg n=[]++(fg n++[]);simp,J,.inl J,by show fg (n+1)=[]++(fg (n+1)++[]);simp,I.1,I.2,.all n⟩
 | split n l r L R=>
  have N:aB (.split n l r)=fg n++40::(aB l++44::(aB r++[41])):=J;have hlen:=QA n l r;by_cases c1:i<(fg n).length
  ·rw[N]at hs;obtain rfl:=zq I.1.1 c1 hs;exact⟨[],_,n,.split (n+1) l r,J,J,.inr ⟨40,_,J,(vH 40).mpr (.inl J)⟩,J,I.1.1,I.1.2,.here n l r⟩
  ·have B:∀{a b:List Nat}{c:Nat},aB (.split n l r)=a++c::b->dj c=true->i≠a.length:=fun {a b c} e O z=>by
    rw[e,z]at hs;unfold bO at hs;rw[WS,WM (ZF _),Nat.sub_self]at hs;rw[show((c::b)[0]?).getD 0=c from J,O]at hs;cases hs
   have n1:=B (a:=fg n) N ((vH 40).mpr (.inl J));have e2:aB (.split n l r)=(fg n++40::aB l)++44::(aB r++[41]):=by rw[N];simp
   have n2:=B e2 ((vH 44).mpr (.inr (.inl J)));have e3:aB (.split n l r)=(fg n++40::(aB l++44::aB r))++41::[]:=by rw[N];simp
   have Z:=B e3 ((vH 41).mpr (.inr (.inr J)));rw[ZM,WB]at n2;rw[ZM,WB,ZM,WB]at Z;have W:aB (.split n l r)=(fg n++[40])++(aB l++44::(aB r++[41])):=by rw[N];simp
   have U:aB (.split n l r)=(fg n++40::(aB l++[44]))++(aB r++[41]):=by rw[N];simp
   have la:(fg n++[40]).length=(fg n).length+1:=by rw[ZM];rfl
   have lb:(fg n++40::(aB l++[44])).length=(fg n).length+1+(aB l).length+1:=by rw[ZM,WB,ZM];show _+(_+1+1)=_;lia
   by_cases c2:i<(fg n).length+1+(aB l).length
   ·obtain⟨j,rfl⟩:∃ j,i=(fg n++[40]).length+j:=⟨i-(fg n).length-1,{}⟩
    rw[W]at hs;obtain⟨a,b,m,M,C⟩:=L I.2.1 {} (OY {} hs);refine⟨(fg n++[40])++a,b++44::(aB r++[41]),m,.split n M r,?_,by rw[ZM,C.l],?_,?_,C.n0,C.n1,.lo C.b⟩
    ·rw[W,C.t];simp only[YS]
    ·rcases C.s with z | ⟨c,Y,z,O⟩
     ·exact .inr ⟨44,_,by rw[z];rfl,(vH 44).mpr (.inr (.inl J))⟩
     ·exact .inr ⟨c,_,by rw[z];rfl,O⟩
    ·show fg n++40::(aB M++44::(aB r++[41]))=_;rw[C.u];simp only[YS,List.cons_append,nil_append]
   ·obtain⟨j,rfl⟩:∃ j,i=(fg n++40::(aB l++[44])).length+j:=⟨i-(fg n).length-(aB l).length-2,{}⟩
    rw[U]at hs;obtain⟨a,b,m,M,C⟩:=R I.2.2 {} (OY {} hs);refine⟨(fg n++40::(aB l++[44]))++a,b++[41],m,.split n l M,?_,by rw[ZM,C.l],?_,?_,C.n0,C.n1,.hi C.b⟩
    ·rw[U,C.t];simp only[YS]
    ·rcases C.s with z | ⟨c,Y,z,O⟩
     ·exact .inr ⟨41,[],by rw[z];rfl,(vH 41).mpr (.inr (.inr J))⟩
     ·exact .inr ⟨c,_,by rw[z];rfl,O⟩
    ·show fg n++40::(aB l++44::(aB M++[41]))=_;rw[C.u];simp only[YS,List.cons_append,nil_append]
def Dt(h:ou p):0<(aB p).length/\bO (aB p) 0=true:=by
 have B:∀{n:Int}{r:List Nat},okN n->0<(fg n++r).length/\bO (fg n++r) 0=true:=fun {n r} I=>by
  obtain⟨h1,_,h2,_⟩:=fY I;exists by rw[ZM];lia
  unfold bO;rw[WS,WO {},ZP {}];show(!(dj ((fg n)[0]))&&_)=true;rw[RS I.1 _ (getElem_mem _)];rfl
 cases p with
 | all n=>have:=B (r:=[]) (show okN n from h);rw[append_nil]at this;exact this
 | split n l r=>exact B h.1
def o7{x:Str}{b:Nat}(B:b<=x.cps.toList.length):Txt.slice x none (some (b:Int))=bI (x.cps.toList.take b):=by have e:=StrLaws.sliceText_to (x:=x) (j:=(b:Int)) {};exact e
def o8{x:Str}{a:Nat}(B:a<=x.cps.toList.length):Txt.slice x (some (a:Int)) none=bI (x.cps.toList.drop a):=by
 have e:=StrLaws.sliceText_from (x:=x) (i:=(a:Int)) {}
 refine Eq.trans (show Txt.slice x (some (a:Int)) none=_ from e) ?_;rw[Int.toNat_natCast,WP (by rw[length_drop];lia)];rfl
inductive kS(u0:Fg)(vs:List V)(H:Hp)(Q:VK)(E:XK):Prop
 |mk(pen:Addr)(p:Pp)(_:vs=[.ref pen,.str (bI (aB p))])(_:aJ H pen)(_:tD 89 p)(_:(aB p).length<=6500)(_:∀(p':Pp)(H':Hp),eL p p'->aq pen H H'->aJ H' pen->Q (.str (bI (aB p'))) H')
def mG:z.C P w 3 "_law_spoilt" ["_law_pen_here", "_law_text"] (kS K):=by
 have sc:=Ru;specialize z.hW;obtain⟨pen,p,rfl,P0,ho,hl,q⟩:=h;refine⟨_,(aj (ID (i:=2) (cl:=[("_law_text", s.heap.objs.size+1+0)]) (cn:=["_law_text"]) (N:=["_law_text"]) (fr:=[1]) (bB:=aI Bi) sc.nd J (Or.inl J) J (jo J z.cz (ar (cK DX () z.bE Hq (ar (pv 1))))) (λC s₂ H₂ fp=>(pv 0)) (λC s₂ H₂ fp=>(PW.pt (iV (A6 jr (aG F8 (pv 1) (pv 0)) aR J) (mu (PW.pt (pw_or (tV av (pv 0) ah) (yc (A6 Ih (aG F8 (pv 1) (ae Eu (pv 0) ah)) aR J)))))))) (by ac_rfl) ⟨by ac_rfl,trivial⟩ J J J eT J (by ac_rfl) (.inl J))
 (aj (aF 3 sc.nd (aG vB (pv 2) (aC (fO z) hr (aY (pv 0) (dH z.bE (ar (pv 2)))))))
 (aj (aF 4 sc.nd (pv 3))
 (aj (vy bn (PW.pt (iV (tV jF (pv 4) (cK DX () z.bE Hq (ar (pv 1)))) (mu (A6 jr (aG F8 (pv 1) (pv 4)) aR J))))
 (bF (aF 4 sc.nd (ae IA (pv 4) ah))))
 (az (ae dR (ae dR (Am Hm (pv 1) Mt (yf (pv 3))) (ei gD () z.cj kh (ar (ae IA (ei FX () z.BW Em (ar (Am Hm (pv 1) (yf (pv 3)) (yf (pv 4))))) ah)))) (Am Hm (pv 1) (yf (pv 4)) Mt))))))),?_⟩
 symm;generalize hx:bI (aB p)=x at *;have hL:x.cps.toList=aB p:=by rw[<- hx,qU]
 have W:x.length=(aB p).length:=by rw[<- hx,Ey]
 have I:x.length<=sizeLine:=aA {};refine⟨_,J,x,J,I,_,J,{},{},λD hD=>?_⟩;rw[W,Int.toNat_natCast];refine F0 (lo:=0) (n:=(aB p).length) (p:=bO (aB p)) (g:=λi:Nat=>V.int (0+(i:Int))) hD (aA {}) (λi hi H1 Q1 _ B=>?_) (λi hi H1 Q1 _ B=>⟨_,J,B⟩) ?_
 ·have S:(aB p)[i]? = some (aB p)[i]:=ZP hi;have d1:(aB p).getD i 0=(aB p)[i]:=by rw[WS,S];rfl
  exists _,J,_,J,x,_,_,J,J,I,by rw[hL,Int.zero_add];exact dm S,⟨#[(aB p)[i]]⟩, "(,)", J,J,_,J
  rw[StrLaws.found_one];unfold bO at B;rw[d1]at B;have sp:decide ((aB p)[i]∈("(,)" : Str).cps.toList)=dj (aB p)[i]:=J;rw[sp];cases e1:dj (aB p)[i] with
  | true=>rw[e1]at B;exact aU B
  | false=>
   rw[e1]at B;refine bM ⟨_,J,J,_,J,?_⟩;by_cases c:i=0
   ·rw[ZG c]at B;refine aT (λ_=>B) (λz=>absurd (ZG (by rw[c];rfl)) z)
   ·rw[ZS c]at B;refine aT (λz=>absurd (V.int.inj (ZI z)) {}) (λ_=>?_);have g2:(aB p)[i-1]? = some (aB p)[i-1]:=ZP {};have d2:(aB p).getD (i-1) 0=(aB p)[i-1]:=by rw[WS,g2];rfl
    exists _,J,_,J,_,_,J,J,x,_,_,J,J,I,(by rw[hL,show(0:Int)+(i:Int)-1=((i-1:Nat):Int) by lia];exact dm g2),⟨#[(aB p)[i-1]]⟩, "(,)", J,J,_,J;rw[StrLaws.found_one];rw[d2]at B;exact B
 obtain⟨H1,e1,s1,Y⟩:=cH hD (.lst (((List.range (aB p).length).filter (bO (aB p))).map λi:Nat=>V.int (0+(i:Int))));rw[e1];obtain⟨z0,z1⟩:=Dt (vi (RT ∅ ho));have hm:0∈(List.range (aB p).length).filter (bO (aB p)):=List.mem_filter.mpr ⟨List.mem_range.mpr z0,z1⟩;have Ln:((List.range (aB p).length).filter (bO (aB p))).length<=6500:=ZT (length_filter_le _ _) (by rw[length_range];exact hl);have hfp:=length_pos_of_mem hm;have M:(((List.range (aB p).length).filter (bO (aB p))).map λi:Nat=>V.int (0+(i:Int))).length=((List.range (aB p).length).filter (bO (aB p))).length:=ZK _;refine⟨_,J,_,J,_,J,D,_,J,.inl (ao.of Y),pen,_,J,P0.same s1,by rw[M];lia,by rw[M];lia,λv H2 k2 P2 v0 v1=>?_⟩;rw[M]at v1;obtain⟨k,rfl⟩:=Int.eq_ofNat_of_zero_le v0;have hk:k<((List.range (aB p).length).filter (bO (aB p))).length:={}
 have gk:((List.range (aB p).length).filter (bO (aB p)))[k]? = some (((List.range (aB p).length).filter (bO (aB p)))[k]):=ZP hk;have mk:=ZV gk;generalize ((List.range (aB p).length).filter (bO (aB p)))[k]=i at gk mk;obtain⟨i0,i1⟩:=List.mem_filter.mp mk;obtain⟨a,b,n,p',C⟩:=vb ho (List.mem_range.mp i0) i1;have hDp:D≠pen:=P0.fresh hD;exists D,_,_,.int (i:Int),J,J,ao.of (k2 _ _ hDp Y),dm (by rw[WE,gk];show some (V.int (0+(i:Int)))=_;rw[Int.zero_add]);exists _,J;have hno:=RS C.n0;have el:(aB p).length=i+((fg n).length+b.length):=by rw[C.t,ZM,ZM,C.l]
 have VP:∀ j,(Z:j<(fg n).length) -> ∃ c,(aB p)[i+j]? = some c/\dj c=false:=λj Z=>by
  refine⟨(fg n)[j],?_,hno _ (getElem_mem _)⟩;rw[C.t,<- C.l,WM {},Nat.add_sub_cancel_left,WO Z,ZP Z]
 have at2:(i+(fg n).length<(aB p).length) -> ∃ c,(aB p)[i+(fg n).length]? = some c/\dj c=true:=λhlt=>by
  rcases C.s with z | ⟨c,r,z,O⟩
  ·rw[z]at el;have el':(aB p).length=i+((fg n).length+0):=el;lia
  ·refine⟨c,?_,O⟩;rw[C.t,<- C.l,WM {},Nat.add_sub_cancel_left,WM (ZF _),Nat.sub_self,z];rfl
 refine DM (λσ G=>σ=[some (.ref pen),some (.str x),some (.ref D),some (.int (i:Int)),some (.int ((i+(fg n).length:Nat):Int))]/\G=H2) ?ex (λU=>⟨λm σ G=>∃ j:Nat,cP (m=(fg n).length-j) (j<=(fg n).length) (σ=[some (.ref pen),some (.str x),some (.ref D),some (.int (i:Int)),some (.int ((i+j:Nat):Int))]) (G=H2),
  ⟨_,0,J,ZX _,J,J⟩,?_⟩)
 rotate_left
 focus
  rintro m σ G ⟨j,rfl,Z,rfl,rfl⟩;exists _,J,_,J,x,J,I,_,_,J,J,_,J;rw[W];by_cases c1:i+j<(aB p).length
  ·rw[ZG (show((i+j:Nat):Int)<((aB p).length:Int) by lia)];have S:(aB p)[i+j]? = some (aB p)[i+j]:=ZP c1;refine bM ⟨_,J,_,J,x,_,_,J,J,I,by rw[hL];exact dm S,⟨#[(aB p)[i+j]]⟩, "(,)", J,J,_,J,?_⟩;rw[StrLaws.found_one,show decide ((aB p)[i+j]∈("(,)" : Str).cps.toList)=dj (aB p)[i+j]from J];by_cases c2:j<(fg n).length
   ·obtain⟨c,O,hd⟩:=VP j c2;rw[S]at O;cases O;rw[hd];refine bM ⟨λσ G'=>σ=[some (.ref pen),some (.str x),some (.ref D),some (.int (i:Int)),some (.int ((i+(j+1):Nat):Int))]/\G'=G,?_,?_⟩
    ·rintro σ G' ⟨rfl,rfl⟩;exact⟨_,{},j+1,J,c2,J,J⟩
    ·refine⟨_,J,_,_,J,J,?_,J⟩;show[some (V.ref pen),some (V.str x),some (V.ref D),some (V.int (i:Int)),some (V.int (((i+j:Nat):Int)+1))]=_;rw[show((i+j:Nat):Int)+1=((i+(j+1):Nat):Int) by lia]
   ·have je:j=(fg n).length:={}
    subst je;obtain⟨c,O,hd⟩:=at2 c1;rw[S]at O;cases O;rw[hd];exact aU (U _ _ ⟨J,J⟩)
  ·rw[ZS (show ¬((i+j:Nat):Int)<((aB p).length:Int) by lia)];have je:j=(fg n).length:={}
   subst je;exact aU (aU (U _ _ ⟨J,J⟩))
 case ex=>
  rintro σ G ⟨rfl,rfl⟩;have hfg:=fY (show okN n from⟨C.n0,Int.lt_of_le_of_lt C.n1 ∅⟩);have hn1:=C.n1;have hn0:=C.n0;have eta:(aB p).take i=a:=by rw[C.t,<- C.l,List.take_left'];rfl
  have Yu:Txt.slice x none (some (i:Int))=bI a:=by rw[o7 (by rw[hL];lia),hL,eta]
  have Yt:Txt.slice x (some (i:Int)) (some ((i+(fg n).length:Nat):Int))=bI (fg n):=by
   rw[Qz {} (by rw[hL];lia),hL,C.t,<- C.l,List.drop_left',Nat.add_sub_cancel_left,List.take_left']
   ·rfl
   ·rfl
  have Yr:Txt.slice x (some ((i+(fg n).length:Nat):Int)) none=bI b:=by
   rw[o8 (by rw[hL];lia),hL,C.t,<- C.l,<- drop_drop,List.drop_left',List.drop_left']
   ·rfl
   ·rfl
  have la:a.length<=6500:=by have:=C.l;lia
  have lb:b.length<=6500:={}
  have lt:=IK (n:=n+1) {} {};have lt':(Str.ofString (toString (n+1))).length<=51:=lt;have m1:=Ey a;have m2:=Ey b;exists _,J,_,J,_,J,x,J,I;rw[Yu];exists _,J,_,J,_,J,_,J,_,J,x,J,I;rw[Yt];obtain⟨r1,r2⟩:=zD (x:=bI (fg n)) hfg.2.1;exists bI (fg n),n,J,ZT r2 ∅,r1,_,_,J,J,_,J,cL {} {},_,_,J,J,aA {},_,J,_,J,_,J,x,J,I;rw[Yr];exists _,_,J,J,aA (by rw[mH];lia);have z:=q p' G C.b ((aq.same s1).trans k2) P2;rw[C.u]at z;rw[show Str.ofString (toString (n+1))=bI (fg (n+1))from J,Ij,Ij,YS];exact z
inductive Bb(K:Fg)(vs:List V)(H:Hp)(Q:VK)(E:XK):Prop
 |mk(pen b th:Addr)(low:Int)(L:Nat)(zs:List V)(ts:List TS.I3)(_:vs=[.ref pen,.ref b,.ref th])(_:aJ H pen)(_:H b=some (.tup [.int low,.int (L:Int)]))(_:L<=40)(_:H th=some (.lst zs))(_:th≠pen)(_:zs.length<=900)(_:Paired (fN K H) zs ts)(_:(∀ t∈ts,low<=t.1/\t.1<low+2^L))(_:∀(n:Int)(H':Hp),aq pen H H'->aJ H' pen->low-1<=n->n<=low+2^L->Q (.int n) H')
inductive Sm(K:Fg)(vs:List V)(H:Hp)(Q:VK)(E:XK):Prop
 |mk(D:Addr)(xs:List V)(ps:List P2)(r:P2)(_:vs=[.ref D])(_:ao K H D xs)(_:cB H xs ps)(_:ps.length<=1000)(_:xG ps=some r)(_:∀(v:V)(H':Hp),ag H H'->tH H' v (some r)->Q v H')
def mF:z.C P w 3 "_law_number" K0 (Bb K):=by
 have sc:=Rt;specialize z.hX;obtain⟨pen,b,th,low,L,zs,ts,rfl,P0,hb,hL,S,O,kj,hT,hw,q⟩:=h;refine⟨_,(aj (gK (aW (PW.pt (iV (aN (vt hr.units) bv (zX fU)) (mu (aN cD (aC (fO z) hr (aY kb ah)) ah))))
 (az (ae lW (ae dk (aG bh (aG cS bv (aC (fO z) hr (aY kb (dH z.bE (ar bv))))) ah) (aC (fO z) hr (aY kb ah))) ah))))
 (aj (aF 3 sc.nd (ae lW (ae dk (aG bh kv ah) (ae u4 ah (aG bh kv ah))) ah))
 (az (aG cS (zX (dI (ae lW (aG bh kv ah) ah) (aG bh kv ah) bi (ae dk bi ah))) (aC (fO z) hr (aY kb ah)))))),?_⟩
 symm;have hbp:=P0.ne hb;have hp:=qH hL;have hq:=b7 L;exists λσ G=>σ=[some (.ref pen),some (.ref b),some (.ref th),none]/\aq pen H G/\aJ G pen,?_
 ·refine⟨aZ J,λe he=>?_⟩;obtain⟨H3,g3,N,h3⟩:=cH he (.lst []);rw[g3];exists th,e,zs,J,J,ao.of (N _ _ S),ao.of h3;have P3:=P0.same N;cases hz:zs with
  | nil=>rw[show(!([]:List V).isEmpty)=false from J];exact aU (aU ⟨J,aq.same N,P3⟩)
  | cons z0 Y=>
   rw[show(!(z0::Y).isEmpty)=true from J];have jJ:0<zs.length:=by rw[hz];exact Nat.succ_pos _
   refine bM ⟨pen,4,J,P3,∅,∅,λi H4 U P4 i0 i1=>?_⟩;refine aT (λc=>?_) (λc=>?_)
   ·have M:=U _ _ O (N _ _ S);refine⟨th,zs,J,.inl (ao.of M),pen,_,J,P4,{},{},λj H5 Z P5 j0 j1=>?_⟩;obtain⟨n,rfl⟩:=Int.eq_ofNat_of_zero_le j0;have W:n<zs.length:={}
    obtain⟨t,ht,p,ep,B⟩:=IF (d7 (P4.tk Z) (d7 (P3.tk U) (d7 (.same N) hT))) (ZP W);have JD:=hw t (ZV ht);refine⟨zs,_,ao.of (Z _ _ O M),dm ((ZP W).trans (congrArg some ep)),_,_,B,J,pen,3,J,P5,∅,∅,λy H6 k6 P6 y0 y1=>?_⟩;exact q _ _ ((aq.same N).trans (U.trans (Z.trans k6))) P6 {} {}
   ·exact⟨J,(aq.same N).trans U,P4⟩
 ·rintro σ G ⟨rfl,kG,PG⟩;have I:=kG _ _ hbp hb;exists _,_,au.of I,J,_,_,au.of I,J,_,_,J,J,⟨{},{},∅⟩
  refine⟨_,_,au.of I,J,_,_,au.of I,J,aZ J,λp4 B=>?_⟩;obtain⟨H4,g4,s4,h4⟩:=cH B (.lst [.int (low-1),.int low,.int (low+1*2^(L:Int).toNat-1),.int (low+1*2^(L:Int).toNat-1+1)]);rw[g4];have P5:=PG.same s4;refine⟨pen,4,J,P5,∅,∅,λi H7 k7 P7 i0 i1=>?_⟩;obtain⟨n,hm,W⟩:=vM (l:=[low-1,low,low+1*2^(L:Int).toNat-1,low+1*2^(L:Int).toNat-1+1]) i0 i1;exists _,_,ao.of (k7 _ _ (PG.fresh B) h4),W;rw[show(L:Int).toNat=L from J]at hm;simp only[mem_cons,not_mem_nil,or_false]at hm;exact q _ _ (kG.trans ((aq.same s4).trans k7)) P7 {} {}
def pI:z.C P w 1 "_law_best" ["_law_told"] (Sm K):=by
 have sc:=Qc;specialize z.j2;obtain⟨D,xs,ps,r,rfl,hD,O,hl,hr,q⟩:=h;refine⟨_,(aj (aF 1 sc.nd (aG cS kb ah))
 (aj (pO bn J (cw kb) (cq 2 sc.nd)
 (bF (aW (aN cD (aG bh bv ah) (aG bh kv ah))
 (bF (aF 1 sc.nd bv)))))
 (az kv))),?_⟩
 symm;have B:=O.1
 obtain _ | ⟨p0,Bu⟩:=ps
 ·cases hr
 obtain _ | ⟨S,Wa⟩:=xs
 ·cases B
 ·have hA0:=O.2 0 S p0 J J;have e0:cQ (some p0) p0=some p0:=by show(if _ then _ else _)=_;rw[ZJ (Int.lt_irrefl _)]
  exists _,_,hD,dm (j:=0) J;refine⟨D,J,⟨_,hD⟩,iT (K:=K) (a:=D) (xs:=S::Wa) (λi σ G=>bR λ(v:V) (U:Option V) (b:P2)=>cP (σ=[some (.ref D),some v,U]) (ag H G) (((p0::Bu).take i).foldl cQ (some p0)=some b) (tH G v (some b))) ⟨S,_,p0,J,ag.refl H,J,hA0⟩ (λi σ G _ ⟨_,_,_,_,s,_,_⟩=>s.seq hD) ?_ ?_⟩
  ·rintro i x σ G hx ⟨v,U,b,rfl,I,M,W⟩;obtain⟨p,hp,a,rfl,ha⟩:=O.get hx;obtain⟨a1,rfl,N⟩:=W;have et:((p0::Bu).take (i+1)).foldl cQ (some p0)=cQ (some b) p:=by rw[WK,hp,foldl_append,M];rfl
   exists _,_,au.of (I _ _ ha),J,_,_,au.of N,J;refine aT (λc=>?_) (λc=>?_)
   ·refine⟨_,_,p,J,I,?_,⟨a,J,I _ _ ha⟩⟩;rw[et];show(if _ then _ else _)=_;rw[ZL (ZI c)]
   ·refine⟨_,_,b,J,I,?_,⟨a1,J,N⟩⟩;rw[et];show(if _ then _ else _)=_;rw[ZJ (λz=>c (ZG z))]
  ·rintro σ G ⟨v,U,b,rfl,I,M,W⟩;have Z:(S::Wa).length=(p0::Bu).length:=B;rw[Z,WR,foldl_cons,e0]at M;have Y:Bu.foldl cQ (some p0)=some r:=hr;rw[Y]at M;cases M;exact q v G I W
def fh.pen{H H':Hp}{pen:Addr}{xs:List V}(t:fh H)(k:aq pen H H')(e:H pen=some (.lst xs)):fh H':=λq hq=>by
 obtain⟨ps,h1,h2,M⟩:=t q hq;exists ps,k _ _ (bc h1 e (by intro z;cases z)) h1,h2;rcases M with h | ⟨N,I,vs,B,a,b,d⟩
 ·exact .inl h
 ·exact .inr ⟨N,I,vs,B,a,k _ _ (bc b e (by intro z;cases z)) b,d⟩
def jg.pen{K:Fg}{H H':Hp}{b B pen:Addr}{xs:List V}{low:Int}{L:Nat}{gs:List G3}{ys:List V}(g:jg K H b B xs low L gs)(k:aq pen H H')(e:H pen=some (.lst ys))(n:B≠pen):jg K H' b B xs low L gs:=
 ⟨k _ _ (bc g.b e (by intro z;cases z)) g.b,g.le,k _ _ n g.g,g.at_.tk (.keep k e),g.gd,g.ln,g.eS,g.tb.pen k e⟩
def eK(pen:Addr)(H H':Hp):Prop:=∀ a o,a≠pen->(∀ ps,o ≠ .fG ps)->H a=some o->H' a=some o
def eK.of(k:aq pen H H'):eK pen H H':=λa o n _ e=>k a o n e
def eK.ot(k:ed H H'):eK pen H H':=λa o _ n e=>k a o n e
def eK.trans(a:eK pen H H1)(b:eK pen H1 H2):eK pen H H2:=by
 grind [eK]
def eK.l(k:eK pen H H')(n:a≠pen)(h:H a=some (.lst xs)):H' a=some (.lst xs):=k _ _ n (by intro _ z;cases z) h
def aJ.kt(P:aJ H pen)(k:ed H H'):aJ H' pen:=by obtain⟨c,b,n,h⟩:=P;exact⟨c,b,n,k.l h⟩
def oJ{low:Int}{L:Nat}(h:fD low L us wd ns ψ)(h':fD low L us wd ns ψ'):ψ=ψ':=by
 cases h with
 | below n=>cases h';rfl
 | least k O=>cases h';rfl
 | most wo m M=>
  cases h' with
  | most I N B=>rw[M]at B;cases B;rfl
 | aL n S h1=>cases h';rfl
 | up n=>cases h';rfl
structure Cq(ws ms:List Int)(q q':Qs):Prop where
 is:q.is ws ms
 uz:q.uz q'
 ne:q.ne q'=true
 j9:q.j9
 I0:cA q.tk q.tv
 IZ:cA q'.tk q'.tv
def qV{ws:List Int}{ps:List P2}(hp:ps.Pairwise λp q=>p.1<q.1)(I:∀ w m,(w,m)∈ps↔(m=((ws.count w:Nat):Int)/\0<m)):(ps.map (·.1)).Pairwise (·<·)/\(∀ x,x∈ps.map (·.1)↔x∈ws)/\bj ws (ps.map (·.1))=ps:=by
 exists by rw[pairwise_map];exact hp,λx=>⟨λh=>?_,λh=>?_⟩
 ·obtain⟨⟨w,m⟩,hm,rfl⟩:=eE h;obtain⟨h1,h2⟩:=(I w m).mp hm;exact List.count_pos_iff.mp (by show 0<ws.count w;lia)
 ·have:=List.count_pos_iff.mpr h;exact List.mem_map.mpr ⟨(x,((ws.count x:Nat):Int)),(I x _).mpr ⟨J,{}⟩,J⟩
 ·unfold bj;rw[map_map];refine Eq.trans (map_congr_left λp B=>?_) (map_id ps);exact Prod.ext J ((I p.1 p.2).mp B).1.symm
def yS(l:List P2):tL (l.take 1)=tX l.head?:=by
 cases l with
 | nil=>rfl
 | cons p l=>rfl
theorem pH:∀{l m:List Int},l.Nodup->(∀ x∈l,x∈m)->l.length<=m.length
 | [],m,_,_=>ZX _
 | x::l,m,h,hs=>by
  have h1:=List.nodup_cons.mp h;have I:=hs x (ZQ ..);have M:=pH (m:=m.erase x) h1.2 λy B=>(mem_erase_of_ne (λ(e:y=x)=>h1.1 (by rw[<- e];exact B))).mpr (hs y (ZU _ B));rw[length_erase_of_mem I]at M;have:=length_pos_of_mem I;rw[WB];lia
def Ki(l:List V):dO l none (some 1)=l.take 1:=by
 unfold dO;rw[show(some (1:Int))=some ((1:Nat):Int)from J,HT.Q13,HT.Kq];cases l with
 | nil=>rfl
 | cons a r=>rw[YH (by rw[WB];lia)];rfl
structure Aw(K:Fg)(pen b th pl ol:Addr)(low:Int)(L:Nat)(gs:List G3)(ts:List TS.I3)(ps:List P2)(zs xs os:List V)(H G:Hp):Prop where
 k:aq pen H G
 p:aJ G pen
 g:jg K G b pl xs low L gs
 hl:G th=some (.lst zs)
 hz:Paired (fN K G) zs ts
 ho:G ol=some (.lst os)
 hp:cB G os ps
 nl:th≠pen
 no:ol≠pen
 ng:pl≠pen
def jg.same{K:Fg}{H H':Hp}{b B:Addr}{xs:List V}{low:Int}{L:Nat}{gs:List G3}(g:jg K H b B xs low L gs)(s:ag H H'):jg K H' b B xs low L gs:=g.kp (ed.of s) (g.tb.same s)
section
variable {K:Fg}{pen b th pl ol:Addr}{low:Int}{L:Nat}{gs:List G3}{ts:List TS.I3}{ps:List P2}{zs xs os:List V}{H G G':Hp}
def Aw.same(a:Aw K pen b th pl ol low L gs ts ps zs xs os H G)(s:ag G G'):Aw K pen b th pl ol low L gs ts ps zs xs os H G':=
 ⟨a.k.trans (aq.same s),a.p.same s,a.g.same s,s _ _ a.hl,d7 (.same s) a.hz,s _ _ a.ho,a.hp.same s,a.nl,a.no,a.ng⟩
def Aw.pk(a:Aw K pen b th pl ol low L gs ts ps zs xs os H G)(k:aq pen G G')(P:aJ G' pen):Aw K pen b th pl ol low L gs ts ps zs xs os H G':=by obtain⟨ys,e⟩:=a.p.at;have tk:aw G G':=.keep k e;exact⟨a.k.trans k,P,a.g.pen k e a.ng,k _ _ a.nl a.hl,d7 tk a.hz,k _ _ a.no a.ho,EA a.hp tk,a.nl,a.no,a.ng⟩
end
def qm{xs:List V}{ps:List P2}(h:cB H xs ps)(n:Nat):cB H (xs.take n) (ps.take n):=⟨by rw[WL,WL,h.1],λj x p h1 h2=>by
 rw[getElem?_take]at h1 h2;split at h1
 ·rename_i c;rw[ZL c]at h2;exact h.2 j x p h1 h2
 ·cases h1⟩
def qp{xs:List V}{ps:List P2}(h:cB H xs ps)(n:Nat):cB H (xs.drop n) (ps.drop n):=⟨by rw[length_drop,length_drop,h.1],λj x p h1 h2=>by
 rw[getElem?_drop]at h1 h2;exact h.2 _ x p h1 h2⟩
inductive mQ(K:Fg)(vs:List V)(H:Hp)(Q:VK)(E:XK):Prop
 |mk(pen b th pl:Addr)(zs xs:List V)(ts:List TS.I3)(low:Int)(L:Nat)(gs:List G3)(_:vs=[.ref pen,.ref b,.ref th,.ref pl])(_:aJ H pen)(_:jg K H b pl xs low L gs)(_:pl≠pen)(_:-(10^45)<low)(_:low<10^45)(_:H th=some (.lst zs))(_:th≠pen)(_:Paired (fN K H) zs ts)(_:ts.length<=15)(_:bz low L (ts.map (·.1)))(_:(ts.map (·.1)).Pairwise (· <= ·))(_:(bD low (ts.map (·.1))).Perm (Wh gs))(_:∀(a ml:Addr)(v:V)(q q':Qs)(ms:List Int)(H':Hp),eK pen H H'->aJ H' pen->fh H'->Cq (ts.map (·.1)) ms q q'->ms.Pairwise (·<·)->(∀ x,x∈ms↔x∈ts.map (·.1))->H' a=some (.tup [.str q.wd,.ref ml,.str q.tv.wd,.str q'.tv.wd,v])->H' ml=some (.lst ((q.nm.map tx).map V.str))->bt H' v (q.pap low L (Wh gs))->Q (.ref a) H')
def Qw:z.C P w 50 "_law_asked" K1 (mQ K):=by
 have sc:=AE;specialize z.ja;obtain⟨pen,b,th,pl,zs,xs,ts,low,L,gs,rfl,P0,g0,Y5,lo,hi,Ld,Ts,hz,B6,hw,nA,ko,q⟩:=h;refine⟨_,(aj (aF 4 sc.nd (aC (Ak z) hr (ar bv)))
 (aj (aF 5 sc.nd (aC (fO z) hr (aY kb ah)))
 (aj (aF 6 sc.nd (aC (mF z) hr (bW kb kv bv)))
 (aj (gK (aW (PW.pt (iV (aN av (pr 5) ah) (mu (aN (vt hr.units) bv (tS fU)))))
 (aj (aF 7 sc.nd (aC (fO z) hr (aY kb (dH z.bE (ar bv)))))
 (aj (aF 8 sc.nd (aG bh (aG cS bv (pr 7)) ah))
 (az (tT (dA aR (dI (tS (ar (ei gD () z.cj kh (ar (pr 7))))) (ei gD () z.cj kh (ar (pr 8))) (ei gD () z.cj kh (ar (ae dk (pr 8) ah))) (aC (S4 z) hr (bW kv bi (pr 7)))))))))))
 (aj (gK (aW (PW.pt (iV (aN av (pr 5) ah) (mu (aN (vt hr.units) bv (tS fU)))))
 (aj (HI (aC (pI z) hr (ar (pr 4))) (IE J (cF (cq 8 sc.nd) (cF (cq 9 sc.nd) jq))))
 (aj (aF 10 sc.nd (ae dR (ae dR (ei gD () z.cj kh (ar (pr 8))) aR) (ei gD () z.cj kh (ar (ae dk (pr 9) ah)))))
 (az (tT (dA aR (dI (tS fU) (aC (mw z) hr (ar (tS (ar (tT (aY (pr 8) (pr 9))))))) (pr 10) (aC (vD z) hr (aY kv bi))))))))))
 (aj (aW (aN av (pr 5) ah)
 (aj (aF 11 sc.nd (ae dk ah (aC (fO z) hr (aY kb ah))))
 (aj (ID (i:=12) (cl:=[("_law_things_here", s.heap.objs.size+1+0),("_law_part", s.heap.objs.size+1+2)]) (cn:=["_law_things_here", "_law_part"]) (N:=["_law_part", "_law_things_here"]) (fr:=[11,2]) (bB:=aI ya) sc.nd J (Or.inl J) J (cw (pr 4)) (λC s₂ H₂ fp=>kb) (λC s₂ H₂ fp=>(aN cD (ae m5 (aG (kW (K:=K) J) kb ah) kv) (cK (Nf (K:=K) J) () z.bE Hq (ar bv)))) (by ac_rfl) ⟨by ac_rfl,by ac_rfl,trivial⟩ J J J eT J (by ac_rfl) (.inl J))
 (aj (aF 10 sc.nd (ae Qu (Am AW (pr 12) (yf ah) Mt) (tS (ar (tT (aY (aG bh kv ah) ah))))))
 (az (tT (dA aR (dI (tS (ar (ei gD () z.cj kh (ar (pr 11))))) (aC (mw z) hr (ar (pr 12))) (aC (mw z) hr (ar (pr 10))) (aC (S5 z) hr (bW kv bi (pr 11)))))))))))
 (aj (aW (aN av (pr 5) ah)
 (aj (aF 12 sc.nd (Am AW (fV (cl:=[("_law_number_here", s.heap.objs.size+1+1)]) (cn:=["_law_number_here"]) (N:=["_law_number_here"]) (fr:=[6]) (bB:=aI ya) J (cw (pr 4)) (λC s₂ H₂ fp=>kb) (λC s₂ H₂ fp=>(aN cD (aG (kW (K:=K) J) kb ah) kv)) (by ac_rfl) ⟨by ac_rfl,trivial⟩ J J J eT J) Mt (yf ah)))
 (aj (aF 10 sc.nd (tS (ar (tT (aY (ae dk (pr 6) ah) (ae dk (dH z.bE (ar bv)) ah))))))
 (az (tT (dA aR (dI (tS (ar (ei gD () z.cj kh (ar (pr 6))))) (aC (mw z) hr (ar (pr 12))) (aC (mw z) hr (ar (pr 10))) (aC (G_ z) hr (bW kv bi (pr 6))))))))))
 (aj (aF 9 sc.nd (dH z.bE (ar (fV (cl:=[("_law_number_here", s.heap.objs.size+1+1)]) (cn:=["_law_number_here"]) (N:=["_law_number_here"]) (fr:=[6]) (bB:=aI ya) J (cw bv) (λC s₂ H₂ fp=>kb) (λC s₂ H₂ fp=>(aN bS (aG (kW (K:=K) J) kb ah) kv)) (by ac_rfl) ⟨by ac_rfl,trivial⟩ J J J eT J))))
 (az (tT (dA aR (dI (tS (ar (ei gD () z.cj kh (ar (pr 6))))) (ei gD () z.cj kh (ar (pr 9))) (ei gD () z.cj kh (ar (ae dk (pr 9) ah))) (aC (Ip z) hr (bW kv bi (pr 6))))))))))))))),?_⟩
 symm;have hL:=g0.le;have UI:=CA hL;have yp:=b7 L;have oh:fE L (Wh gs):=ib g0.gd;have kj:=nh hz;have jI:(ts.map (·.1)).length=ts.length:=ZK _;have CK:(Wh gs).length=ts.length:=by rw[<- ko.length_eq,ZK,jI]
 refine b_ λN1 y1=>?_;refine⟨th,zs,ts,J,ao.of Ld,hz,{},λH1 ol os ps s1 CQ UJ Lg Lh eQ=>?_⟩;obtain⟨hs,hm,JF⟩:=qV Lh eQ;have K5:ol≠pen:=P0.fresh UJ;have a1:Aw K pen b th pl ol low L gs ts ps zs xs os H H1:=⟨aq.same s1,P0.same s1,g0.same s1,s1 _ _ Ld,d7 (.same s1) hz,CQ,Lg,Ts,K5,Y5⟩
 generalize UO:ps.map (·.1)=ms at *;generalize JE:ts.map (·.1)=ws at *;have B4:∀ p∈ps,p.1∈ws/\p.2=((ws.count p.1:Nat):Int)/\0<p.2:=λp hp=>by
  obtain⟨h1,h2⟩:=(eQ p.1 p.2).mp hp;exact⟨List.count_pos_iff.mp {},h1,h2⟩
 have km:∀ p∈ps,mi p:=λp hp=>by
  obtain⟨h1,h2,h3⟩:=B4 p hp;have:=hw p.1 h1;have hc:ws.count p.1<=ws.length:=count_le_length;exact⟨⟨{},{}⟩,{},{}⟩
 have Li:ps.length<=15:=by
  have h1:(ps.map (·.1)).Nodup:=by rw[UO];exact hs.imp λh=>Int.ne_of_lt h
  have h2:=pH h1 (m:=ws) λx hx=>by rw[UO]at hx;exact(hm x).mp hx
  rw[ZK]at h2;lia
 have fin:∀(qq q':Qs)(ψ:List Int->Bool)(S a:Addr)(G G6:Hp)(v:V),aq pen H G->aJ G pen->ed G G6->fh G6->G S=some (.lst ((qq.nm.map tx).map V.str))->bt G6 v (bH (f3 ψ) L low (Wh gs))->fD low L (Wh gs) qq.wd qq.nm ψ->Cq ws ms qq q' -> ∀ G7,ag G6 G7->G7 a=some (.tup [.str qq.wd,.ref S,.str qq.tv.wd,.str q'.tv.wd,v])->Q (.ref a) G7:=λqq q' ψ S a G G6 v kG PG k6 t6 Xc hv tw ak G7 Y h7=>by
  have e:ψ=qq.yg (Wh gs).length:=oJ tw (Qs.rn hs hm nA oh ko ak.is);rw[e]at hv;exact q a S v qq q' ms _ ((eK.of kG).trans ((eK.ot k6).trans (eK.of (aq.same Y)))) ((PG.kt k6).same Y) (t6.same Y) ak hs hm h7 (Y _ _ (k6.l Xc)) (hv.same Y)
 refine y1 _ _ (b_ λN2 y2=>?_);refine⟨pen,5,J,a1.p,∅,∅,λway H2 k2 P2 w0 w5=>?_⟩;have a2:=a1.pk k2 P2;have Zv:∀ t∈ts,low<=t.1/\t.1<low+2^L:=λt ht=>hw t.1 (by rw[<- JE];exact mem_map_of_mem ht);refine y2 _ _ (b_ λN3 y3=>?_);refine⟨pen,b,th,low,L,zs,ts,J,a2.p,a2.g.b,hL,a2.hl,Ts,{},a2.hz,Zv,λnum H3 k3 P3 n0 n1=>?_⟩;have a3:=a2.pk k3 P3;clear a1 a2 y1 y2;refine y3 _ _ (b_ λN4 y4=>?_);exists λσ G=>σ=[some (.ref pen),some (.ref b),some (.ref th),some (.ref pl),some (.ref ol),some (.int way),some (.int num),none,none,none,none,none,none]/\Aw K pen b th pl ol low L gs ts ps zs xs os H G,?_
 ·refine⟨J,aT (λc=>?_) (λc=>aU ⟨J,a3⟩)⟩;refine⟨aZ J,λe he G1 s1 h1=>?_⟩;have a4:=a3.same s1;exists th,e,zs,J,J,ao.of a4.hl,ao.of h1;cases JB:zs with
  | nil=>rw[show(!([]:List V).isEmpty)=false from J];exact aU ⟨J,JB▸a4⟩
  | cons z0 C8=>
   rw[show(!(z0::C8).isEmpty)=true from J];have jJ:0<zs.length:=by rw[JB];exact Nat.succ_pos _
   refine bM ?_;refine⟨th,zs,J,.inl (ao.of a4.hl),pen,_,J,a4.p,{},{},λkk B k2 P2 k0 k1=>?_⟩;obtain⟨k,rfl⟩:=Int.eq_ofNat_of_zero_le k0;have a5:=a4.pk k2 P2;have hk:k<zs.length:={}
   obtain⟨v,hv,p',ep,B5⟩:=IF a5.hz (ZP hk);have gw:ws[k]? = some v.1:=by rw[<- JE,WE,hv];rfl
   have bw:=hw v.1 (ZV gw);exists zs,_,ao.of a5.hl,dm ((ZP hk).trans (congrArg some ep)),_,_,B5,J;refine⟨_,J,cL {} {},aZ J,λS Xc G3 s3 h3=>?_⟩;replace h3:G3 S=some (.lst [.str (tx (k:Int))]):=h3;have a6:=a5.same s3;exists _,J,cL {} {},_,J,cL {} {};refine⟨b,pl,xs,low,k,L,gs,J,a6.g,{},λG6 vv k6 t6 U=>⟨aZ J,λa _ GZ sz ez=>?_⟩⟩;refine fin (.least k v.1) (.least k (v.1+1)) _ S a G3 G6 vv a6.k a6.p k6 t6 h3 U (.least k {}) ⟨gw,J,?_,by show(k:Int)<10^50;lia,⟨⟨{},{}⟩,.inr (.inl J)⟩,⟨⟨{},{}⟩,.inr (.inl J)⟩⟩ _ sz ez;show(!decide (v.1+1=v.1))=true;rw[ZS {}];rfl
 rintro σ G ⟨rfl,O⟩;clear a3;refine y4 _ _ (b_ λN5 y5=>?_);have JT:=O.hp.1;exists λσ G=>σ=[some (.ref pen),some (.ref b),some (.ref th),some (.ref pl),some (.ref ol),some (.int way),some (.int num),none,none,none,none,none,none]/\Aw K pen b th pl ol low L gs ts ps zs xs os H G,?_
 ·refine⟨J,aT (λc=>?_) (λc=>aU ⟨J,O⟩)⟩;refine⟨aZ J,λe he G1 s1 h1=>?_⟩;have a4:=O.same s1;exists th,e,zs,J,J,ao.of a4.hl,ao.of h1;cases JB:zs with
  | nil=>rw[show(!([]:List V).isEmpty)=false from J];exact aU ⟨J,JB▸a4⟩
  | cons z0 C8=>
   rw[show(!(z0::C8).isEmpty)=true from J];have jJ:0<zs.length:=by rw[JB];exact Nat.succ_pos _
   have eP:ps≠[]:=λz=>by
    obtain⟨x,hx⟩:=List.exists_mem_of_length_pos (l:=ws) {};have:=(hm x).mpr hx;rw[<- UO,z]at this;cases this
   obtain⟨⟨wo,m⟩,J2,W5,_⟩:=O0 eP;have Uy:=B4 _ W5;have CP:mi (wo,m):=km _ W5;have hr5:(ws.count wo:Int)=m:=Uy.2.1.symm;have hr6:ws.count wo<=ws.length:=count_le_length;have hr7:=hw wo Uy.1;refine bM ⟨ol,os,ps,(wo,m),J,ao.of a4.ho,a4.hp,{},J2,λv B s2 hv=>?_⟩;obtain⟨ra,rfl,CN⟩:=hv;have a5:=a4.same s2;exists ra,_,J,au.of CN,J,_,_,J,_,_,J,J;have l1:=IK (n:=wo) {} {};have l2:=IK (n:=m+1) {} {};have lc:(":" : Str).length=1:=⟨⟩
   exists _,J,cL (by show _<wo;lia) (by show wo<_;lia),_,_,J,J,aA (by show(tx wo).length+_<=_;lia),_,J,cL (by show _<m+1;lia) (by show m+1<_;lia),_,_,J,J,aA (by show(tx wo ++ ":").length+(tx (m+1)).length<=_;rw[mH];lia);refine⟨aZ J,λS Xc G3 s3 h3=>?_⟩;refine⟨aZ J,λtp tZ G4 s4 h4=>⟨aZ J,λll yr G5 s5 h5=>?_⟩⟩;rw[show((wo,m):Int×Int).1=wo from J,show((wo,m):Int×Int).2=m from J]at *;refine⟨ll,[.ref tp],[(wo,m)],J,ao.of h5,Gg ⟨tp,J,s5 _ _ h4⟩,λp hp=>by rw[eD hp];exact CP,by show 1<=1000;decide,λG6 s6=>?_⟩;have Yq:=s3.trans (s4.trans (s5.trans s6));have a6:=a5.same Yq;refine⟨b,pl,xs,low,wo,m,L,gs,J,a6.g,?_,λG7 vv k7 t7 U=>⟨aZ J,λa _ GZ sz ez=>?_⟩⟩
   ·rw[<- Au oh (by
     have h1:=ko.map λo=>low+o;rw[map_map,show((λo:Int=>low+o)∘λn=>n-low)=id from funext λo=>by show low+(o-low)=o;lia,map_id]at h1;exact h1) hm hs,JF]
    exact J2
   have e0:xG (bj ws ms)=some (wo,m):=by rw[JF];exact J2
   refine fin (.most wo m) (.most wo (m+1)) _ S a G6 G7 vv a6.k a6.p k7 t7 (by show G6 S=some (.lst []);exact s6 _ _ (s5 _ _ (s4 _ _ h3))) U (.most wo m ?_) ⟨e0,trivial,?_,trivial,⟨J,CP⟩,⟨J,⟨CP.1,by have:=Uy.2.2;show 0<=m+1;cutsat,by show m+1<_;cutsat⟩⟩⟩ _ sz ez
   ·rw[<- Au oh (by
     have h1:=ko.map λo=>low+o;rw[map_map,show((λo:Int=>low+o)∘λn=>n-low)=id from funext λo=>by show low+(o-low)=o;lia,map_id]at h1;exact h1) hm hs]
    exact e0
   ·show(!decide ((wo,m+1)=(wo,m)))=true;rw[ZS (λz=>by have:=(Prod.ext_iff.mp z).2;have:m+1=m:=this;lia)];rfl
 rintro σ G ⟨rfl,O⟩;refine y5 _ _ (b_ λN6 y6=>?_);refine⟨J,aT (λc=>?_) (λc=>y6 _ _ (b_ λN7 y7=>?_))⟩
 ·refine⟨pen,6,J,O.p,∅,∅,λv G1 k1 P1 v0 v6=>?_⟩;have O:=O.pk k1 P1;have og:1<=(1+v)/\(1+v)<=6:={}
  clear k1 P1;generalize G1=G at *;refine⟨ol,J,⟨_,ao.of O.ho⟩,λD3 Z=>?_⟩;refine yb (K:=K) (xs:=os) (aA {}) (λi us B=>cB B us ((ps.take i).filter λp=>decide ((ws.length:Int)<p.2*(1+v)))/\us.length<=i/\ag G B/\B D3=some (.lst us)) ⟨DH,ZF _,aM Z _,ax⟩ (λi us B ⟨_,_,e,_⟩=>e.seq (ao.of O.ho)) (λi us B ⟨_,W,_,I⟩=>⟨I,W⟩) ?_ ?_
  ·rintro i x us B hx ⟨e0,W,M,I⟩;have hi:=(ac hx).1;obtain⟨p,hp,pa,rfl,ha⟩:=O.hp.get hx;have et:ps.take (i+1)=ps.take i++[p]:=by rw[WK,hp];rfl
   rw[et];have hpv:=B4 p (ZV hp);have rA:ws.count p.1<=ws.length:=count_le_length;exists _,_,au.of (M _ _ ha),J,_,_,J,J,.inr ⟨{},{}⟩,th,zs,J,.inl (M.seq (ao.of O.hl));rw[kj,<- jI];refine aT (λc=>?_) (λc=>?_)
   ·have tk:aw B (upd B D3 (.lst (us++[.ref pa]))):=aw.set I;refine⟨I,?_,by rw[ZM];exact Nat.succ_le_succ W,ag.own M Z,ax⟩;rw[YW,filter_cons_of_pos (p:=λp:Int×Int=>decide ((ws.length:Int)<p.2*(1+v))) c,filter_nil];exact(EA e0 tk).app (Gg (tH.tk (o:=some p) ⟨pa,J,M _ _ ha⟩ tk))
   ·refine⟨_,{},J,{},?_,{},M,I⟩;rw[YW,filter_cons_of_neg (p:=λp:Int×Int=>decide ((ws.length:Int)<p.2*(1+v))) c,filter_nil,append_nil];exact e0
  ·rintro us B ⟨e0,W,M,I⟩;rw[JT,WR]at e0;generalize JM:ps.filter (λp=>decide ((ws.length:Int)<p.2*(1+v)))=rt at *;have Le:∀ p∈rt,p∈ps:=λp hp=>by rw[<- JM]at hp;exact(List.mem_filter.mp hp).1
   have t9:rt.length<=15:=by rw[<- JM];exact ZT (length_filter_le _ _) Li
   have a2:=O.same M;have JI:=e0.1;refine⟨_,J,D3,us,J,ao.of I,λp4 rB=>?_⟩;rw[SG];obtain⟨G3,g3,s3,h3⟩:=cH rB (.lst (us.drop 1));rw[g3];refine⟨_,_,au.of (s3 _ _ a2.g.b),J,aZ J,λtp tZ G4 s4 h4=>?_⟩;refine⟨aZ J,λll yr G5 s5 h5=>?_⟩;refine⟨p4,ll,_,_,J,J,s5 _ _ (s4 _ _ h3),h5,aA (by rw[length_drop];show _+1<=_;lia),λp6 UG=>?_⟩;obtain⟨G6,g6,s6,h6⟩:=cH UG (.lst (us.drop 1++[.ref tp]));rw[g6];have x6:=s3.trans (s4.trans (s5.trans s6));have hA:cB G6 (us.drop 1++[.ref tp]) (rt.drop 1++[(low,0)]):=(qp (e0.same x6) 1).app (Gg ⟨tp,J,s6 _ _ (s5 _ _ h4)⟩);have rz:∀ p∈rt.drop 1++[(low,0)],mi p:=λp hp=>by
    rcases eC hp with h | h
    ·exact km p (Le p (mem_of_mem_drop h))
    ·rw[eD h];exact⟨⟨by show _<low;lia,by show low<_;lia⟩,by show(0:Int)<=0;decide,by show(0:Int)<10^50;decide⟩
   have hlw:(rt.drop 1++[(low,0)]).length<=16:=by rw[ZM,length_drop];show _+1<=16;lia
   refine⟨_,J,cL {} {},aZ J,λS Xc G7 Y h7=>?_⟩;replace h7:G7 S=some (.lst [.str (tx (1+v))]):=h7;refine⟨D3,us,rt,J,ao.of (Y _ _ (x6 _ _ I)),e0.same (x6.trans Y),λp hp=>km p (Le p hp),{},λG8 s8=>?_⟩;refine⟨p6,_,_,J,ao.of (s8 _ _ (Y _ _ h6)),(hA.same Y).same s8,rz,{},λG9 s9=>?_⟩;have a9:=a2.same (x6.trans (Y.trans (s8.trans s9)));refine⟨b,pl,xs,low,(1+v),L,gs,J,a9.g,{},{},λG10 vv Jn Dp U=>⟨aZ J,λa _ GZ sz ez=>?_⟩⟩;have JV:(Qs.aL (1+v) rt).is ws ms:=⟨og.1,{},by rw[JF];exact JM.symm⟩
   refine fin (.aL (1+v) rt) (.aL (1+v) (rt.drop 1++[(low,0)])) _ S a G9 G10 vv a9.k a9.p Jn Dp (s9 _ _ (s8 _ _ h7)) U (.aL (1+v) {} {}) ⟨JV,J,?_,⟨og.1,{}⟩,⟨J,{},λp hp=>km p (Le p hp)⟩,⟨J,{},rz⟩⟩ _ sz ez;show(!decide (rt.drop 1++[(low,0)]=rt))=true;rw[ZS λz=>?_]
   ·rfl
   have:(low,(0:Int))∈rt:=by rw[<- z];exact WI _ (List.mem_singleton.mpr J)
   have:=(B4 _ (Le _ this)).2.2;exact absurd this (by show ¬(0:Int)<0;decide)
 refine⟨J,aT (λc=>?_) (λc=>y7 _ _ (b_ λN8 y8=>?_))⟩
 ·refine⟨ol,J,⟨_,ao.of O.ho⟩,λD3 Z=>?_⟩;refine yb (K:=K) (xs:=os) (aA {}) (λi us B=>cB B us ((ps.take i).filter λp=>decide (num<p.1))/\us.length<=i/\ag G B/\B D3=some (.lst us)) ⟨DH,ZF _,aM Z _,ax⟩ (λi us B ⟨_,_,e,_⟩=>e.seq (ao.of O.ho)) (λi us B ⟨_,W,_,I⟩=>⟨I,W⟩) ?_ ?_
  ·rintro i x us B hx ⟨e0,W,M,I⟩;have hi:=(ac hx).1;obtain⟨p,hp,pa,rfl,ha⟩:=O.hp.get hx;have et:ps.take (i+1)=ps.take i++[p]:=by rw[WK,hp];rfl
   rw[et];exists _,_,au.of (M _ _ ha),J;refine aT (λc=>?_) (λc=>?_)
   ·have tk:aw B (upd B D3 (.lst (us++[.ref pa]))):=aw.set I;refine⟨I,?_,by rw[ZM];exact Nat.succ_le_succ W,ag.own M Z,ax⟩;rw[YW,filter_cons_of_pos (p:=λp:Int×Int=>decide (num<p.1)) c,filter_nil];exact(EA e0 tk).app (Gg (tH.tk (o:=some p) ⟨pa,J,M _ _ ha⟩ tk))
   ·refine⟨_,{},J,{},?_,{},M,I⟩;rw[YW,filter_cons_of_neg (p:=λp:Int×Int=>decide (num<p.1)) c,filter_nil,append_nil];exact e0
  ·rintro us B ⟨e0,W,M,I⟩;rw[JT,WR]at e0;have a2:=O.same M;have JI:=e0.1;have Lc:(ps.filter λp=>decide (num<p.1)).head? = (bj ws ms).find? λq=>decide (num<q.1):=by rw[List.head?_filter,JF]
   refine⟨_,J,D3,us,J,ao.of I,λp4 rB=>?_⟩;rw[Ki];obtain⟨G3,g3,s3,h3⟩:=cH rB (.lst (us.take 1));rw[g3];exists th,zs,J,.inl (ao.of (s3 _ _ a2.hl));rw[kj,<- jI];refine⟨aZ J,λtp tZ G4 s4 h4=>?_⟩;refine⟨aZ J,λll yr G5 s5 h5=>?_⟩;have zh:=s3.trans (s4.trans s5);have rz:mi (num+1,(ws.length:Int)+1):=⟨⟨by show _<num+1;lia,by show num+1<_;lia⟩,by show 0<=(ws.length:Int)+1;lia,by show(ws.length:Int)+1<_;lia⟩
   refine⟨_,J,cL {} {},aZ J,λS Xc G7 Y h7=>?_⟩;replace h7:G7 S=some (.lst [.str (tx num)]):=h7;refine⟨p4,_,_,J,ao.of (Y _ _ (s5 _ _ (s4 _ _ h3))),qm (e0.same (zh.trans Y)) 1,λp hp=>km p (List.mem_filter.mp (YG hp)).1,by rw[WL];lia,λG8 s8=>?_⟩;refine⟨ll,[.ref tp],[(num+1,(ws.length:Int)+1)],J,ao.of (s8 _ _ (Y _ _ h5)),Gg ⟨tp,J,s8 _ _ (Y _ _ (s5 _ _ h4))⟩,λp hp=>by rw[eD hp];exact rz,by show 1<=1000;decide,λG9 s9=>?_⟩;have a9:=a2.same (zh.trans (Y.trans (s8.trans s9)));refine⟨b,pl,xs,low,num,L,gs,J,a9.g,λG10 vv Jn Dp U=>⟨aZ J,λa _ GZ sz ez=>?_⟩⟩;rw[yS,Lc]at ez;generalize UL:(bj ws ms).find? (λq=>decide (num<q.1))=o at *;have W9:∀ p,o=some p->p∈ps:=λp hp=>by
    rw[hp]at UL;have:=mem_of_find?_eq_some UL;rwa [JF]at this
   have Z3:∀ p,o=some p->mi p:=λp hp=>km p (W9 p hp);have JV:(Qs.up num o).is ws ms:=UL.symm;refine fin (.up num o) (.up num (some (num+1,(ws.length:Int)+1))) _ S a G9 G10 vv a9.k a9.p Jn Dp (s9 _ _ (s8 _ _ h7)) U (.up num) ⟨JV,by cases o <;> rfl,?_,⟨{},{}⟩,⟨J,Z3⟩,⟨J,λp hp=>by cases hp;exact rz⟩⟩ _ sz ez;cases o with
   | none=>rfl
   | some r=>
    show(!decide ((num+1,(ws.length:Int)+1)=r))=true;rw[ZS λz=>?_]
    ·rfl
    have h1:=B4 r (W9 r J);have h2:ws.count r.1<=ws.length:=count_le_length;rw[<- z]at h1 h2;have h3:(ws.length:Int)+1=((ws.count (num+1):Nat):Int):=h1.2.1;have h4:ws.count (num+1)<=ws.length:=h2;lia
 refine⟨th,J,⟨_,ao.of O.hl⟩,λD3 Z=>?_⟩;refine yb (K:=K) (xs:=zs) (aA {}) (λi us B=>us.length=(ts.take i).countP (λx=>decide (x.1<num))/\ag G B/\B D3=some (.lst us)) ⟨J,aM Z _,ax⟩ (λi us B ⟨_,e,_⟩=>e.seq (ao.of O.hl)) (λi us B ⟨W,_,I⟩=>⟨I,by rw[W];exact ZT countP_le_length (by rw[WL];exact Nat.min_le_left _ _)⟩) ?_ ?_
 ·rintro i x us B hx ⟨W,M,I⟩;have hi:=(ac hx).1;obtain⟨t,ht,p',rfl,B5⟩:=IF (d7 (.same M) O.hz) hx;have et:ts.take (i+1)=ts.take i++[t]:=by rw[WK,ht];rfl
  rw[et];refine⟨_,_,B5,J,aT (λc2=>?_) (λc2=>⟨_,{},J,{},?_,M,I⟩)⟩
  ·refine⟨I,?_,ag.own M Z,ax⟩;rw[YX,countP_cons_of_pos (p:=λx:TS.I3=>decide (x.1<num)) c2,ZM,W];rfl
  ·rw[YX,countP_cons_of_neg (p:=λx:TS.I3=>decide (x.1<num)) c2,W];rfl
 ·rintro us B ⟨W,M,I⟩;rw[kj,WR]at W;have JI:us.length<=15:=by rw[W];exact ZT countP_le_length B6
  have a2:=O.same M;exists D3,us,J,.inl (ao.of I);refine y8 _ _ ?_;refine⟨_,J,cL {} {},aZ J,λS Xc G3 s3 h3=>?_⟩;replace h3:G3 S=some (.lst [.str (tx num)]):=h3;exists _,J,cL {} {},_,J,cL {} {};have a9:=a2.same s3;refine⟨b,pl,xs,low,num,L,gs,J,a9.g,λG10 vv Jn Dp U=>⟨aZ J,λa _ GZ sz ez=>?_⟩⟩;have JV:(Qs.below num (us.length:Int)).is ws ms:=by show(us.length:Int)=((ws.filter λx=>decide (x<num)).length:Int);rw[W,<- JE,HM,countP_map];rfl
  refine fin (.below num (us.length:Int)) (.below num ((us.length:Int)+1)) _ S a G3 G10 vv a9.k a9.p Jn Dp h3 U (.below num) ⟨JV,J,?_,⟨{},{}⟩,⟨⟨{},{}⟩,.inl ⟨J,{}⟩⟩,⟨⟨{},{}⟩,.inl ⟨J,{}⟩⟩⟩ _ sz ez;show(!decide ((us.length:Int)+1=us.length))=true;rw[ZS {}];rfl
def QX{L:Nat}{low:Int}{ws ms:List Int}{q:Qs}(hw:bz low L ws)(hm:∀ x,x∈ms↔x∈ws)(hs:ms.Pairwise (·<·))(hq:q.ok ws ms):q.sh ws.length (bq L low (cV L low ws))=true:=by
 have hd:pU L (bD low ws) (cV L low ws):=mq L low (bD low ws);refine AN hw hd hm hs hq λc S=>?_;rcases HL L low (bD low ws) c S with z | z
 ·exact .inl z
 ·right;have O:(!decide (c.2.2=0))=false:=z;have B:c.2.2=0:=by
   cases e:decide (c.2.2=0) with
   | true=>exact ZI e
   | false=>rw[e]at O;cases O
  cases e:q.yg ws.length [c.1,c.2.1,c.2.2] with
  | false=>rfl
  | true=>
   exfalso;rcases Qs.lv hq ws.length {} c.1 c.2.1 c.2.2 e with h | ⟨h1,h2⟩
   ·exact h B
   ·have Y:=(u_ hw hd c S).1;have M:∀ x,c.1<=x->x<=c.2.1->0<ws.count x->False:=λx N U Z=>by
     have W:=PX (ns:=ws) N U;lia
    cases q with
    | least k wo=>obtain⟨N,U⟩:(ws.filter λx=>decide (x<wo)).length<=k/\k<(ws.filter λx=>decide (x<wo)).length+ws.count wo:=hq;exact M wo h1 h2 {}
    | most wo m=>obtain⟨g0,N,_⟩:0<m/\m=(ws.count wo:Int)/\(∀ x,(ws.count x:Int)<=m) /\ ∀ x,x<wo->(ws.count x:Int)<m:=hq;exact M wo h1 h2 {}
    | below n a=>have I:(decide (0<c.2.2)&&(decide (c.1<n)&&decide (n<=c.2.1)))=true:=e;rw[WZ,WV]at I;lia
    | aL part ps=>have I:(ws.length:Int)<c.2.2*part:=ZI e;rw[B,Int.zero_mul]at I;lia
    | up n o=>have I:(if c.2.2=0\/c.2.1<=n then false else _)=true:=e;rw[ZL (.inl B)]at I;cases I
def Ex{L:Nat}{low:Int}{ws ms:List Int}{k:Nat}{wo:Int}(hw:bz low L ws)(hm:∀ x,x∈ms↔x∈ws)(hs:ms.Pairwise (·<·))(B:ws.Pairwise (· <= ·)):Ti k wo (bq L low (cV L low ws))=decide (ws[k]? = some wo):=by
 have hd:pU L (bD low ws) (cV L low ws):=mq L low (bD low ws);by_cases c:ws[k]? = some wo
 ·rw[ZG c];exact QX (q:=.least k wo) hw hm hs (Qs.rp hs hm B c)
 ·rw[ZS c];cases e:ws[k]? with
  | some I=>have O:wo≠I:=λz=>c (by rw[e,z]);exact EE (q:=.least k I) (q':=.least k wo) hw hd hm hs B e J (by show(!decide (wo=I))=true;rw[ZS O];rfl)
  | none=>
   have hk:=List.getElem?_eq_none_iff.mp e;have U:=Ge (low:=low) (eX hd);cases M:Ti k wo (bq L low (cV L low ws)) with
   | false=>rfl
   | true=>
    exfalso;unfold Ti at M;cases N:cY wo (bq L low (cV L low ws)) with
    | none=>rw[N]at M;cases M
    | some x=>rw[N]at M;obtain⟨d,S,c1,c2,Z⟩:=iO N;have W:=(u_ hw hd d S).1;rw[c1,c2,IB,Z]at W;have Y:(decide (bA wo (bq L low (cV L low ws))<=(k:Int))&&decide ((k:Int)<bA wo (bq L low (cV L low ws))+x))=true:=M;rw[Ws hw hd (dZ U N).1,HM,WZ,WV,WV]at Y;have h2:=uT (show wo<wo+1 by lia) ws;have h3:ws.countP (λx=>decide (x<wo+1))<=ws.length:=countP_le_length;lia
def DE{L:Nat}{low wo:Int}:cU wo 1 (bq L low (.all 0))=false:=by
 cases e:cU wo 1 (bq L low (.all 0)) with
 | false=>rfl
 | true=>
  have hd:pU L (bD low []) (.all 0):=by cases L <;> rfl
  have:=mx (ws:=[]) (λx B=>by cases B) hd e;have h2:(1:Int)=((([]:List Int).count wo:Nat):Int):=this.2.1;rw[List.count_nil]at h2;cases h2
abbrev d9(xs:List Str):Str:=Str.join ⟨#[32]⟩ xs
def PK(x y:Str)(r:List Str):d9 (x::y::r)=x ++ " " ++ d9 (y::r):=by refine Gp ?_;rw[zY];simp only[PyProof.Rows.cps_toList_append,YS];rw[show(" " : Str).cps.toList=[32] from ⟨⟩]
def PH(a b c:Str):a++b++c=a++(b++c):=Gp (by simp only[PyProof.Rows.cps_toList_append,YS])
theorem Gb(z:Str):∀(x:Str)(r:List Str),d9 (x::r) ++ " " ++ z=d9 (x::(r++[z]))
 | x,[]=>by
  rw[show(x::([]++[z]))=[x,z]from J,PK];rfl
 | x,y::r=>by
  have B:=Gb z y r;rw[show(x::(y::r++[z]))=x::y::(r++[z])from J,PK,PK,<- B];simp only[PH]
def q9:fw "paper" = [("paper" : Str)]:=ZJ (show ¬("paper" : Str) = "" from ⟨⟩)
def q8:fw "shows" = [("shows" : Str)]:=ZJ (show ¬("shows" : Str) = "" from ⟨⟩)
def zf{q:Qs} : "paper " ++ d9 (q.wd::tG ps::q.nm.map tx)=dC "paper" q.wd (.g ps::q.as):=by show _=d9 (fw "paper" ++ q.wd::(Vl.g ps::q.as).map Vl.wd);rw[q9];show _=d9 ("paper" :: q.wd::tG ps::(q.nm.map Vl.n).map Vl.wd);rw[PK,map_map,show("paper " : Str) = "paper" ++ " " from ⟨⟩];rfl
def DD{q:Qs}(B:q.tv.wd=t) : "shows " ++ d9 (q.wd::tG ps::q.nm.map tx) ++ " " ++ t ++ " " ++ bI (aB p)=dC "shows" q.wd (.g ps::(q.as++[q.tv,.pp p])):=by
 show _=d9 (fw "shows" ++ q.wd::(Vl.g ps::(q.as++[q.tv,.pp p])).map Vl.wd);rw[q8];have e:("shows " : Str)++d9 (q.wd::tG ps::q.nm.map tx)=d9 ("shows" :: q.wd::tG ps::q.nm.map tx):=by rw[PK "shows" q.wd,show("shows " : Str) = "shows" ++ " " from ⟨⟩]
 rw[e,Gb,Gb,<- B];show _=d9 ("shows" :: q.wd::tG ps::(q.as++[q.tv,.pp p]).map Vl.wd);rw[WF,map_map];simp only[List.cons_append,YS,nil_append];rfl
structure Dd(K:Fg)(C M:Addr)(H:Hp)(d x ka b pen:Addr)(low:Int)(L:Nat)(rs cs:LL):Prop where
 D:fI C M H d x ka b low L rs cs
 p:aJ H pen
 n:ka≠pen
 e:rs[0]? = some []
def Dd.same{low:Int}{L:Nat}(h:Dd K C M H d x ka b pen low L rs cs)(s:ag H H'):Dd K C M H' d x ka b pen low L rs cs:=⟨h.D.same s,h.p.same s,h.n,h.e⟩
def Dd.pk{low:Int}{L:Nat}(h:Dd K C M H d x ka b pen low L rs cs)(k:aq pen H H')(P:aJ H' pen):Dd K C M H' d x ka b pen low L rs cs:=by obtain⟨ys,e⟩:=h.p.at;exact⟨h.D.keep k e h.n,P,h.n,h.e⟩
def Dd.kp{low:Int}{L:Nat}(h:Dd K C M H d x ka b pen low L rs cs)(k:ed H H'):Dd K C M H' d x ka b pen low L rs cs:=⟨h.D.kp k,h.p.kt k,h.n,h.e⟩
structure lN(K:Fg)(H:Hp)(th:Addr)(zs:List V)(ts:List TS.I3)(low:Int)(L:Nat)(us:List Int):Prop where
 h:H th=some (.lst zs)
 z:Paired (fN K H) zs ts
 l:ts.length<=15
 w:bz low L (ts.map (·.1))
 s:(ts.map (·.1)).Pairwise (· <= ·)
 p:(bD low (ts.map (·.1))).Perm us
def lN.same{low:Int}{L:Nat}(t:lN K H th zs ts low L us)(s:ag H H'):lN K H' th zs ts low L us:=⟨s _ _ t.h,d7 (.same s) t.z,t.l,t.w,t.s,t.p⟩
def lN.pk{low:Int}{L:Nat}(t:lN K H th zs ts low L us)(k:aq pen H H')(P:aJ H pen)(n:th≠pen):lN K H' th zs ts low L us:=by obtain⟨ys,e⟩:=P.at;exact⟨k _ _ n t.h,d7 (.keep k e) t.z,t.l,t.w,t.s,t.p⟩
def lN.kp{low:Int}{L:Nat}(t:lN K H th zs ts low L us)(k:ed H H'):lN K H' th zs ts low L us:=⟨k.l t.h,d7 k.tk t.z,t.l,t.w,t.s,t.p⟩
def yZ(ws:List Int):∃ ms:List Int,ms.Pairwise (·<·) /\ ∀ x,x∈ms↔x∈ws:=by
 induction ws with
 | nil=>exact⟨[],.nil,λx=>Iff.rfl⟩
 | cons w ws B=>
  obtain⟨ms,h1,h2⟩:=B;refine⟨(ms.filter λx=>decide (x<w))++w::ms.filter λx=>decide (w<x),?_,λx=>?_⟩
  ·refine List.pairwise_append.mpr ⟨h1.filter _,List.pairwise_cons.mpr ⟨λy I=>ZI (List.mem_filter.mp I).2,h1.filter _⟩,λa O b M=>?_⟩;have N:a<w:=ZI (List.mem_filter.mp O).2;rcases ad M with z | z
   ·lia
   ·have:w<b:=ZI (List.mem_filter.mp z).2;lia
  ·rw[mem_append,mem_cons,mem_cons,mem_filter,mem_filter,h2,WV,WV];constructor
   ·rintro (⟨h,_⟩ | h | ⟨h,_⟩)
    ·exact .inr h
    ·exact .inl h
    ·exact .inr h
   ·rintro (h | h)
    ·exact .inr (.inl h)
    ·rcases Int.lt_trichotomy x w with z | z | z
     ·exact .inl ⟨h,z⟩
     ·exact .inr (.inl z)
     ·exact .inr (.inr ⟨h,z⟩)
inductive Bg(K:Fg)(C:Addr)(M:Addr)(vs:List V)(H:Hp)(Q:VK)(E:XK):Prop
 |mk(d pen b th x ka:Addr)(zs:List V)(ts:List TS.I3)(low:Int)(L:Nat)(rs cs:LL)(ps:List P3)(_:vs=[.ref d,.ref pen,.str (tG ps),.ref b,.ref th])(_:Dd K C M H d x ka b pen low L rs cs)(_:lR low rs ps)(_:lN K H th zs ts low L (cI low rs ps))(_:th≠pen)(_:(∀ p∈ps,uc p))(_:∀ H',aq pen H H'->aJ H' pen->Q (.bl true) H')
def vz:z.C P w 110 "_law_any_told" K3 (Bg K uH uG):=by
 have sc:=Sj;specialize z.fB;obtain⟨d,pen,b,th,x,ka,zs,ts,low,L,W,cs,ps,rfl,D0,G0,T0,O,JL,q⟩:=h;refine⟨_,(aj (aF 5 sc.nd (aC (SV z) hr (bW (kf (cl:=[]) (cn:=[]) (N:=[]) (fr:=[]) (bB:=aI fT) J (cw (pr 4)) (λC s₂ H₂ I=>(aG (kW (K:=K) J) kb ah)) (by ac_rfl) trivial J J J eT J) (aG bh bi ah) (aG bh bi ah))))
 (aj (aF 6 sc.nd (aC (fO z) hr (aY kv (ae dk (dH z.bE (ar (pr 4))) ah))))
 (aj (aF 7 sc.nd (ae dk (aG bh bi ah) (aC (fO z) hr (aY kv (ae u4 ah (aG bh bi ah))))))
 (aj (gK (aW (PW.pt (iV (aN (vt hr.units) (pr 4) (tS fU)) (mu (aN cD (aC (fO z) hr (aY kv ah)) ah))))
 (bF (aF 7 sc.nd (aG bh (aG cS (pr 4) (aC (fO z) hr (aY kv (dH z.bE (ar (pr 4)))))) ah)))))
 (aj (aF 8 sc.nd aR)
 (aj (gK (aW (PW.pt (iV (aN bS (pr 6) (dH z.bE (ar (pr 4)))) (mu (aN av (aG bh (aG cS (pr 4) (pr 6)) ah) (pr 7)))))
 (bF (aF 8 sc.nd aR))))
 (aj (aF 9 sc.nd (bG WW YO YQ Ba aR (ar (tS (dI aR bv (ei gD () z.cj kh (ar (pr 6))) (ei gD () z.cj kh (ar (pr 7))))))))
 (aj (aW (aN bX (Bp (fu z) hr.m kb (ar (ae dR (ae dR (ae dR aR (pr 9)) aR) (pr 5)))) (pr 8))
 (az bx))
 (az (ki av (Bp (fu z) hr.m kb (ar (ae dR (ae dR aR (ei gD () z.cj kh (ar (pr 7)))) aR))) aR)))))))))),?_⟩
 symm;have hL:=D0.D.m.hL;have UI:=CA hL;have oa:=qH hL;have yp:=b7 L;have lo:=D0.D.lo;have hi:=D0.D.hi;have B6:=T0.l;have kj:=nh T0.z;have jI:(ts.map (·.1)).length=ts.length:=ZK _;obtain⟨ms,hs,hm⟩:=yZ (ts.map (·.1));refine b_ λN1 y1=>?_;refine⟨th,J,⟨_,ao.of T0.h⟩,λD2 jL=>?_⟩;refine eY (K:=K) (xs:=zs) (aA {}) (λi us G=>us=((ts.take i).map (·.1)).map V.int/\us.length=i/\ag H G/\G D2=some (.lst us)) ⟨J,J,aM jL _,ax⟩ (λi us G ⟨_,_,e,_⟩=>e.seq (ao.of T0.h)) (λi us G ⟨_,e1,_,e3⟩=>⟨e3,e1⟩) ?_ ?_
 ·rintro i y us G hy ⟨e0,e1,e2,e3⟩;obtain⟨t,ht,p',rfl,B5⟩:=IF (d7 (.same e2) T0.z) hy;refine⟨_,_,B5,J,e3,?_,by rw[ZM,e1];rfl,ag.own e2 jL,ax⟩;rw[e0,WK,ht,WF,WF];rfl
 rintro us G ⟨e0,e1,e2,e3⟩;rw[kj,WR]at e0;subst e0;have Z:=D0.same e2;have T1:=T0.same e2;refine⟨_,_,au.of Z.D.m.hb,J,_,_,au.of Z.D.m.hb,J,L,hL,D2,_,low,J,ao.of e3,T0.w,{},λH1 s1=>?_⟩;have Z:=Z.same s1;have T1:=T1.same s1;have k1:aq pen H H1:=aq.same (e2.trans s1);refine y1 _ _ (b_ λN2 y2=>?_);refine⟨th,zs,J,.inl (ao.of T1.h),pen,_,J,Z.p,{},{},λkk H2 k2 P2 k0 k3=>?_⟩;obtain⟨k,rfl⟩:=Int.eq_ofNat_of_zero_le k0;have T2:=T1.pk k2 Z.p O;have Co:=Z.pk k2 P2;refine y2 _ _ (b_ λN3 y3=>?_);have Vk:=Co.D.m.hb;refine⟨_,_,au.of Vk,J,_,_,au.of Vk,J,_,_,J,J,⟨{},{},∅⟩,pen,_,J,P2,?_,?_,λv H3 TZ P3 v0 v1=>?_⟩
 ·rw[F1];lia
 ·rw[F1];lia
 rw[F1]at v1;have T3:=T2.pk TZ P2 O;have Y:=Co.pk TZ P3;have T8:=k1.trans (k2.trans TZ);clear T1 Z T2 Co Vk y1 y2;generalize U:cV L low (ts.map (·.1))=I at *;refine y3 _ _ (b_ λN4 y4=>?_);exists λσ G=>∃ wo:Int,gB (σ=[some (.ref d),some (.ref pen),some (.str (tG ps)),some (.ref b),some (.ref th),some (.str (bI (aB I))),some (.int (k:Int)),some (.int wo),none,none]) (low<=wo) (wo<low+2^L) (aq pen H G) (Dd K uH uG G d x ka b pen low L W cs) (lN K G th zs ts low L (cI low W ps)),?_
 ·refine⟨aZ J,λe he G1 M h1=>?_⟩;have T4:=T3.same M;have D4:=Y.same M;exists th,e,zs,J,J,ao.of T4.h,ao.of h1;cases S:zs with
  | nil=>rw[show(!([]:List V).isEmpty)=false from J];exact aU (aU ⟨low+v,J,{},{},T8.trans (aq.same M),D4,S▸T4⟩)
  | cons z0 C8=>
   rw[show(!(z0::C8).isEmpty)=true from J];have jJ:0<zs.length:=by rw[S];exact Nat.succ_pos _
   refine bM ⟨pen,3,J,D4.p,∅,∅,λi H4 k4 P4 i0 i1=>?_⟩;have T5:=T4.pk k4 D4.p O;have D5:=D4.pk k4 P4;refine aT (λc=>?_) (λc=>?_)
   ·refine⟨th,zs,J,.inl (ao.of T5.h),pen,_,J,P4,{},{},λj H5 k5 P5 j0 j1=>?_⟩;obtain⟨n,rfl⟩:=Int.eq_ofNat_of_zero_le j0;have hn:n<zs.length:={}
    have T6:=T5.pk k5 P4 O;obtain⟨t,ht,p,ep,rB⟩:=IF T6.z (ZP hn);have JD:=T0.w t.1 (mem_map_of_mem (ZV ht));exists zs,_,ao.of T6.h,dm ((ZP hn).trans (congrArg some ep)),_,_,rB,J;exact⟨t.1,J,JD.1,JD.2,T8.trans ((aq.same M).trans (k4.trans k5)),D5.pk k5 P5,S▸T6⟩
   ·exact⟨low+v,J,{},{},T8.trans ((aq.same M).trans k4),D5,S▸T5⟩
 rintro σ G ⟨wo,rfl,w0,w1,kG,DG,TG⟩;clear T3 Y;refine y4 _ _ (b_ λN5 y5=>?_);refine y5 _ _ (b_ λN6 y6=>?_);have ab2:∀ c:Bool,c=decide ((ts.map (·.1))[k]? = some wo)->True:=λ_ _=>trivial;exists λσ G'=>σ=[some (.ref d),some (.ref pen),some (.str (tG ps)),some (.ref b),some (.ref th),some (.str (bI (aB I))),some (.int (k:Int)),some (.int wo),some (.str (ud (decide ((ts.map (·.1))[k]? = some wo)))),none]/\G'=G,?_
 ·exists th,zs,J,.inl (ao.of TG.h);by_cases c:k<zs.length
  ·refine aT (λ_=>?_) (λz=>absurd (ZG (show((k:Nat):Int)<(zs.length:Int) by lia)) z);obtain⟨t,ht,p,ep,rB⟩:=IF TG.z (ZP c);have gw:(ts.map (·.1))[k]? = some t.1:=by rw[WE,ht];rfl
   exists zs,_,ao.of TG.h,dm ((ZP c).trans (congrArg some ep)),_,_,rB,J,J;rw[gw];by_cases c2:t.1=wo
   ·refine aT (λ_=>⟨?_,J⟩) (λz=>absurd (ZG (congrArg V.int c2)) z);rw[ZG (congrArg some c2)];rfl
   ·refine aT (λz=>absurd (V.int.inj (ZI z)) c2) (λ_=>⟨?_,J⟩);rw[ZS (λz=>c2 (am z))];rfl
  ·refine aT (λz=>absurd (ZI z) (show ¬((k:Nat):Int)<(zs.length:Int) by lia)) (λ_=>aU ⟨?_,J⟩);rw[getElem?_eq_none {},ZS (by simp)];rfl
 rintro σ G' ⟨rfl,rfl⟩;have lw:=PQ G0.ln JL;have lk:=IK (n:=(k:Int)) {} {};have lwo:=IK (n:=wo) {} {};have lfp:(aB I).length<=6500:=by rw[<- U];exact(AM hL {}).len
 have mfp:=Ey (aB I);refine y6 _ _ (b_ λN7 y7=>?_);refine⟨J,_,J,cL {} {},_,J,cL {} {},aZ J,λll yr G2 s2 h2=>?_⟩;replace h2:G2 ll=some (.lst (([("least" : Str),tG ps,tx (k:Int),tx wo]:List Str).map V.str)):=h2;have T2:=TG.same s2;have D2:=DG.same s2;exists " ", ll,_,J,J,ao.of h2,f7 ⟨⟩ (B:=1300) (λy hy=>?_) (by show 4*1300+4<=_;decide)
 ·have l5:("least" : Str).length<=1300:=⟨⟩
  simp only[mem_cons,not_mem_nil,or_false]at hy;rcases hy with rfl | rfl | rfl | rfl <;> lia
 rw[KO,vI];have lj:(d9 [("least" : Str),tG ps,tx (k:Int),tx wo]).length<=5300:=by
  refine ZT (nj (B:=1300) _ λy hy=>?_) (by show 4*1301<=5300;decide);have l5:("least" : Str).length<=1300:=⟨⟩
  simp only[mem_cons,not_mem_nil,or_false]at hy;rcases hy with rfl | rfl | rfl | rfl <;> lia
 refine y7 _ _ (b_ λN8 y8=>?_);obtain⟨di,hd⟩:=D2.D.o;have l6:("shows " : Str).length=6:=⟨⟩
 have l1:(" " : Str).length=1:=⟨⟩
 have ye : "shows " ++ d9 [("least" : Str),tG ps,tx (k:Int),tx wo] ++ " " ++ bI (aB I)=dC "shows" (Qs.least k wo).wd (.g ps::((Qs.least k wo).as++[(Qs.least k wo).tv,.pp I])):=by rw[<- DD (q:=.least k wo) (ps:=ps) (p:=I) (t:=tx wo) J];show "shows " ++ d9 ("least" :: ([tG ps,tx (k:Int)]++[tx wo]))++_++_ = "shows " ++ d9 ("least" :: [tG ps,tx (k:Int)])++_++_++_++_;rw[<- Gb];simp only[PH]
 have hfw:ub I:=by rw[<- U];exact AM hL {}
 have hfd:pU L (cI low W ps) I:=by rw[<- U];exact fW T0.p (mq L low _)
 refine⟨d,di,_,J,hd,J,_,_,J,J,aA (by show("shows " : Str).length+(d9 [("least" : Str),tG ps,tx (k:Int),tx wo]).length<=_;lia),_,_,J,J,aA (by show("shows " ++ d9 [("least" : Str),tG ps,tx (k:Int),tx wo]).length+(" " : Str).length<=_;rw[mH];lia),_,_,J,J,aA (by show("shows " ++ d9 [("least" : Str),tG ps,tx (k:Int),tx wo] ++ " ").length+(bI (aB I)).length<=_;rw[mH,mH];lia),d,x,ka,b,low,L,W,cs,_,J,D2.D,.sh (.least k wo) ps I ye G0 ?_ ?_ hfw.ok λG3 s3=>⟨J,du ?_ (y8 _ _ ?_)⟩⟩
 ·show(k:Int)<10^50;lia
 ·exact⟨⟨{},{}⟩,.inr (.inl J)⟩
 ·show V.str (ud (aH L (cI low W ps) I&&Ti k wo (bq L low I)))=V.str (ud (decide ((ts.map (·.1))[k]? = some wo)));rw[iP.mpr hfd,Bool.true_and,<- U,Ex T0.w hm hs T0.s]
 have Y:=D2.same s3;obtain⟨di3,hd3⟩:=Y.D.o;have l17:("shows most 0:0:0 " : Str).length=17:=⟨⟩
 have l4:(":1 0" : Str).length=4:=⟨⟩
 have XY : "shows most 0:0:0 " ++ tx wo ++ ":1 0" = dC "shows" (Qs.most wo 1).wd (.g [(0,0,0)]::((Qs.most wo 1).as++[(Qs.most wo 1).tv,.pp (.all 0)])):=by rw[<- DD (q:=.most wo 1) (ps:=[(0,0,0)]) (p:=.all 0) (t:=tC (wo,1)) J];show _ = "shows " ++ d9 [("most" : Str),tG [(0,0,0)]] ++ " " ++ tC (wo,1) ++ " " ++ bI (fg 0);rw[show d9 [("most" : Str),tG [(0,0,0)]]=("most 0:0:0" : Str) from ⟨⟩,<- xZ,show bI (fg 0)=("0" : Str) from ⟨⟩,show tx ((wo,(1:Int)):Int×Int).2=("1" : Str) from(show tx 1=("1" : Str) from ⟨⟩)];show "shows most 0:0:0 " ++ tx wo ++ ":1 0" = _;simp only[PH];rw[show(":" : Str)++("1" ++ (" " ++ "0")) = ":1 0" from ⟨⟩,<- PH "shows " "most 0:0:0" _,<- PH ("shows " ++ "most 0:0:0") " " _,show("shows " : Str) ++ "most 0:0:0" ++ " " = "shows most 0:0:0 " from ⟨⟩]
 refine⟨d,di3,_,J,hd3,J,wo,J,cL {} {},_,_,J,J,aA (by show _+(tx wo).length<=_;lia),_,_,J,J,aA (by show("shows most 0:0:0 " ++ tx wo).length+_<=_;rw[mH];lia),d,x,ka,b,low,L,W,cs,_,J,Y.D,.sh (.most wo 1) [(0,0,0)] (.all 0) XY ?_ trivial ?_ ?_ λG4 s4=>?_⟩
 ·exists by simp,∅,λp hp=>?_
  ·rw[eD hp];exact⟨[],Y.e,ZF _,ZF _⟩
  ·have:=Y.e;show(Wh [jk low W (0,0,0)]).length<=900;unfold jk;rw[WS,this];exact ZX _
 ·exact⟨J,⟨by show _<wo;lia,by show wo<_;lia⟩,by show(0:Int)<=1;decide,by show(1:Int)<10^50;decide⟩
 ·exact ub.ok ⟨⟨∅,∅⟩,∅,∅⟩
 ·exists J;have z:ud (aH L (cI low W [(0,0,0)]) (.all 0)&&(Qs.most wo 1).sh (Pp.m (.all 0)) (bq L low (.all 0))) = "no" := by
   show ud (_&&cU wo 1 (bq L low (.all 0))) = "no";rw[DE,be];rfl
  rw[z,fe J];exact q G4 (kG.trans (aq.same (s2.trans (s3.trans s4)))) (Y.p.same s4)
def o9{q q':Qs}(h:q.uz q'):q'.wd=q.wd/\q'.nm=q.nm/\(q.j9->q'.j9):=by
 cases q <;> cases q' <;> first
  | exact h.elim
  | (cases h;exact⟨rfl,rfl,λh=>h⟩)
  | exact⟨rfl,rfl,λh=>h⟩
  | (rename_i o _ o';cases o <;> cases o' <;> first | exact h.elim | (cases h;exact⟨rfl,rfl,λh=>h⟩))
def zi{rt:List P2}(h:rt.Pairwise λp q=>p.1<q.1)(h2:2<=rt.length):rt.reverse≠rt:=λz=>by
 have e:rt.reverse[0]? = rt[0]?:=by rw[z]
 rw[List.getElem?_reverse {}]at e;have I:rt[rt.length-1-0]? = some (rt[rt.length-1]'{}):=ZP _;have B:rt[0]? = some (rt[0]'{}):=ZP _;rw[I,B]at e;have:=List.pairwise_iff_getElem.mp h 0 (rt.length-1) {} {} {};rw[am e]at this;lia
def OX{rt:List P2}:44∈(tL rt).cps.toList↔2<=rt.length:=by
 match rt with
 | []=>exact⟨λh=>absurd h (by show 44 ∉ [45];decide),λh=>absurd h ∅⟩
 | [p]=>exact⟨λh=>absurd h (ju ∅ AY AY),λh=>absurd h (by simp)⟩
 | p::p'::r=>refine⟨λ_=>by simp,λ_=>?_⟩;rw[show tL (p::p'::r)=Str.join ⟨#[44]⟩ (tC p::tC p'::r.map tC)from J,zY];exact WI _ (mem_append_left _ (List.mem_singleton.mpr J))
structure V1(q:Qs)(L:Nat)(low:Int)(us:List Int)(p:Pp):Prop where
 w:ub p
 d:pU L us p
 b:tD 89 p
 s:q.sh us.length (bq L low p)=true
inductive mP(K:Fg)(C:Addr)(M:Addr)(vs:List V)(H:Hp)(Q:VK)(E:XK):Prop
 |mk(d pen wa b th x ka:Addr)(zs:List V)(ts:List TS.I3)(low:Int)(L:Nat)(rs cs:LL)(ps:List P3)(q q':Qs)(ms:List Int)(v:V)(_:vs=[.ref d,.ref pen,.ref wa,.ref b,.ref th])(_:Dd K C M H d x ka b pen low L rs cs)(_:lR low rs ps)(_:lN K H th zs ts low L (cI low rs ps))(_:th≠pen)(_:(∀ p∈ps,uc p))(_:fh H)(_:Cq (ts.map (·.1)) ms q q')(_:ms.Pairwise (·<·))(_:(∀ y,y∈ms↔y∈ts.map (·.1)))(_:H wa=some (.tup [.str q.wd,.str (d9 (q.wd::tG ps::q.nm.map tx)),.str q.tv.wd,.str q'.tv.wd,v]))(_:bt H v (q.pap low L (cI low rs ps)))(_:fE L (cI low rs ps))(_:∀ H',eK pen H H'->aJ H' pen->fh H'->Q (.bl true) H')
def Ga:z.C P w 110 "_law_right" K2 (mP K uH uG):=by
 have sc:=AD;specialize z.i8;obtain⟨d,pen,wa,b,th,x,ka,zs,ts,low,L,rs,cs,ps,I,q',ms,v,rfl,D0,G0,T0,Ts,JL,Yc,O,hs,hm,JG,hv,oh,q⟩:=h;refine⟨_,(aj (HI bv (IE J (cF (cq 5 sc.nd) (cF (cq 6 sc.nd) (cF (cq 7 sc.nd) (cF (cq 8 sc.nd) (cF (cq 9 sc.nd) jq)))))))
 (aj (aF 10 sc.nd (Bp (fu z) hr.m kb (ar (ae dR aR (pr 6)))))
 (aj (gK (aW (PW.pt (pw_or (Eh (uQ (cK iS () z.bp dy (aY (pr 10) (iN (v:=.ty "str") (u:=.type "str") () z.cj kh J))))) (yc (aN bX (pr 10) (aC (qe z) hr (ar (pr 9)))))))
 (az bx)))
 (aj (aF 11 sc.nd (aC (SV z) hr (bW (kf (cl:=[]) (cn:=[]) (N:=[]) (fr:=[]) (bB:=aI fR) J (cw (pr 4)) (λC s₂ H₂ fp=>(aG (kW (K:=K) J) kb ah)) (by ac_rfl) trivial J J J eT J) (aG bh bi ah) (aG bh bi ah))))
 (aj (aF 12 sc.nd (tS (ar (pr 8))))
 (aj (gK (aW (PW.pt (iV (aN av (pr 5) aR) (mu (A4 Ih aR (pr 7) J))))
 (bF (d6 (bG YF YM YN ke (pr 12) (ar (bG WW YO YQ Ba aR (ar (BC (bG WW PySem.F.slot_str_split PySem.F.type_str_split mT (pr 7) (ar aR)))))))))))
 (aj (pO bn J (mE (tT (bW (pr 10) (pr 11) (pr 10)))) (cq 13 sc.nd)
 (aj (aW (aN bX (Bp (fu z) hr.m kb (ar (ae dR (ae dR (ae dR (ae dR (ae dR aR (pr 6)) aR) (pr 7)) aR) (pr 13)))) aR)
 (az bx))
 (aj (pO bn J (cw (pr 12)) (cq 14 sc.nd)
 (bF (aW (aN bX (Bp (fu z) hr.m kb (ar (ae dR (ae dR (ae dR (ae dR (ae dR aR (pr 6)) aR) (pr 14)) aR) (pr 13)))) aR)
 (az bx))))
 (bF (aW (aN bX (Bp (fu z) hr.m kb (ar (ae dR (ae dR (ae dR (ae dR (ae dR aR (pr 6)) aR) (pr 7)) aR) (aC (mG z) hr (aY kv (pr 13)))))) aR)
 (az bx))))))
 (az bx)))))))),?_⟩
 symm;have hL:=D0.D.m.hL;have B6:=T0.l;have kj:=nh T0.z;have jI:(ts.map (·.1)).length=ts.length:=ZK _;generalize U:cI low rs ps=us at *;generalize S:ts.map (·.1)=ws at *;have CK:us.length=ws.length:=by rw[<- T0.p.length_eq,ZK,S]
 have aD:=Qs.rp hs hm (S▸T0.s) O.is;have ko:(bD low ws).Perm us:=S▸T0.p;have Lb:bz low L ws:=S▸T0.w;have nA:ws.Pairwise (· <= ·):=S▸T0.s;obtain⟨c1,c2,c3⟩:=Ml I.g (I.lv aD us.length {}) (low:=low) (us:=us) hL {};have gp:V1 I L low us (I.pap low L us):=⟨⟨c1,c2,c3⟩,mq L low us,mW (mq L low us) {},oI Lb ko hL {} hm hs aD⟩
 have gf:V1 I L low us (cV L low ws):=⟨AM hL {},fW ko (mq L low _),mW (mq L low (bD low ws)) (by rw[ZK];lia),by rw[CK];exact QX Lb hm hs aD⟩
 have tw:=Qs.rn hs hm nA oh ko O.is;refine b_ λN1 y1=>?_;exists wa,_,J,au.of JG,J,_,_,J,_,_,J,_,_,J,_,_,J,_,_,J,J;have Ze:(d9 (I.wd::tG ps::I.nm.map tx)).length<=60100:=by
  have UB:=I.al;refine ZT (nj (B:=20000) _ λy M=>?_) (by rw[WB,WB,ZK];rw[ZK]at UB;exact ZT (Nat.mul_le_mul (show I.nm.length+1+1<=3 by lia) (ZF _)) ∅);rcases ad M with rfl | M
  ·exact kK I
  ·rcases ad M with rfl | M
   ·exact ZT (PQ G0.ln JL) ∅
   ·obtain⟨n,hn,rfl⟩:=eE M;have hkl:=I.kl;obtain⟨k,hk⟩:=uS hkl (Qs.K4 O.j9) (.n n) (mem_map_of_mem hn);exact Q0 hk
 refine y1 _ _ (b_ λN2 y2=>?_);obtain⟨di,hd⟩:=D0.D.o;have l6:("paper " : Str).length=6:=⟨⟩
 refine⟨d,di,_,J,hd,J,_,_,J,J,aA {},d,x,ka,b,low,L,rs,cs,_,J,D0.D,.pp I ps (I.yg us.length) zf G0 O.j9 Yc (by rw[U];exact tw) ?_ ?_ ?_ λH1 k1 t1=>?_⟩
 ·rw[U];exact vi gp.w.c
 ·rw[U];have:=gp.w.d;exact ZT this ∅
 ·rw[U];have:=gp.w.len;exact ZT this ∅
 rw[U];generalize yp:bH (f3 (I.yg us.length)) L low us=pp;have UC:I.pap low L us=pp:=yp;rw[UC]at gp hv;have D1:=D0.kp k1;have T1:=T0.kp k1;refine y2 _ _ (b_ λN3 y3=>?_);exists λσ G=>σ=[some (.ref d),some (.ref pen),some (.ref wa),some (.ref b),some (.ref th),some (.str I.wd),some (.str (d9 (I.wd::tG ps::I.nm.map tx))),some (.str I.tv.wd),some (.str q'.tv.wd),some v,some (.str (bI (aB pp))),none,none,none,none]/\G=H1,?_
 ·exists _,_,_,true,J,.str _,J;refine⟨true,J,aU ?_⟩;exact⟨_,by have:=gp.w.d;exact ZT this ∅,v,pp,J,hv.tk k1.tk,vi gp.w.c,ZF _,by have:=gp.w.len;lia,J,du J ⟨J,J⟩⟩
 rintro σ G ⟨rfl,rfl⟩;refine y3 _ _ (b_ λN4 y4=>?_);refine⟨th,J,⟨_,ao.of T1.h⟩,λD2 jL=>?_⟩;refine eY (K:=K) (xs:=zs) (aA {}) (λi us G'=>us=((ts.take i).map (·.1)).map V.int/\us.length=i/\ag G G'/\G' D2=some (.lst us)) ⟨J,J,aM jL _,ax⟩ (λi us G ⟨_,_,e,_⟩=>e.seq (ao.of T1.h)) (λi us G ⟨_,e1,_,e3⟩=>⟨e3,e1⟩) ?_ ?_
 ·rintro i y us G' M ⟨e0,e1,e2,e3⟩;obtain⟨t,ht,p',rfl,B5⟩:=IF (d7 (.same e2) T1.z) M;refine⟨_,_,B5,J,e3,?_,by rw[ZM,e1];rfl,ag.own e2 jL,ax⟩;rw[e0,WK,ht,WF,WF];rfl
 rintro us' G2 ⟨e0,e1,e2,e3⟩;rw[kj,WR,S]at e0;subst e0;have Co:=D1.same e2;refine⟨_,_,au.of Co.D.m.hb,J,_,_,au.of Co.D.m.hb,J,L,hL,D2,_,low,J,ao.of e3,Lb,{},λG3 s3=>?_⟩;have D3:=Co.same s3;generalize hfp:cV L low ws=fp at *;refine y4 _ _ (b_ λN5 y5=>?_);refine⟨aZ J,λol CQ G4 s4 h4=>?_⟩;have D4:=D3.same s4;have WA:eK pen H G4:=(eK.ot k1).trans (eK.of (aq.same (e2.trans (s3.trans s4))));have t4:fh G4:=t1.same (e2.trans (s3.trans s4));have K5:ol≠pen:=D3.p.fresh CQ;refine y5 _ _ (b_ λN6 y6=>?_);exists λσ G=>∃ os:List Qs,nY (σ=[some (.ref d),some (.ref pen),some (.ref wa),some (.ref b),some (.ref th),some (.str I.wd),some (.str (d9 (I.wd::tG ps::I.nm.map tx))),some (.str I.tv.wd),some (.str q'.tv.wd),some v,some (.str (bI (aB pp))),some (.str (bI (aB fp))),some (.ref ol),none,none]) (eK pen H G) (fh G) (Dd K uH uG G d x ka b pen low L rs cs) (G ol=some (.lst (os.map λo=>V.str o.tv.wd))) (os.length<=2) (∀ o∈os,I.uz o/\I.ne o=true/\cA o.tk o.tv),?_
 ·have one:∀ o∈[q'],I.uz o/\I.ne o=true/\cA o.tk o.tv:=λo ho=>by rw[eD ho];exact⟨O.uz,O.ne,O.IZ⟩
  exists J;cases I with
  | aL part rt=>
   rw[fe (show(Qs.aL part rt).wd = "often" from J)];have JM:=O.is.2.2;have xf:(Qs.aL part rt).tv.wd=tL rt:=J;have hlen:=O.I0.2.1;have B1:=O.I0.2.2;refine bM ⟨_,_,J,J,?_⟩;rw[show("," : Str)=⟨#[44]⟩ from ⟨⟩,StrLaws.found_one,xf];by_cases c:2<=rt.length
   ·rw[ZG (OX.mpr c)];have eP:rt≠[]:=λz=>by rw[z]at c;exact absurd c ∅
    have rE:=DK hlen B1;have hc:=gH (tL rt) ⟨#[44]⟩;have JK:Txt.split (tL rt) ⟨#[44]⟩=rt.map tC:=by rw[show tL rt=Str.join ⟨#[44]⟩ (rt.map tC)from ZJ eP];refine fX (by simpa using eP) λy M=>?_;obtain⟨p,_,rfl⟩:=eE M;exact ju ∅ AY AY
    refine bM ⟨.inl ⟨J,_,ao.of h4⟩,J,J,_,_,J,J,⟨⟩,aA {},aA {},by rw[JK,ZK];exact aA {},λl hl=>?_⟩;rw[JK];obtain⟨G6,g6,s6,h6⟩:=cH hl (.lst ((rt.map tC).map V.str));rw[g6];refine⟨l,_,J,ao.of h6,λl2 Lk=>?_⟩;rw[show((rt.map tC).map V.str).reverse=(rt.reverse.map tC).map V.str by rw[<- map_reverse,<- map_reverse]];obtain⟨G7,g7,s7,h7⟩:=cH Lk (.lst ((rt.reverse.map tC).map V.str));rw[g7];exists⟨#[44]⟩,l2,rt.reverse.map tC,J,J,ao.of h7,f7 ⟨⟩ (B:=104) (λy M=>?_) (by rw[ZK,length_reverse];lia)
    ·obtain⟨p,hp,rfl⟩:=eE M;exact Q3 (B1 p (List.mem_reverse.mp hp))
    rw[vI];have Y:=s6.trans s7;have D7:=D4.same Y;have ZH:Str.join ⟨#[44]⟩ (rt.reverse.map tC)=tL rt.reverse:=(ZJ (by simpa using eP)).symm;rw[ZH];exists ol,_,_,J,J,Y _ _ h4,fM (by show 1<=1000;decide);have e7:=Y _ _ h4;have TU:aq ol G7 (upd G7 ol (.lst ([.str q'.tv.wd]++[.str (tL rt.reverse)]))):=aq.set ol G7 _;refine⟨[q',.aL part rt.reverse],J,?_,?_,?_,ax,by show 2<=2;decide,λo ho=>?_⟩
    ·intro a o n m e;have rZ:G3 a=some o:=((eK.ot k1).trans (eK.of (aq.same (e2.trans s3)))) a o n m e;exact TU _ _ (cO rZ CQ) (Y _ _ (s4 _ _ rZ))
    ·exact(t4.same Y).pen TU e7
    ·obtain⟨es,JZ,_⟩:=D3.D.m.hk;exact⟨D7.D.keep TU e7 (cO JZ CQ),D7.p.other K5 _,D7.n,D7.e⟩
    ·rcases ad ho with rfl | ho
     ·exact⟨O.uz,O.ne,O.IZ⟩
     ·rw[eD ho];have JN:rt.Pairwise λp q=>p.1<q.1:=by rw[JM];exact(jt hs hm).filter _
      refine⟨J,?_,J,by rw[length_reverse];exact hlen,λp hp=>B1 p (List.mem_reverse.mp hp)⟩;show(!decide (rt.reverse=rt))=true;rw[ZS (zi JN c)];rfl
   ·exact dS (ZS λz=>c (OX.mp z)) (⟨[q'],J,WA,t4,D4,h4,by show 1<=2;decide,one⟩)
  | _=>rw[de (by simp only[Qs.wd];decide +kernel)];exact aU (aU ⟨[q'],J,WA,t4,D4,h4,by show 1<=2;decide,one⟩)
 rintro σ G ⟨os,rfl,kG,Yi,DG,hos,aa5,hoa⟩;refine y6 _ _ (b_ λN7 y7=>?_);refine⟨aZ J,λtp tZ G5 s5 h5=>?_⟩;have Y4:tp≠pen:=DG.p.fresh tZ;refine⟨tp,J,⟨_,au.of h5⟩,kI (K:=K) (a:=tp) (xs:=[.str (bI (aB pp)),.str (bI (aB fp)),.str (bI (aB pp))]) (λi σ G6=>aO λ(yF W:Option V)=>aP (σ=[some (.ref d),some (.ref pen),some (.ref wa),some (.ref b),some (.ref th),some (.str I.wd),some (.str (d9 (I.wd::tG ps::I.nm.map tx))),some (.str I.tv.wd),some (.str q'.tv.wd),some v,some (.str (bI (aB pp))),some (.str (bI (aB fp))),some (.ref ol),yF,W]) (aq pen G5 G6) (Dd K uH uG G6 d x ka b pen low L rs cs)) ⟨_,_,J,aq.refl _ _,DG.same s5⟩ (λi σ G6 _ ⟨_,_,_,k,_⟩=>au.of (k _ _ Y4 h5)) ?_ ?_⟩
 ·rintro i y σ G6 M ⟨yF,W,rfl,k6,D6⟩;obtain⟨Z,rfl,gq⟩:∃ Z,y = .str (bI (aB Z))/\V1 I L low us Z:=by
   obtain _ | _ | _ | _:=i <;> cases M
   ·exact⟨pp,J,gp⟩
   ·exact⟨fp,J,gf⟩
   ·exact⟨pp,J,gp⟩
  have lp:=gq.w.len;have mp:=Ey (aB Z);have lr:=Q0 O.I0;have l6':("shows " : Str).length=6:=⟨⟩
  have TR:(" " : Str).length=1:=⟨⟩
  generalize Vn:d9 (I.wd::tG ps::I.nm.map tx)=ask at *
  have sy:∀(G7:Hp)(D7:Dd K uH uG G7 d x ka b pen low L rs cs)(o:Qs)(pz:Pp)(R:V->Hp->Prop)(E':XK),o.wd=I.wd->o.nm=I.nm->o.j9->cA o.tk o.tv->ub pz->(∀ G8,ag G7 G8->R (.str (ud (aH L us pz&&o.sh pz.m (bq L low pz)))) G8)->Qy K uH uG [.ref d,.str ("shows " ++ ask ++ " " ++ o.tv.wd ++ " " ++ bI (aB pz))] G7 R E':=λG7 D7 o pz R E' h1 h2 h3 h4 h5 h6=>
   ⟨d,x,ka,b,low,L,rs,cs,_,J,D7.D,.sh o ps pz (by rw[<- DD (q:=o) (ps:=ps) (p:=pz) J,h1,h2,Vn]) G0 h3 h4 h5.ok λG8 s8=>by rw[U];exact h6 G8 s8⟩
  have no:∀(o:Qs),I.uz o->I.ne o=true->ud (aH L us Z&&o.sh Z.m (bq L low Z)) = "no" := λo h1 h2=>by
   have z:=EE (q:=I) (q':=o) Lb (fW ko.symm gq.d) hm hs nA O.is h1 h2;rw[R6 gq.d,CK,z,be];rfl
  obtain⟨di6,hd6⟩:=D6.D.o;refine b_ λN8 y8=>?_;refine⟨d,di6,_,J,hd6,J,_,_,J,J,aA {},_,_,J,J,aA (by simp only[mH];lia),_,_,J,J,aA (by simp only[mH];lia),_,_,J,J,aA (by simp only[mH];lia),_,_,J,J,aA (by simp only[mH];lia),sy G6 D6 I Z _ _ J J O.j9 O.I0 gq.w λG7 s7=>⟨J,du ?_ (y8 _ _ (b_ λN9 y9=>?_))⟩⟩
  ·rw[iP.mpr gq.d,Bool.true_and,R6 gq.d,gq.s];rfl
  have D7:=D6.same s7;have JS:G7 ol=some (.lst (os.map λo=>V.str o.tv.wd)):=s7 _ _ (k6 _ _ K5 (s5 _ _ hos));refine⟨ol,J,⟨_,ao.of JS⟩,iT (K:=K) (a:=ol) (xs:=os.map λo=>V.str o.tv.wd) (λj σ G8=>∃ W:Option V,σ=[some (.ref d),some (.ref pen),some (.ref wa),some (.ref b),some (.ref th),some (.str I.wd),some (.str ask),some (.str I.tv.wd),some (.str q'.tv.wd),some v,some (.str (bI (aB pp))),some (.str (bI (aB fp))),some (.ref ol),some (.str (bI (aB Z))),W]/\ag G7 G8) ⟨_,J,ag.refl _⟩ (λj σ G8 _ ⟨_,_,s⟩=>s.seq (ao.of JS)) ?_ ?_⟩
  ·rintro j y σ G8 M ⟨LK,rfl,s8⟩;rw[WE]at M;cases ho:os[j]? with
   | none=>rw[ho]at M;cases M
   | some o=>rw[ho]at M;cases M;obtain⟨o1,o2,o3⟩:=hoa o (ZV ho);obtain⟨Kf,xr,rZ⟩:=o9 o1;have lo':=Q0 o3;have D8:=D7.same s8;obtain⟨VM,Vf⟩:=D8.D.o;refine⟨d,VM,_,J,Vf,J,_,_,J,J,aA {},_,_,J,J,aA (by simp only[mH];lia),_,_,J,J,aA (by simp only[mH];lia),_,_,J,J,aA (by simp only[mH];lia),_,_,J,J,aA (by simp only[mH];lia),sy G8 D8 o Z _ _ Kf xr (rZ O.j9) o3 gq.w λG9 s9=>⟨J,du (congrArg V.str (no o o1 o2)) ⟨_,J,s8.trans s9⟩⟩⟩
  ·rintro σ G8 ⟨LK,rfl,s8⟩;have D8:=D7.same s8;obtain⟨VM,Vf⟩:=D8.D.o;refine y9 _ _ ?_;refine⟨d,VM,_,J,Vf,J,_,_,J,J,aA {},_,_,J,J,aA (by simp only[mH];lia),_,_,J,J,aA (by simp only[mH];lia),_,_,J,J,aA (by simp only[mH];lia),pen,Z,J,D8.p,gq.b,lp,λp' G9 b9 k9 P9=>?_⟩;have w9:ub p':=⟨b9.okb gq.b,by rw[b9.shape.1];exact gq.w.d,by rw[b9.shape.2];exact gq.w.l⟩
   have lp':=w9.len;have mp':=Ey (aB p');have D9:=D8.pk k9 P9;refine⟨_,_,J,J,aA (by simp only[mH];lia),sy G9 D9 I p' _ _ J J O.j9 O.I0 w9 λG10 KP=>⟨J,du ?_ ⟨_,_,J,k6.trans ((aq.same (s7.trans s8)).trans (k9.trans (aq.same KP))),D9.same KP⟩⟩⟩;rw[b9.kept gq.d,bd];rfl
 ·rintro σ G6 ⟨yF,W,rfl,k6,D6⟩;refine y7 _ _ ?_;obtain⟨pc,rA⟩:=(DG.same s5).p.at;exact q G6 (kG.trans ((eK.of (aq.same s5)).trans (eK.of k6))) D6.p ((Yi.same s5).pen k6 rA)
def gv(H:Hp)(k:Addr):Prop:=aO λ(p:Addr) (es:List V)=>H k=some (.lst (.ref p::es))
def gv.cx(h:gv H k)(e:H a=some (.cx o u)):a≠k:=by obtain⟨p,es,h⟩:=h;exact bc e h (by intro z;cases z)
def gv.ints{l:List Int}(h:gv H k)(e:H a=some (.lst (l.map V.int))):a≠k:=by
 obtain⟨p,es,h⟩:=h;refine bc e h ?_;intro z;cases l with
 | nil=>cases z
 | cons a l=>simp at z
def gv.of{B:LL}(h:cE H l B)(O:0<B.length):gv H l:=by
 obtain⟨I,N,M,_⟩:=h;cases I with
 | nil=>exact absurd M (by show ¬ 0=B.length;lia)
 | cons p es=>exact⟨p,es.map V.ref,N⟩
def cE.same(h:cE H l rs)(s:ag H H'):cE H' l rs:=by obtain⟨B,U,S,O⟩:=h;refine⟨B,s _ _ U,S,λj r g=>?_⟩;obtain⟨I,N,M⟩:=O j r g;exact⟨I,N,s _ _ M⟩
def cE.snoc{I:LL}{r:List Int}{M:List Addr}(h:cE H l I)(e:H l=some (.lst (M.map V.ref)))(hr:H ra=some (.lst (r.map V.int)))(Y:0<I.length)(k:aq l H H')(h':H' l=some (.lst (M.map V.ref++[.ref ra]))):cE H' l (I++[r]):=by
 have R:=gv.of h Y;obtain⟨B,W,e2,e3⟩:=h;have he:B=M:=by rw[e]at W;have:=HO.lst.inj (am W);exact(List.map_inj_right (λa b h=>by injection h)).mp this.symm
 subst he;refine⟨B++[ra],by rw[WF];exact h',by rw[ZM,ZM,e2];rfl,λj S g=>?_⟩;by_cases Z:j<I.length
 ·rw[WO Z]at g;obtain⟨N,g1,U⟩:=e3 j S g;exact⟨N,by rw[WO {}];exact g1,k _ _ (R.ints U) U⟩
 ·have O:j=I.length:=by have:=(ac g).1;rw[ZM]at this;have t2:j<I.length+1:=this;lia
  subst O;rw[WM (ZF _),Nat.sub_self]at g;obtain rfl:r=S:=am g;exact⟨ra,by rw[WM {},show I.length-B.length=0 by lia];rfl,k _ _ (R.ints hr) hr⟩
def cE.ka(h:cE H l rs)(s:aq k H H')(N:gv H k)(n:l≠k):cE H' l rs:=by obtain⟨B,W,U,S⟩:=h;refine⟨B,s _ _ n W,U,λj r g=>?_⟩;obtain⟨M,O,I⟩:=S j r g;exact⟨M,O,s _ _ (N.ints I) I⟩
def lO.ka(h:lO K H a xs)(s:aq k H H')(B:gv H k):lO K H' a xs:=by
 rcases h with ⟨o,h⟩ | h
 ·exact .inl ⟨o,s _ _ (B.cx h) h⟩
 ·exact .inr h
def dc.rf{low:Int}{L:Nat}{B:LL}(M:dc C H x ka b low L B cs)(h:0<B.length):gv H ka:=M.first h
def uN(ns:List Int):d9 (("row" : Str)::ns.map tx)=dC "" "row" (ns.map Vl.n):=by show _=d9 (fw "" ++ ("row" : Str)::(ns.map Vl.n).map Vl.wd);rw[show fw "" = []from ZL J,map_map];rfl
structure Lw(K:Fg)(C M:Addr)(a pen b d x ka rl:Addr)(nZ:List Int)(low:Int)(L:Nat)(ds rs cs:LL)(G:Hp):Prop where
 s:lO K G a (nZ.map V.int)
 p:aJ G pen
 D:fI C M G d x ka b low L ds cs
 R:cE G rl rs
 nk:rl≠ka
 pos:0<rs.length
 f_:0<ds.length
def Lw.same{K:Fg}{C M:Addr}{a pen b d x ka N:Addr}{B:List Int}{low:Int}{L:Nat}{ds I cs:LL}{G G':Hp}(h:Lw K C M a pen b d x ka N B low L ds I cs G)(s:ag G G'):Lw K C M a pen b d x ka N B low L ds I cs G':=
 ⟨h.s.same s,h.p.same s,h.D.same s,h.R.same s,h.nk,h.pos,h.f_⟩
def Lw.BB{K:Fg}{C M:Addr}{a pen b d x ka N q:Addr}{B:List Int}{low:Int}{L:Nat}{ds I cs:LL}{G G':Hp}(h:Lw K C M a pen b d x ka N B low L ds I cs G)(k:aq q G G')(P:aJ G q)(n:q≠pen):Lw K C M a pen b d x ka N B low L ds I cs G':=by obtain⟨xs,O⟩:=P.at;exact⟨h.s.keep k O,h.p.keep n k,h.D.keep k O (h.D.m.pen h.f_ P),h.R.kp P k,h.nk,h.pos,h.f_⟩
def Lw.made{K:Fg}{C M:Addr}{a pen b d x ka N:Addr}{B:List Int}{low:Int}{L:Nat}{ds I cs:LL}{r c:List Int}{G G':Hp}(h:Lw K C M a pen b d x ka N B low L ds I cs G)(k:aq ka G G')(S:fI C M G' d x ka b low L (ds++[r]) (cs++[c])):Lw K C M a pen b d x ka N B low L (ds++[r]) I (cs++[c]) G':=by have R:=h.D.m.rf h.f_;obtain⟨es,O,-⟩:=h.D.m.hk;exact⟨h.s.ka k R,h.p.keep (h.D.m.pen h.f_ h.p) k,S,h.R.ka k R h.nk,h.nk,h.pos,by rw[ZM];exact WG h.f_ (Nat.le_add_right _ _)⟩
def dc.CG{low:Int}{L:Nat}(M:dc C H x ka b low L rs cs)(k:eK q H H')(P:aJ H q)(n:ka≠q):dc C H' x ka b low L rs cs:=by
 obtain⟨dx,B⟩:=M.o;obtain⟨es,h1,h2,O⟩:=M.hk;obtain⟨ys,e⟩:=P.at;have kt:∀{a:Addr}{zs:List V},H a=some (.tup zs)->H' a=some (.tup zs):=λh=>k _ _ (bc h e (by intro z;cases z)) (by intro _ z;cases z) h;have tk:aw H H':=λ_ _=>⟨λh=>kt h,λ_ h=>k _ _ (bc h e (by intro z;cases z)) (by intro _ z;cases z) h⟩
 refine⟨⟨dx,k _ _ (bc B e (by intro z;cases z)) (by intro _ z;cases z) B⟩,kt M.hb,M.hL,M.len,M.eS,⟨es,k.l n h1,h2,λj r c hr N=>?_⟩,M.ok⟩;obtain⟨I,a,v,Y,W,U,S⟩:=O j r c hr N;exact⟨I,a,v,Y,kt W,U.tk tk,kt S⟩
def fI.CG{low:Int}{L:Nat}(D:fI C M H d x ka b low L rs cs)(k:eK q H H')(P:aJ H q)(n:ka≠q):fI C M H' d x ka b low L rs cs:=by obtain⟨dd,hd⟩:=D.o;obtain⟨ys,e⟩:=P.at;exact⟨⟨dd,k _ _ (bc hd e (by intro z;cases z)) (by intro _ z;cases z) hd⟩,D.m.CG k P n,D.lo,D.hi⟩
def Lw.CG{low:Int}{L:Nat}(h:Lw K C M a pen b d x ka rl nZ low L ds rs cs G)(k:eK q G G')(P:aJ G q)(n:q≠pen):Lw K C M a pen b d x ka rl nZ low L ds rs cs G':=by
 obtain⟨ys,e⟩:=P.at;obtain⟨B,I,U,S⟩:=h.R;refine⟨?_,?_,h.D.CG k P (h.D.m.pen h.f_ P),⟨B,k.l (EC P I) I,U,λj r g=>?_⟩,h.nk,h.pos,h.f_⟩
 ·rcases h.s with ⟨o,z⟩ | z
  ·exact .inl ⟨o,k _ _ (bc z e (by intro y;cases y)) (by intro _ y;cases y) z⟩
  ·exact .inr z
 ·obtain⟨c,Y,m,z⟩:=h.p;exact⟨c,Y,m,k.l (Ne.symm n) z⟩
 ·obtain⟨O,W,N⟩:=S j r g;exact⟨O,W,k.l (DI P N) N⟩
def fh.first(h:∀ T∈([455,448,441,434,427]:List Addr),H T=some (.fG #[])):fh H:=λq hq=>by
 have:q.1∈([455,448,441,434,427]:List Addr):=by
  have z:∀ q∈ur,q.1∈([455,448,441,434,427]:List Addr):=⟨⟩
  exact z q hq
 exact⟨#[],h _ this,trivial,.inl J⟩
noncomputable def iC(H:Hp)(low:Int)(L:Nat)(us:List V)(B:LL):Prop:=us.length=B.length /\ ∀(j:Nat)(u:V)(r:List Int),us[j]? = some u->B[j]? = some r->AL H u (grow low L r)
def iC.tk{low:Int}{L:Nat}(h:iC H low L us rs)(k:aw H H'):iC H' low L us rs:=⟨h.1,λj u r h1 h2=>(h.2 j u r h1 h2).tk k⟩
def eK.tk(k:eK q H H')(P:aJ H q):aw H H':=by obtain⟨ys,e⟩:=P.at;exact λ_ _=>⟨λh=>k _ _ (bc h e (by intro z;cases z)) (by intro _ z;cases z) h,λ_ h=>k _ _ (bc h e (by intro z;cases z)) (by intro _ z;cases z) h⟩
def yY{low:Int}{L:Nat}{t:P3}(h:iC H low L us rs)(g:us[t.1]? = some u)(hs:sY rs t)(hp:H p=some (.tup [u,.int (t.2.1:Int),.int (t.2.2:Int)])):c6 H L (.ref p) (jk low rs t):=by obtain⟨r,hr,_⟩:=hs;have z:=h.2 _ u r g hr;rw[EL]at z;exists p,u,J,hp;unfold jk;rw[WS,hr];exact z
def yN{vs:List TS.I3}{low:Int}{L:Nat}(h:H l=some (.lst zs))(z:Paired (fN K H) zs vs)(S:vs.Perm (oM rs 0 ts))(I:vs.Pairwise λx y=>TS.dJ y x=false)(M:lM rs ts)(hw:∀ r∈rs,bz low L r)(U:(tM rs ts).length<=15)(O:∀ x y:TS.I3,TS.dJ y x=false->x.1<=y.1):lN K H l zs vs low L (cI low rs ts):=by
 have B:(vs.map (·.1)).Perm (tM rs ts):=by rw[<- Fm ts 0 M];exact S.map _
 refine⟨h,z,by rw[<- ZK (f:=(·.1)),B.length_eq];exact U,λn Y=>?_,?_,by rw[oB];exact B.map _⟩
 ·obtain⟨t,W,N⟩:=List.mem_flatMap.mp (B.mem_iff.mp Y);obtain⟨ns,h1,_⟩:=M t W;rw[WS,h1]at N;exact hw ns (ZV h1) n (YG (mem_of_mem_drop N))
 ·rw[pairwise_map];exact I.imp fun {x y} e=>O x y e
theorem Mj(h:∀ ns∈gE,ns.length<=5):∀ ts:List T3,(tM gE ts).length<=5*ts.length
 | []=>ZF _
 | t::r=>by
  have B:=Mj h r;have hd:(gE.getD t.1 []).length<=5:=by
   rw[WS];cases e:gE[t.1]? with
   | none=>exact ZX _
   | some ns=>exact h ns (ZV e)
  show(((gE.getD t.1 []).take t.2.2).drop t.2.1++tM gE r).length<=_;rw[ZM,length_drop,WL,WB];lia
def BO(x y:TS.I3)(e:TS.dJ y x=false):x.1<=y.1:=by
 rcases TS.mO.mp e with h | h <;> lia
def NI{X:L2.Cx}{K:Fg}(h:X.K=K):L2.b8 X (.type "list") (L2.AJ K):=by subst h;exact L2.Mf
abbrev yn:Nat:=112
abbrev oZ(K:Fg):Sp:=FW K [455,448,441,434,427]
def BI(z:Bz K mg base uA uB uC uD uE uF uG uH):∀(f:Addr)(fd:FuncData),lS K "law" "law" iq f fd->cC P w K mg base il yn f fd ["_law_script"] (oZ K):=by
 have sc:=ze;intro f fd F;refine F.ok sc (λ_ _ _ _ ⟨_,_,e,_⟩=>by rw[e];rfl) λ_ _ _ s H _ Q _ hr h=>?_;obtain⟨a,nZ,rfl,hS,VC,hT,Xa,q⟩:=h;refine⟨_,(aj (aF 1 sc.nd (aC (kO z) hr (aY kb ah)))
 (aj (aF 2 sc.nd (aC (Ro z) hr (ar kv)))
 (aj (aF 3 sc.nd (yi (zv z) hr.m () z.BM (ar bv)))
 (aj (aF 4 sc.nd (tS (ar (tS fU))))
 (aj (pO bn J (jo J z.cz (ar ah)) (cq 5 sc.nd)
 (aj (d6 (bG YF YM YN ke (pr 4) (ar (aC (Ab z) hr (bW (aC (kO z) hr (aY kb (ae dk ah (pr 5)))) bv ah)))))
 (bF (aW (aN bX (Bp (fu z) hr.m bi (ar (bG WW YO YQ Ba aR (ar (ae Qu (tS (ar aR)) (kf (cl:=[]) (cn:=[]) (N:=[]) (fr:=[]) (bB:=aI iq) J (cw (aG cS (pr 4) (lZ Fi ah))) (λC s₂ H₂ fp=>(ei gD () z.cj kh (ar kb))) (by ac_rfl) trivial J J J eT J)))))) (ei gD () z.cj kh (ar (ae lW (dH z.bE (ar (pr 4))) ah))))
 (az bx)))))
 (aj (aF 6 sc.nd (kf (cl:=[("_law_bounds_here", s.heap.objs.size+1+0)]) (cn:=["_law_bounds_here"]) (N:=["_law_bounds_here"]) (fr:=[2]) (bB:=aI iq) J (cw (pr 4)) (λC s₂ H₂ fp=>(aC (Gw z) hr (aY kv (ei (NI (K:=K) J) () z.Ji xE (ar kb))))) (by ac_rfl) ⟨by ac_rfl,trivial⟩ J J J eT J))
 (aj (pO bn J (jo J z.cz (ar ah)) (cq 5 sc.nd)
 (aj (aF 7 sc.nd (aC (kO z) hr (aY kb (ae dk ah (pr 5)))))
 (aj (aF 8 sc.nd (aC (Fo z) hr (bW (pr 7) (pr 4) ah)))
 (aj (aF 9 sc.nd (aC (Rh z) hr (aY (pr 4) (pr 8))))
 (aj (Af (i:=10) (x := "_law_make") (cl:=[("_law_trees", s.heap.objs.size+1+1)]) (cn:=["_law_trees"]) (TN:=["_law_start", "_law_end"]) (N:=["_law_trees"]) (fr:=[6]) (bB:=aI iq) sc.nd J (Or.inl J) J (cw (pr 8)) (λC s₂ H₂ fp=>(tT (bW (aG (AG (K:=K) J) bi kb) kv bv))) (λC s₂ H₂ fp=>qa) (λC s₂ H₂ fp=>(kF (K:=K) (n:=3) J J (cF (kg (i:=0) (show(["_law_make", "_law_start", "_law_end", "_law_trees"]:List Str).Nodup from ⟨⟩) J (Or.inl J)) (cF (kg (i:=1) (show(["_law_make", "_law_start", "_law_end", "_law_trees"]:List Str).Nodup from ⟨⟩) J (Or.inl J)) (cF (kg (i:=2) (show(["_law_make", "_law_start", "_law_end", "_law_trees"]:List Str).Nodup from ⟨⟩) J (Or.inl J)) jq))))) (by ac_rfl) ⟨by ac_rfl,trivial⟩ J J J ⟨⟨⟩,⟨⟩,⟨⟩,⟨⟩⟩ J (by ac_rfl) (.inl J))
 (aj (HI (aC (Qw z) hr (dI (pr 7) bv (pr 9) (pr 10))) (IE J (cF (cq 11 sc.nd) (cF (cq 12 sc.nd) (cF (cq 13 sc.nd) (cF (cq 14 sc.nd) (cF (cq 15 sc.nd) jq)))))))
 (aj (aF 16 sc.nd (bG WW YO YQ Ba aR (ar (ae Qu (tS (aY (pr 11) (aC (Sn z) hr (ar (pr 8))))) (pr 12)))))
 (aj (aF 17 sc.nd (tT (dA (pr 11) (dI (pr 16) (pr 13) (pr 14) (pr 15)))))
 (aj (aW (Eh (uQ (aC (Ga z) hr (dA bi (dI (pr 7) (pr 17) bv (pr 9))))))
 (az bx))
 (bF (aW (Eh (uQ (aC (vz z) hr (dA bi (dI (pr 7) (aC (Sn z) hr (ar (pr 8))) bv (pr 9))))))
 (az bx))))))))))))
 (az bx)))))))),?_⟩
 symm;have S0:lO K H a (nZ.map V.int):=by
  rcases hS with (h | h) | h
  ·exact absurd h (Xa _ _)
  ·exact .inl h
  ·exact .inr h
 have t0:=fh.first hT
 refine b_ λN1 y1=>?_;refine⟨a,nZ,0,J,hS,VC,∅,∅,λpen H1 UD s1 P1=>?_⟩;have S1:=S0.same s1;have t1:=t0.same s1;refine y1 _ _ (b_ λN2 y2=>?_);refine⟨pen,J,P1,λb low L H2 k2 P2 hb hL lo0 lo1=>?_⟩;have S2:=P1.Ym k2 S1;obtain⟨pc,rA⟩:=P1.at;have t2:=t1.pen k2 rA;have oa:=b7 L;have Z_:=qH hL;refine y2 _ _ (b_ λN3 y3=>?_);clear S0 S1 s1 k2 P1 UD hS t0 t1 y1 y2;refine λd di hd Xk eP=>?_;have s8:ag H2 (upd (upd H2 di (.own d)) d (.ins uH di [])):=(aM Xk _).trans (aM (by rw[bC (Ne.symm eP)];exact hd) _);refine⟨d,b,di,low,L,J,ax,s8 _ _ hb,hL,{},{},λx ka H9 U0 k9 D9=>⟨J,?_⟩⟩;have s9:ag H2 H9:=λc o hc=>k9 _ _ (cO hc hd) (s8 _ _ hc);refine y3 _ _ (b_ λN4 y4=>?_);refine⟨aZ J,λia U7 HB sB hB=>⟨aZ J,λrl t9 HA sC eA=>?_⟩⟩;have sA:=sB.trans sC;have eB:=sC _ _ hB;have W6:rl≠ka:=by obtain⟨es,JZ,-⟩:=D9.m.hk;exact Ne.symm (cO (sB _ _ JZ) t9)
 have T0:Lw K uH uG a pen b d x ka rl nZ low L [[]] [[]] [[]] HA:=by
  refine⟨(S2.same s9).same sA,(P2.same s9).same sA,D9.same sA,⟨[ia],eA,J,λj r g=>?_⟩,W6,∅,∅⟩
  match j,g with
  | 0,g=>cases g;exact⟨ia,J,eB⟩
 have tA:=(t2.same s9).same sA;clear s8 s9 sA eA eB W6 D9 k9 U0 hd Xk eP U7 t9 S2 P2 hb t2;refine y4 _ _ (b_ λN5 y5=>?_);refine⟨_,J,∅,∅,Ed (n:=2) (λi σ G=>bR λ(I cs:LL) (v5:Option V)=>gB (σ=[some (.ref a),some (.ref pen),some (.ref b),some (.ref d),some (.ref rl),v5,none,none,none,none,none,none,none,none,none,none,none,none]) (Lw K uH uG a pen b d x ka rl nZ low L I I cs G) (fh G) (I.length=i+1) (I[0]? = some []) (∀ r∈I,bz low L r/\r.length<=5)) ⟨[[]],[[]],_,J,T0,tA,J,J,λr hr=>?_⟩ ?_ ?_⟩
 ·rw[eD hr];exact⟨λ_ z=>(by cases z),ZX _⟩
 ·rintro i σ G hi ⟨I,cs,v5,rfl,T,tb,hn,Lo,h5⟩;obtain⟨zo,el,B3,CO⟩:=id T.R;refine b_ λN6 y6=>?_;refine⟨.inl ⟨J,_,ao.of el⟩,a,nZ,_,J,T.s.sq,VC,{},{},λp G1 hp s1 Pp=>?_⟩;have T1:=T.same s1;have CC:p≠pen:=T.p.fresh hp;refine⟨p,b,low,5,L,J,Pp,T1.D.m.hb,hL,∅,∅,λr ns G3 k3 P3 hr Lf hl hw=>?_⟩;have T3:=T1.BB k3 Pp CC;obtain⟨pc2,UE⟩:=Pp.at;have t3:=(tb.same s1).pen k3 UE;obtain⟨zm,C1,JP,_⟩:=id T3.R;exists rl,_,_,J,J,C1,by rw[ZK,JP];exact fM {}
  have k4:aq rl G3 (upd G3 rl (.lst (zm.map V.ref++[.ref r]))):=aq.set rl G3 _;have R4:=T3.R.snoc C1 hr T.pos k4 ax;have e4:=@ax G3 rl (.lst (zm.map V.ref++[.ref r]));have t4:=t3.pen k4 C1;generalize upd G3 rl (.lst (zm.map V.ref++[.ref r]))=G4 at k4 R4 e4 t4 ⊢;have CP:=k4 _ _ ((gv.of T3.R T.pos).ints hr) hr;have T4:Lw K uH uG a pen b d x ka rl nZ low L I (I++[ns]) cs G4:=⟨T3.s.keep k4 C1,T3.p.keep (EC T3.p C1) k4,T3.D.keep k4 C1 (Ne.symm T.nk),R4,T.nk,by rw[ZM];lia,T.f_⟩
  obtain⟨di4,hd4⟩:=T4.D.o;refine y6 _ _ ?_;refine⟨d,di4,_,J,hd4,J,J,aZ J,λp5 t_ G5 s5 h5'=>?_⟩;have J3:∀ m∈ns,-(10^50)<m/\m<10^50:=λm hm=>by
   have:=hw m hm;lia
  have UN:ns.length<=5:={}
  refine⟨_,J,_,_,ao.of (s5 _ _ e4),sR _ _,r,J,⟨_,ao.of (s5 _ _ CP)⟩,λD hD=>mD (K:=K) (xs:=ns.map V.int) (g:=XA) (ao.of (s5 _ _ CP)) hD (by rw[ZK];exact aA {}) ?_ ?_⟩
  ·rintro y W G6 Q6 s6 q6;obtain⟨m,hm,rfl⟩:=eE W;have:=J3 m hm;exact⟨m,J,cL {} {},q6⟩
  rw[xl];refine⟨p5,D,_,_,J,J,aM hD _ _ _ h5',ax,aA (by rw[ZK,ZK];show 1+ns.length<=100000;lia),λp6 UG=>?_⟩;have s6:=s5.trans ((aM hD (.lst ((ns.map tx).map V.str))).trans (aM UG (.lst ([V.str "row"]++(ns.map tx).map V.str))));have T6:=T4.same s6;have t6:=t4.same s6;refine⟨" ", p6, "row" :: ns.map tx,J,J,ao.of ax,f7 ⟨⟩ (B:=51) (λy W=>?_) (by rw[WB,ZK];lia),d,x,ka,b,low,L,I,cs,_,J,T6.D,.row ns (by rw[KO,vI];exact uN ns) {} hw {} λG7 k7 D7=>?_⟩
  ·rcases ad W with rfl | W
   ·decide +kernel
   ·obtain⟨m,hm,rfl⟩:=eE W;exact IK (J3 m hm).1 (J3 m hm).2
  have T7:=T6.made k7 D7;obtain⟨es,JZ,-⟩:=T6.D.m.hk;have t7:=t6.pen k7 JZ;obtain⟨L_,el7,JO,_⟩:=id T7.R;have UW:(L_.map V.ref).length=I.length+1:=by rw[ZK,JO,ZM];rfl
  refine⟨rl,_,J,.inl (ao.of el7),_,J,cL (by rw[UW];lia) (by rw[UW];lia),J,du (congrArg V.str ?_) ⟨I++[ns],cs++[[]],_,J,T7,t7,by rw[ZM];show I.length+1=_;lia,by rw[WO {}];exact Lo,λr' Z8=>?_⟩⟩
  ·rw[UW];show tx _=tx _;congr 1;lia
  ·rcases eC Z8 with h | h
   ·exact h5 r' h
   ·rw[eD h];exact⟨hw,UN⟩
 ·rintro σ G ⟨I,cs,v5,rfl,T,tb,hn,Lo,h5⟩;refine y5 _ _ (b_ λN6 y6=>?_);obtain⟨zo,el,B3,CO⟩:=id T.R;have Z6:I.length=3:={}
  refine⟨rl,J,⟨_,ao.of el⟩,λD hD=>?_⟩;refine eY (K:=K) (xs:=zo.map V.ref) (aA (by rw[ZK];lia)) (λj us G1=>us.length=j/\ag G G1/\G1 D=some (.lst us)/\iC G1 low L us (I.take j)) ⟨J,aM hD _,ax,⟨J,λj u r h _=>by cases h⟩⟩ (λj us G1 ⟨_,s,_⟩=>s.seq (ao.of el)) (λj us G1 ⟨e1,_,Z,_⟩=>⟨Z,e1⟩) ?_ ?_
  ·rintro j y us G1 W ⟨e1,e2,Z,e4⟩;rw[WE]at W;have hj:j<I.length:=by
    cases e:zo[j]? with
    | none=>rw[e]at W;cases W
    | some z=>rw[<- B3];exact(ac e).1
   have gr:I[j]? = some I[j]:=ZP hj;generalize I[j]=r at gr;obtain⟨ra,g1,g2⟩:=CO j r gr;rw[g1]at W;cases W;obtain⟨hw,hl5⟩:=h5 r (ZV gr);refine⟨ra,_,J,.inl (ao.of (e2 _ _ g2)),λl hl=>?_⟩;obtain⟨G2,q2,s2,h2⟩:=cH hl (.lst (r.map V.int));rw[q2];refine⟨b,l,low,L,r,J,au.of ((e2.trans s2) _ _ T.D.m.hb),hL,ao.of h2,{},hw,λG3 v s3 hv=>?_⟩;have L8:=s2.trans s3;have rZ:=L8 _ _ Z;have tk:aw G3 (upd G3 D (.lst (us++[v]))):=aw.set rZ;exists rZ,by rw[ZM,e1];rfl,ag.own (e2.trans L8) hD,ax
   rw[WK,gr];have e5:=(e4.tk (.same L8)).tk tk;refine Ar (R:=λu r=>AL (upd G3 D (.lst (us++[v]))) u (grow low L r)) ⟨e5.1,e5.2⟩ (hv.tk tk)
  ·rintro us G1 ⟨e1,e2,Z,e4⟩;rw[ZK,B3,WR]at e4;have T1:=T.same e2;have t1:=tb.same e2;refine y6 _ _ (b_ λN7 y7=>?_);refine⟨_,J,∅,∅,Ed (n:=8) (λi σ G=>Cn λ(w5 w7 w8 w9 C_ LO LN yF LM:Option V)=>bR λ(LJ LI LH:Option V)=>dw (σ=[some (.ref a),some (.ref pen),some (.ref b),some (.ref d),some (.ref rl),w5,some (.ref D),w7,w8,w9,C_,LO,LN,yF,LM,LJ,LI,LH]) (Lw K uH uG a pen b d x ka rl nZ low L I I cs G) (fh G) (G D=some (.lst us)) (iC G low L us I)) ⟨_,_,_,_,_,_,_,_,_,_,_,_,J,T1,t1,Z,e4⟩ ?_ ?_⟩
   ·rintro i σ G2 hi ⟨w5,w7,w8,w9,C_,LO,LN,yF,LM,LJ,LI,LH,rfl,T2,t2,jL,Vr⟩;have yo:∀ ts:List T3,ts.length<=3->(tM I ts).length<=15:=λts h=>ZT (Mj (λr hr=>(h5 r hr).2) ts) {};have Kc:∀ r∈I,r.length<=100:=λr hr=>ZT (h5 r hr).2 ∅;refine b_ λN8 y8=>?_;refine⟨a,nZ,_,J,T2.s.sq,VC,{},{},λp G3 hp s3 Pp=>?_⟩;have T3:=T2.same s3;have t3:=t2.same s3;have ec:=s3 _ _ jL;have Xq:=Vr.tk (.same s3);have CC:p≠pen:=T2.p.fresh hp;have K7:D≠p:=cO jL hp;clear T2 t2 jL Vr s3 hp;refine y8 _ _ (b_ λN9 y9=>?_);clear y8;refine⟨p,rl,_,I,J,Pp,T3.R,{},{},Kc,∅,∅,λS ys ts G4 k4 P4 hS Xt Vq aD jJ hlg=>?_⟩;have T4:=T3.BB k4 Pp CC;obtain⟨pc,rA⟩:=Pp.at;have t4:=t3.pen k4 rA;have kr:=k4 _ _ K7 ec;have Xp:=Xq.tk (Pp.tk k4);have Wu:S≠p:=Pp.fresh Xt;have Xe:ts.length<=3:={}
    clear T3 t3 ec Xq hlg Xt Pp k4 rA;refine y9 _ _ (b_ λN10 xT=>?_);clear y9;refine⟨rl,S,ys,I,ts,J,T4.R,Kc,ao.of hS,Vq,aD,{},Nat.lt_of_le_of_lt (yo ts Xe) ∅,λl zs vs G5 s5 hl CT hz ko nC=>?_⟩;have Xz:=yo ts Xe;have Wg:=yN hl hz ko nC aD (λr hr=>(h5 r hr).1) Xz BO;have T5:=T4.same s5;have t5:=t4.same s5;have P5:=P4.same s5;have oj:=s5 _ _ kr;have Lp:=Xp.tk (.same s5);have Lq:=s5 _ _ hS;have Y:=Vq.tk (.same s5);have I_:l≠p:=P4.fresh CT;clear T4 t4 kr Xp hS Vq P4 hl CT hz ko nC s5;refine xT _ _ (b_ λN11 V_=>?_);clear xT;refine⟨S,J,⟨_,ao.of Lq⟩,λD2 Cb=>?_⟩;refine vL (K:=K) (xs:=ys) (aA (by have:=Y.1;lia)) (λj O G=>O.length=j/\j<=ts.length/\ag G5 G/\G D2=some (.lst O)/\aE G L O ((ts.take j).map (jk low I))) ⟨J,ZX _,aM Cb _,ax,⟨J,λj x g h=>by cases h⟩⟩ (λj O G ⟨_,_,s,_⟩=>s.seq (ao.of Lq)) (λj O G ⟨e1,_,_,e4,_⟩=>⟨e4,Nat.le_of_eq e1⟩) ?_ ?_
    ·rintro j y O G W ⟨e1,e2,Z,e4,e5⟩ yG B0;have hj:=(ac W).1;have Xn:=Y.1;have gt:ts[j]? = some (ts[j]'{}):=ZP _;generalize ts[j]'{}=t at gt;obtain⟨pa,rfl,ha⟩:=Y.2 j y t W gt;have Ur:=aD t (ZV gt);obtain⟨r,hr,JR,Uz⟩:=id Ur;have hu:t.1<us.length:=by rw[Lp.1];exact(ac hr).1
     have gu:us[t.1]? = some us[t.1]:=ZP hu;generalize us[t.1]=u at gu
     obtain⟨x0,x1,x2,rfl⟩:=l_3 B0
     ·refine⟨pa,_,J,au.of (Z _ _ ha),J,_,_,J,_,_,J,_,_,J,J,⟨[_,_,_],J,J⟩,bM ?_⟩;refine⟨us,u,ao.of (Z _ _ oj),dm gu,aZ J,λpp yp G6 s6 h6=>?_⟩;have XN:=s6 _ _ e4;have tk:aw G6 (upd G6 D2 (.lst (O++[.ref pp]))):=aw.set XN;exists XN,by rw[ZM,e1];rfl,{},ag.own (Z.trans s6) Cb,ax
      rw[WK,gt,WF];have e6:=(e5.tk (.same s6)).tk tk;have sx:=(yY (Lp.tk (.same (Z.trans s6))) gu Ur h6)
      exact Ar (R:=λx g=>c6 (upd G6 D2 (.lst (O++[.ref pp]))) L x g) ⟨e6.1,e6.2⟩ (sx.tk tk)
    ·rintro O G6 ⟨e1,e2,Z,e4,e5⟩;rw[Y.1,WR]at e5;have T6:=T5.same Z;have t6:=t5.same Z;have P6:=P5.same Z;have J_:=Z _ _ oj;have Xo:=Lp.tk (.same Z);have Xs:=Z _ _ Lq;have J6:=Y.tk (.same Z);have M:=Wg.same Z;have Y_:D2≠p:=P5.fresh Cb;have gd:∀ g∈ts.map (jk low I),aK L g:=λg hg=>by
      obtain⟨t,ht,rfl⟩:=eE hg;exact ED (aD t ht) λr hr=>⟨(h5 r hr).1,ZT (h5 r hr).2 ∅⟩
     have CK:(cI low I ts).length<=15:=by rw[oB];unfold bD;rw[ZK];exact Xz
     have g6:jg K G6 b D2 O low L (ts.map (jk low I)):=⟨T6.D.m.hb,hL,e4,e5,gd,by rw[ZK];lia,ZT CK ∅,t6⟩
     have oh:fE L (cI low I ts):=ib gd;have km:∀ t∈ts,uc t:=λt ht=>x4 (aD t ht) {} λr hr=>ZT (h5 r hr).2 ∅;have Xv:lR low I ts:=⟨λz=>(by rw[z]at jJ;cases jJ),{},aD,ZT CK ∅⟩
     clear T5 t5 P5 oj Lp Lq Y Wg Z e4 e5 Cb;refine V_ _ _ (b_ λN12 V9=>?_);clear V_;refine⟨p,b,l,D2,zs,O,vs,low,L,_,J,P6,g6,Y_,T6.D.lo,T6.D.hi,M.h,I_,M.z,M.l,M.w,M.s,M.p,λwa ml v q1 q2 ms G7 k7 P7 t7 hA hm1 UP JG Xc hv=>?_⟩;exists wa,_,J,au.of JG,J,_,_,J,_,_,J,_,_,J,_,_,J,_,_,J,J;have T7:=T6.CG k7 P6 CC;have Cu:=k7.tk P6;have lh:=k7.l K7 J_;have hT7:=Xo.tk Cu;have Xr:=k7.l Wu Xs;have J5:=J6.tk Cu;have Wf:lN K G7 l zs vs low L (cI low I ts):=⟨k7.l I_ M.h,d7 Cu M.z,M.l,M.w,M.s,M.p⟩
     clear T6 t6 P6 J_ Xo Xs J6 M g6 k7 Cu gd;refine V9 _ _ (b_ λN13 V8=>?_);clear V9;refine⟨J,S,ys,ts,J,ao.of Xr,J5,{},km,λG8 s8=>?_⟩;refine⟨aZ J,λp8 W8 GY s8' h8'=>?_⟩;have UB:=q1.al;rw[ZK]at UB;refine⟨p8,ml,[.str q1.wd,.str (tG ts)],(q1.nm.map tx).map V.str,J,J,h8',s8' _ _ (s8 _ _ Xc),aA (by rw[ZK,ZK];show 2+q1.nm.length<=100000;lia),λp9 Lj=>?_⟩;have s9:=s8.trans (s8'.trans (aM Lj (.lst ([.str q1.wd,.str (tG ts)]++(q1.nm.map tx).map V.str))));have h9:upd GY p9 (.lst ([.str q1.wd,.str (tG ts)]++(q1.nm.map tx).map V.str)) p9=some (.lst ((q1.wd::tG ts::q1.nm.map tx).map V.str)):=ax;generalize upd GY p9 (.lst ([.str q1.wd,.str (tG ts)]++(q1.nm.map tx).map V.str))=G9 at s9 h9 ⊢;exists " ", p9,q1.wd::tG ts::q1.nm.map tx,J,J,ao.of h9,f7 ⟨⟩ (B:=20000) (λy W=>?_) (by rw[WB,WB,ZK];lia)
     ·rcases ad W with rfl | W
      ·exact kK q1
      ·rcases ad W with rfl | W
       ·exact ZT (PQ {} km) ∅
       ·obtain⟨n,hn,rfl⟩:=eE W;obtain⟨k,hk⟩:=uS q1.kl (Qs.K4 hA.j9) (.n n) (mem_map_of_mem hn);exact Q0 hk
     rw[KO,vI];refine V8 _ _ (b_ λN14 V7=>?_);clear V8;refine⟨aZ J,λwb Zt GA sA VB=>?_⟩;refine V7 _ _ (b_ λN15 XZ=>?_);clear V7;have s7:=s9.trans sA;have TA:=T7.same s7;have PA:=P7.same s7;refine⟨d,p,wb,b,l,x,ka,zs,vs,low,L,I,cs,ts,q1,q2,ms,v,J,⟨TA.D,PA,TA.D.m.pen TA.f_ PA,Lo⟩,Xv,Wf.same s7,I_,km,t7.same s7,hA,hm1,UP,VB,hv.same s7,oh,λGB kB PB tB=>?_⟩;have TB:=TA.CG kB PA CC;have LR:=kB.tk PA;have hDB:=kB.l K7 (s7 _ _ lh);have hTB:=(hT7.tk (.same s7)).tk LR;have hSB:=kB.l Wu (s7 _ _ Xr);have Vp:=(J5.tk (.same s7)).tk LR;have U:=Wf.same s7;have Yb:lN K GB l zs vs low L (cI low I ts):=⟨kB.l I_ U.h,d7 LR U.z,U.l,U.w,U.s,U.p⟩
     refine⟨true,J,aU ?_⟩;refine XZ _ _ ?_;refine⟨S,ys,ts,J,ao.of hSB,Vp,{},km,λGC sC=>?_⟩;have TC:=TB.same sC;have PC:=PB.same sC;refine⟨d,p,b,l,x,ka,zs,vs,low,L,I,cs,ts,J,⟨TC.D,PC,TC.D.m.pen TC.f_ PC,Lo⟩,Xv,Yb.same sC,I_,km,λGD kD PD=>?_⟩;obtain⟨pd,hpd⟩:=PC.at;refine⟨true,J,aU ?_⟩;exact⟨_,_,_,_,_,_,_,_,_,_,_,_,J,TC.BB kD PC CC,(tB.same sC).pen kD hpd,kD _ _ K7 (sC _ _ hDB),(hTB.tk (.same sC)).tk (PC.tk kD)⟩
   ·rintro σ G2 ⟨w5,w7,w8,w9,C_,LO,LN,yF,LM,LJ,LI,LH,rfl,T2,t2,jL,Vr⟩;refine y7 _ _ ?_;exact q _
end My
open PySem PySem.W PyProof.Rows
set_option maxRecDepth 100000 in
set_option maxHeartbeats 0 in
theorem PySem.Challenge.cw_manyleast_k61_papers_at_a_desk_holds : PySem.Challenge.rw_manyleast_k61_papers_at_a_desk.Holds := by
 refine MyQ.hd ?_
 k_fill
 refine L2.C9 (k:=My.yn) (l:=PySem.Challenge.rw_manyleast_k61_papers_at_a_desk) [(459,455),(452,448),(445,441),(438,434),(431,427)] ⟨J,∅,∅⟩ J J (λw h Y=>PySem.W.km_in_of Y) (λw h Y=>PySem.W.km_tabs_of Y) ?F
 case F=>
  intro w mg U h B G M;exists List.forall_mem_cons.mpr ⟨⟨by kernel_rfl,by kernel_rfl⟩,List.forall_mem_cons.mpr ⟨⟨by kernel_rfl,by kernel_rfl⟩,List.forall_mem_cons.mpr ⟨⟨by kernel_rfl,by kernel_rfl⟩,List.forall_mem_cons.mpr ⟨⟨by kernel_rfl,by kernel_rfl⟩,List.forall_mem_cons.mpr ⟨⟨by kernel_rfl,by kernel_rfl⟩,λ_ h=>nomatch h⟩⟩⟩⟩⟩;have I:L2.Def (L2.C6 B) mg "law" My.iq ["_law_script"]:=by
   dsimp only [L2.C6]
   refine' L2.r_ B G ?a ?l ?c ?k ?b
   (case a=>k_is);(case l=>k_is);(case c=>k_is);(case k=>k_is)
   (case b=>intro _ _ _ _ _ _ us O;obtain⟨_,rfl⟩:=List.length_eq_one_iff.1 O;rfl)
  obtain⟨uA,uB,uC,uD,uE,uF,uG,uH,z⟩:∃ uA uB uC uD uE uF uG uH:Addr,∀ base:Heap,L2.BMain mg base->My.Bz (L2.C6 B) mg base uA uB uC uD uE uF uG uH:=by
   dsimp only [L2.C6]
   refine' ⟨_,_,_,_,_,_,_,_,?Z⟩
   case' Z=>intro base N
   refine' ⟨?_,?_,?_,?_,?_,?_,?_,?_,?_,?_,?_,?_,?_,?_,?_,?_,?_,?_,?_,?_,?_,?_,?_,?_,?_,?_,?_,⟨"0123456789", 874,PySem.W.mg_of B G ?_,J⟩,⟨842,PySem.W.mg_of B G ?_,?_⟩,⟨859,PySem.W.mg_of B G ?_,?_⟩,⟨?_,?_,?_,?_⟩,⟨?_,?_,?_,?_⟩,⟨_,_,⟨?_,?_,?_,?_⟩,L2.LB ?_ ?_ ?_,?_⟩,⟨_,_,⟨?_,?_,?_⟩,L2.LB ?_ ?_ ?_,?_⟩,⟨_,_,⟨?_,?_,?_⟩,L2.LB ?_ ?_ ?_,?_⟩,⟨_,_,⟨?_,?_,?_⟩,L2.LB ?_ ?_ ?_,?_⟩,⟨_,_,⟨?_,?_,?_⟩,L2.LB ?_ ?_ ?_,?_⟩,⟨_,_,⟨?_,?_,?_⟩,L2.LB ?_ ?_ ?_,?_⟩,⟨_,_,⟨?_,?_,?_,?_⟩,L2.LB ?_ ?_ ?_,?_⟩,⟨_,_,⟨?_,?_,?_⟩,L2.LB ?_ ?_ ?_,?_⟩,⟨_,_,⟨?_,?_,?_⟩,L2.LB ?_ ?_ ?_,?_⟩,⟨_,_,⟨?_,?_,?_⟩,L2.LB ?_ ?_ ?_,?_⟩,?_,?_,?_,?_,?_,?_,?_,?_,?_,?_,?_,?_,?_,?_,?_,?_,?_,?_,?_,?_,?_,?_,?_,?_,?_,?_,?_,?_,?_,?_,?_,?_,?_,?_,?_,?_,?_,?_,?_,?_,L2.Q14 B G ?_ ?_ ?_ ?_ ?_ ?_,L2.Q14 B G ?_ ?_ ?_ ?_ ?_ ?_,L2.Q14 B G ?_ ?_ ?_ ?_ ?_ ?_,L2.Q14 B G ?_ ?_ ?_ ?_ ?_ ?_,L2.Q14 B G ?_ ?_ ?_ ?_ ?_ ?_,?_,?_,?_,?_,?_,?_,?_,?_,?_,?_,?_,?_,?_,?_,?_,?_,?_,?_,?_,?_,?_,?_,?_,?_,?_,?_,?_,?_,?_,?_,?_,?_,?_,?_,?_,?_,?_,?_,?_,?_,?_,?_,N⟩
   all_goals try first | (refine' PySem.W.mg_none_of B G ?_;k_is) | (refine' PySem.W.mg_of B G ?_;k_is) | (refine' L2.r_ B G ?_ ?_ ?_ ?_ ?_ <;> try first | k_is | exact λ_ _ _ _ _ _=>L2.ym J | exact λ_ _ _ _ _ _=>L2.K_ λ_=>J | exact λ_ _ _ _ _ _=>L2.K9 λ_ _=>J | exact λ_ _ _ _ _ _=>L2.wK λ_ _ _=>J | exact λ_ _ _ _ _ _=>L2.K8 λ_ _ _ _=>J | exact λ_ _ _ _ _ _=>L2.Tz λ_ _ _ _ _=>J) | k_is | kernel_rfl | exact λ_ _ _ _ _ _=>L2.ym J | exact λ_ _ _ _ _ _=>L2.K_ λ_=>J | exact λ_ _ _ _ _ _=>L2.K9 λ_ _=>J | exact λ_ _ _ _ _ _=>L2.wK λ_ _ _=>J | exact λ_ _ _ _ _ _=>L2.K8 λ_ _ _ _=>J | exact λ_ _ _ _ _ _=>L2.Tz λ_ _ _ _ _=>J | exact L2.ym J | exact L2.K_ λ_=>J | exact L2.K9 λ_ _=>J | exact L2.wK λ_ _ _=>J | exact L2.K8 λ_ _ _ _=>J | exact L2.Tz λ_ _ _ _ _=>J | decide | (unfold L2.Iz;first | k_is | kernel_rfl)
  exact L2.wX I (λbase f fd N S=>My.BI (base:=base) (z base N) f fd S) M
#print axioms PySem.Challenge.cw_manyleast_k61_papers_at_a_desk_holds
